import PyProof.Rows.All
import Wide.All
import OpenK.AllK
import Wide.FinOn
import Lean
import PyProof.EqAt
import PyProof.EqKinds
import PyProof.TupleCall
import PyProof.NeKinds
import PySem.Challenge.RW_layerdraw_k63_laid_sideways
set_option Elab.async false
set_option linter.all false
set_option maxRecDepth 100000
set_option maxHeartbeats 16000000
set_option genInjectivity false
set_option genSizeOf false
noncomputable section
theorem O.{u}{α:Sort u}{a:α}:a=a:=rfl
section
open PySem PySem.Spec PyProof.Rows
def mJ:=@wpAny_bind
def QT:=@List.length_map
def QU:=@Heap.get?_push_of_some
def QV:=@List.getD_eq_getElem?_getD
def QW:=@wpAny_pure
def QX:=@List.getElem?_eq_getElem
def QY:=@Nat.le_refl
def QZ:=@Heap.lt_size
def Q0:=@List.mem_of_getElem?
def Q1:=@Heap.get?_push_size
def Q2:=@List.map_append
def Q3:=@sizeLine_eq
def Q4:=@List.getElem?_map
def Q5:=@Nat.ne_of_lt
def Q6:=@List.mem_cons_of_mem
def Q7:=@Int.toNat_natCast
def Q8:=@List.mem_append_right
def Q9:=@List.mem_cons_self
def Ra:=@Bool.false_ne_true
def Rb:=@List.length_take
def Rc:=@List.size_toArray
def Re:=@List.length_cons
def Rf:=@List.take_length
def Rh:=@Heap.get?_update_other
def Ri:=@Nat.lt_of_lt_of_le
def Rj:=@of_decide_eq_true
def Rk:=@List.not_mem_nil
def Rl:=@Nat.lt_irrefl
def Rm:=@List.length_append
def Rn:=@wpAny_holding
def Ro:=@decide_eq_true
def Rp:=@List.mem_cons
def Rq:=@wpAny_field
def Rr:=@Heap.size_push
def Rs:=@List.length_replicate
def Rt:=@List.take_of_length_le
def Ru:=@List.mem_append_left
def Rv:=@Heap.get?_update_self
def Rx:=@List.getElem?_zip_eq_some
def Ry:=@wpAny_callSpecial?_slot
def Rz:=@Nat.le_trans
def RA:=@Nat.le_add_right
def RB:=@wpAny_call_entry
def RC:=@Bool.and_eq_true
def RD:=@List.length_set
def RE:=@Bool.false_eq_true
def RF:=@Int.le_refl
def RG:=@wpAny_seqItems
def RH:=@of_decide_eq_false
def RI:=@List.length_filter_le
def RJ:=@wpAny_mono
def RL:=@List.length_zip
def RM:=@Nat.lt_succ_of_lt
def RN:=@List.map_cons
def RO:=@Nat.le_succ
def RP:=@wpAny_Call_Name_kw
def RQ:=@decide_eq_false
def RS:=@Nat.le_of_lt
def RT:=@List.foldl_append
def RU:=@List.length_range
def RV:=@Nat.ne_of_gt
def RW:=@Nat.lt_succ_self
def RX:=@List.filter_cons
def RY:=@wpAny_tryCatch
def RZ:=@Nat.lt_or_ge
def R0:=@Nat.not_lt_zero
def R1:=@Int.emod_lt_of_pos
def R3:=@wpAny_isInstance
def R4:=@wpAny_truthy_bool
def R5:=@wpAny_pyIter_list
def R6:=@List.append_assoc
def R7:=@List.getElem?_eq_none
def R8:=@wpAny_of_eq
def R9:=@Nat.zero_le
def Sa:=@wpAny_updateSeq
def Sb:=@Int.emod_nonneg
def Sc:=@wpAny_setField_rec
def Sf:=@List.lookup_cons
def Sg:=@List.all_eq_true
def Sh:=@wpAny_attempt
def Si:=@List.nodup_iff_pairwise_ne
def Sj:=@List.replicate_succ
def Sk:=@Nat.lt_of_le_of_lt
def Sl:=@wpAny_setField
def Sm:=@List.nodup_nil
def Sn:=@wpAny_loadPart_at
def So:=@List.append_nil
def Sq:=@wpAny_letGo
def Sr:=@List.map_set
def Ss:=@List.map_map
def Su:=@wpAny_newObj_type
def Sv:=@List.length_drop
def Sw:=@List.getElem_mem
def Sx:=@wpAny_rule
def Sy:=@wpAny_nextOf_list_item
def Sz:=@List.filter_append
def SA:=@List.idxOf_lt_length_of_mem
def SB:=@wpAny_passesOwn
def SC:=@List.getElem?_append_right
def SD:=@List.flatten_cons
def SE:=@wpAny_typeOf
def SG:=@Int.le_of_lt
def SH:=@List.map_congr_left
def SI:=@wpAny_standAt
def SJ:=@wpAny_call
def SK:=@List.find?_cons
def SL:=@List.filter_nil
def SM:=@wpAny_fieldsOf
def SN:=@List.sublist_flatten_of_mem
def SO:=@Heap.get?_push_cases
def SQ:=@List.any_cons
def SR:=@Array.length_toList
def SS:=@List.flatten_append
def SU:=@List.of_mem_zip
def SV:=@List.getElem?_append_left
def SW:=@List.forIn_cons
def SX:=@List.nodup_cons
def SY:=@Array.getElem?_eq_getElem
def SZ:=@List.mem_of_find?_eq_some
def S0:=@Nat.le_of_eq
def S1:=@List.mem_singleton
def S2:=@Nat.zero_add
def S4:=@List.take_zero
def S5:=@Nat.add_sub_cancel_left
def S6:=@wpAny_pyIter_enum
def S7:=@Nat.lt_trichotomy
def S8:=@List.getElem?_set_self
def S9:=@List.range_succ_eq_map
def Ta:=@Array.getElem?_eq_none
def Tb:=@Array.getElem?_setIfInBounds_ne
def Tc:=@List.getElem?_set_ne
def Td:=@wpAny_execs_nil
def Te:=@Bool.eq_iff_iff
def Tf:=@List.nil_append
def Tg:=@Option.map_some
def Th:=@Nat.lt_trans
def Tj:=@wpAny_typeNameOfWhole_itemiter
def Tl:=@Nat.pow_le_pow_right
def Tn:=@List.replicate_succ'
def To:=@wpAny_typeNameOfWhole_keyiter
def Tp:=@wpAny_typeNameOfWhole_valiter
def Tq:=@Int.mul_le_mul_of_nonneg_left
def Tr:=@List.filterMap_cons
def Ts:=@wpAny_isSubtype_exc
def Tt:=@Nat.eq_zero_or_pos
def Tu:=@List.getElem?_drop
def Tv:=@Int.fdiv_eq_ediv_of_nonneg
def Tw:=@List.all_cons
def Tz:=@wpAny_letOwnedTupleGo_enum
def TB:=@Option.isSome_map
def TC:=@wpAny_dictEntries
def TD:=@List.take_add_one
def TF:=@List.pairwise_map
def TH:=@wpAny_check_type_call_sub
def TJ:=@wpAny_typeNameOf_itemiter
def TK:=@List.drop_eq_getElem_cons
def TL:=@Nat.add_comm
def TM:=@wpAny_comprehension_free
def TN:=@wpAny_typeNameOf_keyiter
def TQ:=@wpAny_pyIter_zip
def TR:=@List.any_map
def TU:=@wpAny_typeNameOf_valiter
def TV:=@List.map_fst_zip
def TW:=@wpAny_pyNext_range_item
def TX:=@List.getElem?_replicate
def TY:=@wpAny_specialOf
def TZ:=@wpAny_dictEpoch
def T0:=@List.mem_append
def T2:=@List.range_succ
def T3:=@wpAny_pyNext_list_item
def T4:=@wpAny_pyIter_rangeiter
def T5:=@wpAny_pyNext_dict_item
def T6:=@Int.mul_add
def T7:=@wpAny_isTrue_Compare1
def T8:=@wpAny_pyIter_listiter
def T9:=@List.length_singleton
def Ua:=@List.forIn_nil
def Ub:=@wpAny_pyNext_zip_item
def Uc:=@List.getElem?_toArray
def Ud:=@wpAny_notOrdered_dict
def Ue:=@List.Perm.append_left
def Uf:=@wpAny_newFunctionEnv
def Ug:=@wpAny_check_new_subT
def Uh:=@wpAny_newList
def Ui:=@wpAny_dictSet_pairs
def Uj:=@List.length_take_le
def Uk:=@List.getElem?_range
def Ul:=@wpAny_Constant_int
def Um:=@wpAny_pyIter_range
def Uo:=@List.all_map
def Up:=@List.contains_cons
def Uq:=@Bool.or_true
def Ur:=@List.forIn_toArray
def Us:=@Int.zero_mul
def Ut:=@List.getElem?_take
def Uu:=@wpAny_assign_Name
def Uv:=@Heap.Ns1.of_empty
def Uw:=@List.take_sublist
def Ux:=@wpAny_Call_method
def Uy:=@Nat.le_succ_of_le
def Uz:=@wpAny_pyIter_dict
def UA:=@wpAny_pyIter_slot
def UB:=@Nat.lt_of_succ_lt
def UC:=@List.getElem?_inj
def UD:=@List.nodup_append
def UE:=@wpAny_Name
def UF:=@wpAny_load
end
namespace L2
variable {A:Around}{E:Value->Shared->Prop}{G:Prop}{P prog:Program}{Q:Option Value->Shared->Prop}{R:Result->Shared->Prop}{a b e it t:Addr}{cs:List Addr}{env:Env}{h h':Heap}{i:Nat}{s:Shared}{vs:Array Value}{w:World}
open PySem PySem.Spec PyProof.Rows
theorem ex3 {α:Sort _}{a b:α->Prop} (k:∀ x,a x->b x->G):(∃ x,a x/\b x)->G:=fun⟨x,h1,h2⟩=>k x h1 h2
theorem ex4 {α β:Sort _}{a b:α->β->Prop} (k:∀ x y,a x y->b x y->G):(∃ x y,a x y/\b x y)->G:=fun⟨x,y,h1,h2⟩=>k x y h1 h2
theorem ex5 {α β:Sort _}{a b c:α->β->Prop} (k:∀ x y,a x y->b x y->c x y->G):(∃ x y,a x y/\b x y/\c x y)->G:=fun⟨x,y,h1,h2,h3⟩=>k x y h1 h2 h3
theorem Pl:entryFor table "proto.unchain"=some Builtin.«proto.unchain»:=entryFor_of_tree (by kernel_rfl)
def nxt (cs:List Addr) (j:Nat):Value:=match cs[j]? with|none=>Value.none|some b=>Value.ref b
def Chn (h:Heap) (cs:List Addr):Prop:=cs.Nodup/\∀ j a,cs[j]?=some a->∃ o vs,h.get? a=some o/\o.data=.fields vs/\vs[2]?=some (nxt cs (j + 1))
def Hd (A:Around) (h:Heap):Prop:=A.handled=none\/∃ a cs,A.handled=some (.ref a)/\Chn h (a::cs)
theorem Hd.keeps  (x:Hd A h) (k:∀ b o,h.get? b=some o->h'.get? b=some o):Hd A h':=by
 rcases x with e|⟨a,cs,e,nd,c⟩
 ·exact .inl e
 ·refine .inr ⟨a,cs,e,nd,fun j b hb=>?_⟩
  obtain⟨o,vs,ho,r⟩:=c j b hb;exact⟨o,vs,k b o ho,r⟩
theorem Hd.but {oi:Obj} (x:Hd A h) (hit:h.get? it=some oi) (yL:∀ vs,oi.data=.fields vs->vs.size<3\/vs[2]?≠some Value.none/\∀ b,vs[2]?≠some (.ref b)) (k:∀ b o,b≠it->h.get? b=some o->h'.get? b=some o):Hd A h':=by
 rcases x with e|⟨a,cs,e,nd,c⟩
 ·exact .inl e
 ·refine .inr ⟨a,cs,e,nd,fun j b hb=>?_⟩
  obtain⟨o,vs,ho,hd,h2⟩:=c j b hb;refine⟨o,vs,k b o (fun z=>?_) ho,hd,h2⟩;subst z;rw[hit] at ho;cases ho
  rcases yL vs hd with q|⟨q1,q2⟩
  ·have:=(Array.getElem?_eq_some_iff.mp h2).1
   omega
  ·unfold nxt at h2
   cases hz:(a::cs)[j + 1]? with
   | none=>rw[hz] at h2;exact q1 h2
   | some y=>rw[hz] at h2;exact q2 y h2
theorem PZ  (c:Chn s.heap cs) (he:e∉cs) (hR:R (.ok (.ret .none)) s):∀ (n j i:Nat) (o sl:Addr) (tg:Bool),cs.length - j=n->cs[j]?=some o->cs[i]?=some sl->i<=j ->
  codeAny (model prog w) A (.builtin "proto.unchain" ⟨[.ref e,.ref o,.ref sl,.bool tg],[]⟩) R s:=by
 intro n
 induction n with
 | zero=>
  intro j i o sl tg hn hj _ _;have:=(List.getElem?_eq_some_iff.mp hj).1;omega
 | succ n ih=>
  intro j i o sl tg hn hj hi w9;obtain⟨oo,vs,ho,hd,h2⟩:=c.2 j o hj;refine codeAny_builtin Pl ?_;unfold Builtin.«proto.unchain»;refine mJ (Rq ho hd h2 ?_);cases hz:cs[j + 1]? with
  | none=>
   simp only[nxt,hz]
   rw[if_pos (by rfl)];refine mJ (QW (QW ?_));exact hR
  | some b=>
   simp only[nxt,hz]
   have hb:b∈cs:=Q0 hz;have jX:b≠e:=fun z=>he (z ▸ hb)
   have Ho:b≠sl:=fun z=>by
    subst z;have e1:=List.getElem?_eq_some_iff.mp hz;have e2:=List.getElem?_eq_some_iff.mp hi;have lt:i<j + 1:=by omega
    exact(List.pairwise_iff_getElem.mp c.1) i (j + 1) e2.1 e1.1 lt (e2.2.trans e1.2.symm)
   rw[if_neg (by simp),if_neg (by simpa using jX),if_neg (by simpa using Ho)];have Jh:∃ b',cs[i + 1]?=some b':=by
    have e1:=(List.getElem?_eq_some_iff.mp hz).1;exact⟨_,QX (by omega)⟩
   obtain⟨b',CO⟩:=Jh;cases tg with
   | false=>
    rw[if_neg (by simp)];refine mJ (QW (QW ?_));exact(⟨Code.quiet_builtin _ (by decide +kernel),ih (j + 1) i b sl true (by omega) hz hi (by omega)⟩)
   | true=>
    rw[if_pos rfl];obtain⟨os,ws,nJ,aR,dD⟩:=c.2 i sl hi;simp only[nxt,CO] at dD
    refine mJ (Rq nJ aR dD (QW ?_));exact(⟨Code.quiet_builtin _ (by decide +kernel),ih (j + 1) (i + 1) b b' false (by omega) hz CO (by omega)⟩)
theorem Bf {α:Type}{oe:Obj}{Q:α->Shared->Prop} (hd:A.handled=none\/∃ a cs,A.handled=some (.ref a)/\Chn s.heap (a::cs)/\e∉a::cs) (he:s.heap.get? e=some oe) (hf:oe.data=.fields vs) (h2:2<vs.size)
  (h:∀ h' o' lG,(∀ b o,b≠e->s.heap.get? b=some o->h'.get? b=some o)->h'.get? e=some o'->o'.cls=oe.cls->o'.dict=oe.dict->o'.data=.fields lG->lG.size=vs.size->lG[1]?=vs[1]?->lG[2]?=(match A.handled with|none=>vs[2]?|some v=>some v)->E (.ref e) { s with heap:=h' }) :
  wpAny (model prog w) A (raiseNew (.ref e):Sem α) Q E s:=by
 unfold raiseNew;refine mJ (wpAny_handled ?_);rcases hd with hn|⟨a,cs,ha,c,hin⟩
 ·rw[hn]
  exact mJ (QW (wpAny_throw (h s.heap oe vs (fun _ _ _ q=>q) he O O hf O O (by rw[hn]))))
 ·rw[ha]
  have Im:a≠e:=fun z=>hin (by simp[z])
  show wpAny _ _ (if (Value.ref a != Value.ref e)=true then _ else _) _ _ s;rw[if_pos (by simpa using Im)];refine mJ (Rn (wpAny_runValue (PZ c hin ?_ _ 0 0 a a false O O O (QY _))));have up:=Obj.data_mapFields hf (·.setIfInBounds 2 (Value.ref a));refine mJ (show wpAny _ _ (setField (.ref e) 2 (.ref a)) _ _ s from Sl he hf h2 (wpAny_throw (h _ _ _ (fun b q hb hq=>(Rh _ _ (Ne.symm hb)).trans hq) (Rv _ he (Obj.isFreed_of_fields up)) (Obj.cls_mapFields _ _) ?_ up (by simp) ?_ ?_)))
  ·obtain⟨c1,d1,dt,sl⟩:=oe
   cases dt <;> rfl
  ·rw[Tb (by decide)]
  ·rw[ha];simp[h2]
theorem Chn.lt  (c:Chn h cs):∀ b∈cs,b<h.objs.size:=fun b hb=>by
 obtain⟨j,hj⟩:=List.mem_iff_getElem?.mp hb;obtain⟨o,_,ho,_⟩:=c.2 j b hj;exact QZ ho
theorem Chn.mono  (c:Chn h cs) (k:∀ b o,b∈cs->h.get? b=some o->h'.get? b=some o):Chn h' cs:=⟨c.1,fun j a hj=>by
 obtain⟨o,vs,ho,r⟩:=c.2 j a hj;exact⟨o,vs,k a o (Q0 hj) ho,r⟩⟩
theorem o7 {α:Type}{Q:α->Shared->Prop} (hd:Hd A s.heap)
  (h:∀ h' e,(∀ b o,s.heap.get? b=some o->h'.get? b=some o)->(∃ o',h'.get? e=some o'/\o'.cls=.type "StopIteration")->E (.ref e) { s with heap:=h' }) :
  wpAny (model prog w) A (newExc (.type "StopIteration") [] >>= fun e=>(raiseNew e:Sem α)) Q E s:=by
 refine mJ ?_;unfold newExc newTuple;refine mJ (Su ?_ (by size_fits));refine mJ (m:=firstArgMember _ _) (R8 (a:=Value.none) (by first|rfl|(simp only[firstArgMember];rfl)) (Su ?_ (by size_fits)));refine Bf ?_ (Q1 _ O) O (by simp;omega) fun h' o' lG k' e' c' _ _ _ _ _=>
  h h' _ (fun b o q=>k' b o (Q5 (by rw[Rr];exact RM (QZ q))) (QU _ (QU _ q))) ⟨o',e',c'⟩
 rcases hd with hn|⟨a,cs,ha,c⟩
 ·exact .inl hn
 ·refine .inr ⟨a,cs,ha,c.mono fun b o _ q=>QU _ (QU _ q),fun z=>?_⟩
  have:=c.lt _ z;rw[Rr] at this;exact absurd (Ri this (RO _)) (Rl _)
theorem Fb {l:Addr} {items} (hd:Hd A s.heap) (hit:s.heap.IsListIter it l i) (hl:s.heap.IsList l items) (hx:items[i]?=none)
  (hQ:∀ h',Heap.ExtBut it s.heap h'->Q none { s with heap:=h' }):wpAny (model prog w) A (pyNext (.ref it)) Q E s:=by
 obtain⟨o,ho,hc,ao⟩:=id hit;obtain⟨ol,sx,_,nl,lQ⟩:=hl;unfold pyNext;refine mJ (Sh (Ry (name:=Str.ofString "__next__") hit.typeIs slot_listiter_next (RB slot_listiter_next hit.typeIs entry_listiter_next ?_ (args_listiter_next _))));refine(show wpAny _ _ (field (.ref it) 0 >>= _) _ _ s from mJ (Rq ho ao (x:=.ref l) O ?_));refine(show wpAny _ _ (if (Value.ref l == Value.none)=true then _ else _) _ _ s from ?_);rw[if_neg (by simp)];refine(show wpAny _ _ (field (.ref it) 1 >>= _) _ _ s from mJ (Rq ho ao (x:=.int i 0) O ?_));refine(show wpAny _ _ (seqItems? (.ref l) >>= _) _ _ s from mJ (RG sx lQ ?_));simp only[Q7,hx]
 refine mJ (Sx (mJ (Sl ho ao (by simp) ?_)));have sb:Heap.SameBut it s.heap (s.heap.update it (Obj.mapFields (·.setIfInBounds 0 Value.none))):=Heap.SameBut.update ..;refine o7 (A:=A.in1) (hd.but ho (fun vs q=>.inl (by rw[ao] at q;cases q;simp)) sb.extBut) fun h' e k' ⟨o',e',c'⟩=>?_
 exact mJ (R3 (T:="StopIteration") (b:=true) ⟨o',e',c'⟩ isSubtype_stop (QW (hQ h' fun b q hb hq=>k' b q (sb.extBut b q hb hq))))
theorem E3  {items} (hd:Hd A s.heap) (hit:s.heap.IsTupleIter it t i) (ht:s.heap.IsTuple t items) (hx:items[i]?=none)
  (hQ:∀ h',Heap.ExtBut it s.heap h'->Q none { s with heap:=h' }):wpAny (model prog w) A (pyNext (.ref it)) Q E s:=by
 obtain⟨o,ho,hc,ao⟩:=id hit;obtain⟨ol,sx,_,nl,lQ⟩:=ht;unfold pyNext;refine mJ (Sh (Ry (name:=Str.ofString "__next__") hit.typeIs F.slot_tuple_iterator_next (RB F.slot_tuple_iterator_next hit.typeIs F.entry_tuple_iterator_next ?_ (F.args_tuple_iterator_next_1 _))));refine(show wpAny _ _ (field (.ref it) 0 >>= _) _ _ s from mJ (Rq ho ao (x:=.ref t) O ?_));refine(show wpAny _ _ (if (Value.ref t == Value.none)=true then _ else _) _ _ s from ?_);rw[if_neg (by simp)];refine(show wpAny _ _ (field (.ref it) 1 >>= _) _ _ s from mJ (Rq ho ao (x:=.int i 0) O ?_));refine(show wpAny _ _ (seqItems? (.ref t) >>= _) _ _ s from mJ (RG sx lQ ?_));simp only[Q7,hx]
 refine mJ (Sx (mJ (Sl ho ao (by simp) ?_)));have sb:Heap.SameBut it s.heap (s.heap.update it (Obj.mapFields (·.setIfInBounds 0 Value.none))):=Heap.SameBut.update ..;refine o7 (A:=A.in1) (hd.but ho (fun vs q=>.inl (by rw[ao] at q;cases q;simp)) sb.extBut) fun h' e k' ⟨o',e',c'⟩=>?_
 exact mJ (R3 (T:="StopIteration") (b:=true) ⟨o',e',c'⟩ isSubtype_stop (QW (hQ h' fun b q hb hq=>k' b q (sb.extBut b q hb hq))))
theorem GO {x left step:Int} (hd:Hd A s.heap) (hit:IsRangeIter s.heap it x left step) (sK:left<=0)
  (hQ:∀ h',Heap.ExtBut it s.heap h'->Q none { s with heap:=h' }):wpAny (model prog w) A (pyNext (.ref it)) Q E s:=by
 have hT:s.TypeIs (.ref it) "range_iterator":=⟨_,hit,O⟩;unfold pyNext;refine mJ (Sh (Ry (name:=Str.ofString "__next__") hT F.slot_range_iterator_next (RB F.slot_range_iterator_next hT F.entry_range_iterator_next ?_ (F.args_range_iterator_next_1 _))));refine(show wpAny _ _ (field (.ref it) 0 >>= _) _ _ s from mJ (Rq hit O (x:=rawInt x) O ?_));refine(show wpAny _ _ (field (.ref it) 1 >>= _) _ _ s from mJ (Rq hit O (x:=rawInt left) O ?_));refine(show wpAny _ _ (field (.ref it) 2 >>= _) _ _ s from mJ (Rq hit O (x:=rawInt step) O ?_));refine(show wpAny _ _ (if left<=0 then _ else _) _ _ s from ?_);rw[if_pos sK];refine mJ (Sx (mJ ?_));refine o7 (A:=A.in1) hd fun h' e k' ⟨o',e',c'⟩=>?_
 exact mJ (R3 (T:="StopIteration") (b:=true) ⟨o',e',c'⟩ isSubtype_stop (QW (hQ h' fun b q _ hq=>k' b q hq)))
theorem Pq {items:Array Value}{Q:List Value->Shared->Prop} (hd:Hd A s.heap) (ht:IsTup s.heap t items)
  (hQ:∀ h',Heap.ExtBut s.heap.objs.size s.heap h'->Q items.toList { s with heap:=h' }):wpAny (model prog w) A (unpackItems (.ref t) items.size none) Q E s:=by
 have aY:t≠s.heap.objs.size:=by obtain⟨o,ho,_⟩:=ht;exact Q5 (QZ ho)
 unfold unpackItems;refine mJ ?_;unfold notIterableAtAll;refine mJ (TY ht.typeIs slot_tuple_iter.lookup (QW ?_));simp only[RE,if_false]
 refine mJ (Rn (iter_tuple ht (mJ (Rn (draw_tuple aY items.size 0 _ _ ⟨_,Q1 _ O,O,O⟩ (ht.push _) (by omega) fun h₁ yr bq=>?_)))));rw[show List.take items.size (List.drop 0 items.toList)=items.toList by rw[List.drop_zero];exact Rt (by simp)];rw[if_neg (by simp)];have Jm:IsTup h₁ t items:=(ht.push _).extBut bq.extBut aY;have k₁:∀ b o,s.heap.get? b=some o->h₁.get? b=some o:=fun b o e=>bq.extBut b o (Q5 (QZ e)) (QU _ e)
 refine mJ (Rn (E3 (hd.keeps k₁) yr (show Heap.IsTuple h₁ t items from Jm) (by simp) fun h₂ Kr=>?_));simp only[Option.isSome_none,RE,if_false]
 exact QW (hQ h₂ fun b o hb e=>Kr b o hb (k₁ b o e))
theorem Om {kA:List Expr} {x1}{pos:Pos}{items:Array Value}{Q:Unit->Shared->Prop} (hd:Hd A s.heap) (ht:IsTup s.heap t items) (hn:(assignEach kA env).length=items.size) (sO:(assignEach kA env).findIdx? (·.1)=none)
  (h:∀ h',Heap.ExtBut s.heap.objs.size s.heap h'->wpAny (model prog w) A (assignInOrder ((assignEach kA env).map (·.2)) items.toList) Q E { s with heap:=h' }):wpAny (model prog w) A (assign (.Tuple kA x1 pos) env (.ref t)) Q E s:=by
 rw[assign_Tuple];refine mJ (SI ?_);unfold unpack;rw[hn,sO];exact mJ (Rn (Pq hd ht h))
abbrev Key:=Sum Int Str
def o6:Key->Value->Bool
 | .inl k,v=>Value.isInt k v
 | .inr x,v=>Value.isStrOf x v
def keyH (w:World):Key->Int
 | .inl k=>hashInt k
 | .inr x=>hashStr w x
theorem jI:∀ {k:Key}{v:Value},o6 k v=true->(∃ i t,k=Sum.inl i/\v=Value.int i t)\/(∃ x t,k=Sum.inr x/\v=Value.str x t)
 | .inl i,v,h=>by
  obtain⟨t,e⟩:=Value.isInt_shape (k:=i) (v:=v) h;exact .inl ⟨i,t,O,e⟩
 | .inr x,v,h=>by
  obtain⟨t,e⟩:=Value.isStrOf_shape (x:=x) (v:=v) h;exact .inr ⟨x,t,O,e⟩
theorem NH (i:Int) (t:Tok):o6 (.inl i) (.int i t)=true:=by simp[o6,Value.isInt]
theorem Mi (x:Str) (t:Tok):o6 (.inr x) (.str x t)=true:=by simp[o6,Value.isStrOf]
theorem key_ll (a b:Int):decide ((Sum.inl a:Key)=Sum.inl b)=(a == b):=by
 by_cases e:a=b
 ·subst e;simp
 ·have h:¬ (Sum.inl a:Key)=Sum.inl b:=fun q=>e (Sum.inl.inj q)
  rw[RQ h];exact(beq_eq_false_iff_ne.mpr e).symm
theorem key_rr (a b:Str):decide ((Sum.inr a:Key)=Sum.inr b)=decide (a=b):=by
 by_cases e:a=b
 ·subst e;simp
 ·have h:¬ (Sum.inr a:Key)=Sum.inr b:=fun q=>e (Sum.inr.inj q)
  rw[RQ h,RQ e]
theorem key_lr (a:Int) (b:Str):decide ((Sum.inl a:Key)=Sum.inr b)=false:=RQ (fun q=>nomatch q)
theorem key_rl (a:Str) (b:Int):decide ((Sum.inr a:Key)=Sum.inl b)=false:=RQ (fun q=>nomatch q)
def bJ (prog:Program) (w:World):PySem.KeyKind prog w Key where
 is:=o6
 hash:=keyH w
 inj:=fun v a b ha hb=>by
  rcases jI ha with⟨i,t,rfl,rfl⟩|⟨x,t,rfl,rfl⟩
  ·rcases jI hb with⟨j,u,rfl,e⟩|⟨y,u,rfl,e⟩
   ·injection e with e1 _;rw[e1]
   ·exact nomatch e
  ·rcases jI hb with⟨j,u,rfl,e⟩|⟨y,u,rfl,e⟩
   ·exact nomatch e
   ·injection e with e1 _;rw[e1]
 byValue:=fun k v h=>by
  rcases jI h with⟨i,t,rfl,rfl⟩|⟨x,t,rfl,rfl⟩ <;> rfl
 pyHash:=fun hv h=>by
  rcases jI hv with⟨i,t,rfl,rfl⟩|⟨x,t,rfl,rfl⟩
  ·exact wpAny_pyHash_int h
  ·exact wpAny_pyHash_str h
 eqBool:=fun hu hv h=>by
  rcases jI hu with⟨i,t,rfl,rfl⟩|⟨x,t,rfl,rfl⟩
  ·rcases jI hv with⟨j,u,rfl,rfl⟩|⟨y,u,rfl,rfl⟩
   ·rw[key_ll] at h;exact wpAny_eqBool_int h
   ·rw[key_lr] at h;exact SeqAt.EqAt.int_str i t y u _ _ _ _ h
  ·rcases jI hv with⟨j,u,rfl,rfl⟩|⟨y,u,rfl,rfl⟩
   ·rw[key_rl] at h;exact SeqAt.EqAt.str_int x t j u _ _ _ _ h
   ·rw[key_rr] at h;exact wpAny_eqBool_str h
 «strs»:=fun k x t v h=>by
  rcases jI h with⟨i,u,rfl,e⟩|⟨y,u,rfl,e⟩
  ·exact nomatch e
  ·injection e with e1 _
   subst e1;cases v <;> rfl
theorem Nh (prog:Program) (w:World) (i:Int) (t:Tok):(bJ prog w).is (.inl i) (.int i t)=true:=NH i t
theorem OJ (prog:Program) (w:World) (x:Str) (t:Tok):(bJ prog w).is (.inr x) (.str x t)=true:=Mi x t
set_option genInjectivity true
inductive V where
 | non | bl (b:Bool) | int (i:Int) | str (x:Str) | byt (b:Array UInt8) | flt (b:UInt64) | ref (a:Addr) | ty (n:String)
 deriving DecidableEq
set_option genInjectivity false
def av:V->Value->Prop
 | .non,u=>u=Value.none
 | .bl b,u=>u=Value.bool b
 | .int i,u=>∃ t,u=Value.int i t
 | .str x,u=>∃ t,u=Value.str x t
 | .byt b,u=>∃ t,u=Value.bytes b t
 | .flt b,u=>∃ t,u=Value.float b t
 | .ref a,u=>u=Value.ref a
 | .ty n,u=>u=Value.type n
abbrev aw:List V->List Value->Prop:=Paired av
theorem aw.length {xs:List V}{us:List Value} (r:aw xs us):xs.length=us.length:=Paired.length r
theorem aw.get:∀ {xs:List V}{us:List Value}{i:Nat}{x:V},aw xs us->xs[i]?=some x->∃ u,us[i]?=some u/\av x u
 | _,_,_,_,.nil,e=>by simp at e
 | _,_,0,_,.cons r _,e=>by simp at e;subst e;exact⟨_,O,r⟩
 | _,_,i + 1,x,.cons _ t,e=>by
  obtain⟨u,h1,h2⟩:=aw.get (i:=i) (x:=x) t (by simpa using e);exact⟨u,by simpa using h1,h2⟩
theorem aw.set {x:V}{u:Value} (r:av x u):∀ {xs:List V}{us:List Value} (i:Nat),aw xs us->aw (xs.set i x) (us.set i u)
 | _,_,_,.nil=>.nil
 | _,_,0,.cons _ t=>.cons r t
 | _,_,i + 1,.cons q t=>.cons q (aw.set r i t)
theorem aw.append:∀ {xs ys:List V}{us ws:List Value},aw xs us->aw ys ws->aw (xs++ys) (us++ws)
 | _,_,_,_,.nil,s=>s
 | _,_,_,_,.cons r t,s=>.cons r (aw.append t s)
theorem aw.take:∀ {xs:List V}{us:List Value} (n:Nat),aw xs us->aw (xs.take n) (us.take n)
 | _,_,0,_=>.nil
 | _,_,_ + 1,.nil=>.nil
 | _,_,n + 1,.cons r t=>.cons r (aw.take n t)
theorem aw.drop:∀ {xs:List V}{us:List Value} (n:Nat),aw xs us->aw (xs.drop n) (us.drop n)
 | _,_,0,r=>r
 | _,_,_ + 1,.nil=>.nil
 | _,_,n + 1,.cons _ t=>aw.drop n t
def dM:Option V->Option Value->Prop
 | some v,some u=>av v u
 | none,none=>True
 | _,_=>False
def KV {κ:Type}:List (κ×V)->List (κ×Value)->Prop:=Paired fun(p:κ×V) (q:κ×Value)=>p.1=q.1/\av p.2 q.2
def kV:Key->V
 | .inl i=>.int i
 | .inr x=>.str x
inductive HO where
 | lst (xs:List V)
 | tup (xs:List V)
 | dK (kvs:List (Key×V)) | dT (kvs:List (List Key×V))
 | set (S:Int->Bool) (n:Nat)
 | ins (C dx:Addr) (fs:List (Str×V))
 | own (x:Addr)
 | xd (fs:List (Str×V))
 | met (f x:Addr)
 | rng (lo hi:Int)
 | frz (o:Obj) (u:HO)
 | tbl (pos:Pos) (qual:Str)
 | ext (φ:Heap->Prop)
abbrev Hp:=Addr->Option HO
def upd (H:Hp) (a:Addr) (o:HO):Hp:=fun b=>if b=a then some o else H b
theorem ah {H:Hp}{o:HO}:upd H a o a=some o:=by unfold upd;rw[if_pos rfl]
theorem ai {H:Hp}{o:HO} (h:b≠a):upd H a o b=H b:=by unfold upd;rw[if_neg h]
theorem kU {H:Hp}{o u:HO} (h:H a=some o) (h':H b=some u) (d:o≠u):a≠b:=by
 intro e;subst e;rw[h] at h';exact d (Option.some.inj h')
theorem ap {H:Hp}{o:HO} (h:H a=some o) (h':H b=none):a≠b:=by
 intro e;subst e;rw[h] at h';cases h'
section
variable (P:Program) (w:World)
def cu (H:Hp) (h:Heap) (a:Addr):HO->Prop
 | .lst xs=>xs.length<=sizeLine/\∃ (ag:List Value) (n:Nat),aw xs ag/\h.get? a=some { cls:=.type "list",data:=.seq ag.toArray n }
 | .tup xs=>xs.length<=sizeLine/\∃ ag:List Value,aw xs ag/\IsTup h a ag.toArray
 | .dK kvs=>kvs.length<=sizeLine/\(a == sysModules)=false/\∃ vs,KV kvs vs/\h.DictOf (bJ P w) a vs
 | .dT kvs=>kvs.length<=sizeLine/\(a == sysModules)=false/\∃ xs:List (List Key×Addr×Value),
   Paired (fun(p:List Key×V) (q:List Key×Addr×Value)=>p.1=q.1/\H q.2.1=some (.tup (p.1.map kV))/\av p.2 q.2.2) kvs xs /\
   ∃ o es ep,h.get? a=some o/\o.ExactDict/\o.data=.dict es ep/\es.toList=xs.map (entryOfKey (tupleKind (bJ P w)))/\(xs.map (·.1)).Nodup
 | .set S n=>h.SetOf (intKind P w) a S n
 | .ins C dx fs=>H dx=some (.own a)/\fs.length<=1000/\dx≠a/\h.get? a=some (PySem.W.instObj C dx) /\
   ∃ mA,h.Ns1 dx mA/\(∀ f,dM (fs.lookup f) (mA f))/\PySem.Within mA (fs.map (·.1))
 | .own _=>∃ o,h.get? a=some o
 | .xd fs=>∃ mA,h.Ns1 a mA/\∀ f,dM (fs.lookup f) (mA f)
 | .rng lo hi=>∃ t u v,h.get? a=some { cls:=.type "range",data:=.fields #[.int lo t,.int hi u,.int 1 v] }
 | .frz o u=>h.get? a=some o/\cu H h a u
 | .tbl pos qual=>h.get? a=some { cls:=.none,data:=.fields #[] }\/∃ c oc vs t,H c=some (.frz oc (.own a))/\oc.data=.fields vs/\vs[1]?=some (.str qual t)/\h.get? a=some { cls:=.none,data:=.fields #[rawInt pos.line,rawInt pos.col,.ref c] }
 | .met f x=>h.get? a=some (PySem.W.methodObj (.ref f) (.ref x))
 | .ext φ=>φ h/\(∃ o,h.get? a=some o)/\∀ h1 h2:Heap,φ h1->(∀ o,h1.get? a=some o->h2.get? a=some o)->φ h2
def HOk (H:Hp) (h:Heap):Prop:=∀ a o,H a=some o->cu P w H h a o
end
section
variable {H H':Hp}{o:HO}
theorem cu.lt (x:cu P w H h a o):a<h.objs.size:=by
 cases o with
 | lst xs=>obtain⟨_,_,_,_,e⟩:=x;exact QZ e
 | tup xs=>obtain⟨_,_,_,p⟩:=x;exact p.lt
 | dK kvs=>obtain⟨_,_,_,_,o,_,_,e,_⟩:=x;exact QZ e
 | dT kvs=>obtain⟨_,_,_,_,o,_,_,e,_⟩:=x;exact QZ e
 | set S n=>obtain⟨o,_,_,_,e,_⟩:=x;exact QZ e
 | ins C dx fs=>obtain⟨_,_,_,e,_⟩:=x;exact QZ e
 | own y=>obtain⟨_,e⟩:=x;exact QZ e
 | xd fs=>obtain⟨_,⟨_,_,_,e,_⟩,_⟩:=x;exact QZ e
 | rng lo hi=>obtain⟨_,_,_,e⟩:=x;exact QZ e
 | frz ob u=>obtain⟨e,_⟩:=x;exact QZ e
 | tbl pos qual=>
  rcases x with e|⟨_,_,_,_,_,_,_,e⟩
  ·exact QZ e
  ·exact QZ e
 | met f y=>exact QZ (show h.get? a=some _ from x)
 | ext φ=>obtain⟨_,⟨_,e⟩,_⟩:=x;exact QZ e
theorem Paired.mapP {α β:Type}{F G:α->β->Prop}:∀ {l₁:List α}{l₂:List β},Paired F l₁ l₂->(∀ a b,F a b->G a b)->Paired G l₁ l₂
 | _,_,.nil,_=>.nil
 | _,_,.cons r t,f=>.cons (f _ _ r) (Paired.mapP t f)
theorem cu.stay (x:cu P w H h a o) (k:∀ b u,(b=a\/H b=some (.own a))->h.get? b=some u->h'.get? b=some u)
  (ho:∀ b,H b=some (.own a)->H' b=some (.own a)) (ht:∀ b xs,H b=some (.tup xs)->H' b=some (.tup xs)) (hf:∀ b ob,H b=some (.frz ob (.own a))->H' b=some (.frz ob (.own a)):=by exact fun _ _ q=>q):cu P w H' h' a o:=by
 induction o with
 | lst xs=>obtain⟨z,ag,n,r,e⟩:=x;exact⟨z,ag,n,r,k _ _ (.inl O) e⟩
 | tup xs=>obtain⟨z,ag,r,ob,e,c⟩:=x;exact⟨z,ag,r,ob,k _ _ (.inl O) e,c⟩
 | dK kvs=>obtain⟨z,y,vs,r,ob,es,ep,e,c⟩:=x;exact⟨z,y,vs,r,ob,es,ep,k _ _ (.inl O) e,c⟩
 | dT kvs=>
  obtain⟨z,y,xs,r,ob,es,ep,e,c⟩:=x;exact⟨z,y,xs,Paired.mapP r fun p q z=>⟨z.1,ht _ _ z.2.1,z.2.2⟩,ob,es,ep,k _ _ (.inl O) e,c⟩
 | set S n=>obtain⟨ob,es,ep,t,e,c⟩:=x;exact⟨ob,es,ep,t,k _ _ (.inl O) e,c⟩
 | ins C dx fs=>
  obtain⟨d,z,ne,e,mA,⟨od,es,ep,e2,c⟩,r⟩:=x;exact⟨ho _ d,z,ne,k _ _ (.inl O) e,mA,⟨od,es,ep,k _ _ (.inr d) e2,c⟩,r⟩
 | own y=>obtain⟨ob,e⟩:=x;exact⟨ob,k _ _ (.inl O) e⟩
 | xd fs=>obtain⟨mA,⟨od,es,ep,e,c⟩,r⟩:=x;exact⟨mA,⟨od,es,ep,k _ _ (.inl O) e,c⟩,r⟩
 | rng lo hi=>obtain⟨t,u,v,e⟩:=x;exact⟨t,u,v,k _ _ (.inl O) e⟩
 | frz ob u ih=>obtain⟨e,q⟩:=x;exact⟨k _ _ (.inl O) e,ih q⟩
 | tbl pos qual=>
  rcases x with e|⟨c,oc,vs,t,e1,e2,e3,e⟩
  ·exact .inl (k a _ (.inl O) e)
  ·exact .inr ⟨c,oc,vs,t,hf c oc e1,e2,e3,k a _ (.inl O) e⟩
 | met f y=>
  have e:h.get? a=some (PySem.W.methodObj (.ref f) (.ref y)):=x;show h'.get? a=some (PySem.W.methodObj (.ref f) (.ref y));exact k a _ (.inl O) e
 | ext φ=>obtain⟨p,⟨o,e⟩,st⟩:=x;exact⟨st _ _ p fun o q=>k _ _ (.inl O) q,⟨o,k _ _ (.inl O) e⟩,st⟩
theorem HOk.lt (x:HOk P w H h) (e:H a=some o):a<h.objs.size:=(x a o e).lt
theorem HOk.fresh (x:HOk P w H h) (e:h.objs.size<=a):H a=none:=by
 cases q:H a with
 | none=>rfl
 | some u=>exact absurd (Ri (x.lt q) e) (Rl _)
theorem HOk.kept (x:HOk P w H h) (k:∀ b u,h.get? b=some u->h'.get? b=some u):HOk P w H h':=fun a o e=>
 (x a o e).stay (fun b u _ q=>k b u q) (fun _ q=>q) fun _ _ q=>q
theorem HOk.laid (x:HOk P w H h) (k:∀ b u,h.get? b=some u->h'.get? b=some u) (hp:h.objs.size<=a) (new:cu P w (upd H a o) h' a o):HOk P w (upd H a o) h':=fun b u e=>by
 have hn:=x.fresh hp;by_cases hb:b=a
 ·subst hb;rw[ah] at e;cases e;exact new
 ·rw[ai hb] at e
  exact(x b u e).stay (fun c v _ q=>k c v q) (fun c q=>by rw[ai (ap q hn)];exact q) (fun c xs q=>by rw[ai (ap q hn)];exact q) fun c ob q=>by rw[ai (ap q hn)];exact q
end
def Rd (H:Hp) (a:Addr) (u:HO):Prop:=H a=some u\/∃ o,H a=some (.frz o u)
variable {H H':Hp}{M:Model}{N:List Str}{Q:Value->Shared->Prop}{aa iX:List (Addr×Obj)}{c e:Expr}{ch:List Addr}{d':Drawn}{g':Array GenState}{o ob:Obj}{op:CmpOp}{s':Shared}{t':Nat}{u:Value}{v:V}{x:Str}
theorem Rd.ok {u:HO} (r:Rd H a u) (x:HOk P w H h):cu P w H h a u:=by
 rcases r with r|⟨o,r⟩
 ·exact x a u r
 ·obtain⟨_,q⟩:=x a _ r
  exact q
def Mut:Option HO->Prop
 | some (.lst _)=>True
 | some (.dK _)=>True
 | some (.dT _)=>True
 | some (.set _ _)=>True
 | some (.ins _ _ _)=>True
 | some (.ext _)=>True
 | _=>False
section
variable {x e:Addr}{o':HO}
theorem HOk.write (ok:HOk P w H h) (mu:Mut (H x)) (he:e=x\/H e=some (.own x)) (k:∀ b u,b≠e->h.get? b=some u->h'.get? b=some u) (pP:∃ u,h'.get? e=some u)
  (new:cu P w (upd H x o') h' x o'):HOk P w (upd H x o') h':=fun b u q=>by
 have rV:∀ c y,H c=some (.own y)->c≠x:=fun c y r z=>by subst z;rw[r] at mu;exact mu
 have zT:∀ c xs,H c=some (.tup xs)->c≠x:=fun c xs r z=>by subst z;rw[r] at mu;exact mu
 by_cases hb:b=x
 ·subst hb;rw[ah] at q;cases q;exact new
 ·rw[ai hb] at q
  by_cases jX:b=e
  ·have q':H b=some (.own x):=by
    rcases he with z|z
    ·exact absurd (jX.trans z) hb
    ·rw[jX];exact z
   rw[q] at q';cases q'
   obtain⟨v,hv⟩:=pP;exact⟨v,by rw[jX];exact hv⟩
  ·refine(ok b u q).stay (fun c v hc r=>k c v ?_ r) (fun c r=>by rw[ai (rV c b r)];exact r) (fun c xs r=>by rw[ai (zT c xs r)];exact r) fun c ob r=>by rw[ai (fun z=>by subst z;rw[r] at mu;exact mu)];exact r
   rcases hc with rfl|hc
   ·exact jX
   ·rintro rfl
    rcases he with z|z
    ·exact rV c b hc z
    ·rw[hc] at z;cases z;exact hb rfl
end
structure Un (fs ex:List Addr) (H H':Hp) (h h':Heap):Prop where
 keep:∀ b o,h.get? b=some o->H b=none->b∉fs->b∉ex->h'.get? b=some o
 slot:∀ b o,h.get? b=some o->H b=none->b∈fs->b∉ex->∃ sl,h'.get? b=some { o with slots:=sl }
 free:∀ b o,h.get? b=some o->H b=none->b∉ex->H' b=none
 there:∀ b o,h.get? b=some o->b∉ex->∃ o',h'.get? b=some o'
 tups:∀ b xs,H b=some (.tup xs)->H' b=some (.tup xs)
 frzs:∀ b o u,H b=some (.frz o u)->H' b=some (.frz o u)
 tbls:∀ b p q,H b=some (.tbl p q)->H' b=some (.tbl p q)
section
variable {fs JD ex Cf:List Addr}{H1 H2:Hp}{h1 h2:Heap}{x e:Addr}{o:HO}
theorem Un.any (u:Un fs ex H H1 h h1) (q:h.get? b=some ob) (n:H b=none) (hx:b∉ex):∃ sl,h1.get? b=some { ob with slots:=sl }:=by
 by_cases hb:b∈fs
 ·exact u.slot b ob q n hb hx
 ·exact⟨ob.slots,u.keep b ob q n hb hx⟩
theorem Un.trans (a:Un fs ex H H1 h h1) (b:Un fs ex H1 H2 h1 h2):Un fs ex H H2 h h2 where
 keep:=fun c ob q n hc hx=>b.keep c ob (a.keep c ob q n hc hx) (a.free c ob q n hx) hc hx
 slot:=fun c ob q n hc hx=>by
  obtain⟨sl,e1⟩:=a.slot c ob q n hc hx;obtain⟨zC,e2⟩:=b.slot c _ e1 (a.free c ob q n hx) hc hx;exact⟨zC,e2⟩
 free:=fun c ob q n hx=>by
  obtain⟨o',e1⟩:=a.there c ob q hx;exact b.free c o' e1 (a.free c ob q n hx) hx
 there:=fun c ob q hx=>by
  obtain⟨o',e1⟩:=a.there c ob q hx;exact b.there c o' e1 hx
 tups:=fun c xs q=>b.tups c xs (a.tups c xs q)
 frzs:=fun c ob xs q=>b.frzs c ob xs (a.frzs c ob xs q)
 tbls:=fun c p q z=>b.tbls c p q (a.tbls c p q z)
theorem Un.kept (k:∀ b u,h.get? b=some u->h'.get? b=some u):Un fs ex H H h h':=
 ⟨fun b ob q _ _ _=>k b ob q,fun b ob q _ _ _=>⟨ob.slots,k b ob q⟩,fun _ _ _ n _=>n,fun b ob q _=>⟨ob,k b ob q⟩,fun _ _ q=>q,fun _ _ _ q=>q,fun _ _ _ q=>q⟩
theorem Un.refl:Un fs ex H H h h:=Un.kept fun _ _ q=>q
theorem Un.laid (k:∀ b u,h.get? b=some u->h'.get? b=some u) (hp:h.objs.size<=a) (hn:H a=none):Un fs ex H (upd H a o) h h' where
 keep:=fun b u q _ _ _=>k b u q
 slot:=fun b u q _ _ _=>⟨u.slots,k b u q⟩
 free:=fun b u q n _=>by rw[ai (Q5 (Ri (QZ q) hp))];exact n
 there:=fun b u q _=>⟨u,k b u q⟩
 tups:=fun b xs q=>by rw[ai (ap q hn)];exact q
 frzs:=fun b u xs q=>by rw[ai (ap q hn)];exact q
 tbls:=fun b p r q=>by rw[ai (ap q hn)];exact q
theorem Un.write (mu:Mut (H x)) (he:e=x\/H e=some (.own x)) (k:∀ b u,b≠e->h.get? b=some u->h'.get? b=some u) (pP:∃ u,h'.get? e=some u):Un fs ex H (upd H x o) h h':=by
 have hx:∀ b,H b=none->b≠x:=fun b n z=>by subst z;rw[n] at mu;exact mu
 have hb:∀ b,H b=none->b≠e:=fun b n z=>by
  subst z;rcases he with r|r
  ·exact hx b n r
  ·rw[n] at r;cases r
 have hm:∀ b u,H b=some u->¬ Mut (some u)->b≠x:=fun b u q nm z=>by subst z;rw[q] at mu;exact nm mu
 refine⟨fun b u q n _ _=>k b u (hb b n) q,fun b u q n _ _=>⟨u.slots,k b u (hb b n) q⟩,fun b u q n _=>by rw[ai (hx b n)];exact n,fun b u q _=>?_,
  fun b xs q=>by rw[ai (hm b _ q fun z=>z)];exact q,fun b u xs q=>by rw[ai (hm b _ q fun z=>z)];exact q,fun b p r q=>by rw[ai (hm b _ q fun z=>z)];exact q⟩
 by_cases jX:b=e
 ·subst jX;exact pP
 ·exact⟨u,k b u jX q⟩
end
def trk (h:Heap) (H:Hp):List Addr:=(List.range h.objs.size).filter fun a=>(H a).isSome
def mj (h:Heap) (H:Hp):Heap:=PySem.W.hideAll h (trk h H)
theorem OZ (h:Heap) (H:Hp):(mj h H).objs.size=h.objs.size:=PySem.W.hideAll_size _ _
theorem A5  (e:h.get? b=some o) (n:H b=none):(mj h H).get? b=some o:=
 PySem.W.hideAll_get _ e fun hm=>by
  have q:(H b).isSome=true:=(List.mem_filter.mp hm).2;rw[n] at q;simp at q
theorem NB  (e:(mj h H).get? b=some o):h.get? b=some o/\H b=none:=by
 have e':h.get? b=some o:=PySem.W.of_hideAll (trk h H) e;refine⟨e',?_⟩;cases q:H b with
 | none=>rfl
 | some x=>
  have hm:b∈trk h H:=List.mem_filter.mpr ⟨List.mem_range.mpr (QZ e'),by simp[q]⟩;have z:(mj h H).get? b=none:=PySem.W.hideAll_none (trk h H) hm;rw[z] at e;cases e
def MH (g h:Heap) (L:Addr):List (Addr×Obj):=(List.range h.objs.size).filterMap fun a=>if a=L\/(g.get? a).isSome=true then none else(h.get? a).map fun o=>(a,o)
def aT (g h:Heap) (L d:Addr):List (Addr×Obj):=(MH g h L).filter fun p=>decide (p.1≠d)
structure Mod (K:PySem.W.Frag) (mg:Str->Option Value) (base:Heap):Prop where
 kin:K.In base
 glob:base.Ns mainGlobals mg
 blt:∃ mb,base.Ns builtinsNs mb/\∀ x:Str,x≠"__name__"->mb x=bootBuiltins x
 nolimit:base.NoLimit
 bmain:∃ bm ob,mg "__builtins__"=some (.ref bm)/\bm≠builtinsNs/\base.get? bm=some ob/\ob.cls=.type "module"/\ob.dict=some builtinsNs/\ob.data=.plain
structure Cx where
 prog:Program
 w:World
 K:PySem.W.Frag
 mg:Str->Option Value
 base:Heap
 A:Around
 N:List Str
 s₀:Shared
 H₀:Hp
 env:Env
 outer:List Env
 stack:List Env
 ex:List Addr
 fn:Str->Bool
 calm:Bool
 pn:List (Addr×Obj)
 xe:Value->Shared->Prop
def frs (l:List Env):List Addr:=l.filterMap (·.frame)
abbrev Cx.fs (X:Cx):List Addr:=frs X.outer
def Vis (sc:Scope) (x:Str):Prop:=sc.names.lookup x=some .local\/sc.names.lookup x=some .cell\/sc.names.lookup x=some .free
def Loc (sc:Scope) (x:Str):Prop:=sc.names.lookup x=some .local\/sc.names.lookup x=some .cell
def Look (env:Env) (h:Heap) (m:Str->Option Value) (x:Str) (u:Value):Prop:=
 (env.kindOf x=some .local/\m x=some u)\/((env.kindOf x=some .cell\/env.kindOf x=some .free)/\∃ c,env.cells.lookup x=some c/\h.IsCell c (some u))
def jo (H:Hp) (cs:List Addr):Prop:=cs.Nodup/\∀ j a,cs[j]?=some a->∃ o u vs,H a=some (.frz o u)/\o.data=.fields vs/\vs[2]?=some (nxt cs (j + 1))
def iK (A:Around) (H:Hp):Prop:=A.handled=none\/∃ a cs,A.handled=some (.ref a)/\jo H (a::cs)
structure Cx.Ok (X:Cx):Prop where
 mod:Mod X.K X.mg X.base
 kind:X.env.scope.kind=.function
 glob:X.env.globals=mainGlobals
 blt:X.env.builtins=builtinsNs
 above:X.s₀.heap.objs.size<=X.env.locals
 inj:∀ x y c,X.env.cells.lookup x=some c->X.env.cells.lookup y=some c->x=y
 has:∀ x,(X.env.kindOf x=some .cell\/X.env.kindOf x=some .free)->∃ c,X.env.cells.lookup x=some c
 cab:∀ x c,X.fn x=true->X.env.cells.lookup x=some c->X.s₀.heap.objs.size<=c
 hd:iK X.A X.H₀
 frames:X.A.frames=some X.stack
 stk:X.stack=X.outer\/(X.stack=X.env::X.outer/\X.env.frame=some X.env.locals)
 exf:∀ b∈X.ex,b≠X.env.locals/\∀ x c,X.env.cells.lookup x=some c->c≠b
 bs:∀ b o,X.base.get? b=some o->X.s₀.heap.get? b=some o/\X.H₀ b=none
 bsz:X.base.objs.size<=X.s₀.heap.objs.size
 noex:∀ b o,X.base.get? b=some o->b∉X.ex
 exfs:∀ b∈X.ex,b∉X.fs
 funs:X.s₀.heap.FunFrames X.base X.outer
 frf:∀ b∈X.fs,X.H₀ b=none
structure Inv (X:Cx) (aa:List (Addr×Obj)) (σ:List (Option V)) (H:Hp) (s:Shared):Prop where
 ok:X.Ok
 os:s.os=X.s₀.os
 bare:AllBare s.gens
 base:Un X.fs X.ex X.H₀ H X.s₀.heap s.heap
 loc:∃ m,s.heap.Ns X.env.locals m/\∀ (i:Nat) (x:Str) (v:V),X.N[i]?=some x->σ[i]?=some (some v)->Vis X.env.scope x->∃ u,av v u/\Look X.env s.heap m x u
 cell:∀ x c,X.env.cells.lookup x=some c->∃ v,s.heap.IsCell c v
 free:H X.env.locals=none
 freeC:∀ x c,X.env.cells.lookup x=some c->H c=none
 pin:∀ p∈X.pn++aa,s.heap.get? p.1=some p.2/\H p.1=none/\p.1≠X.env.locals/\p.1∉X.fs/\∀ v,p.2.data≠.cell v
 hok:HOk X.prog X.w H s.heap
 len:σ.length=X.N.length
section
variable {X:Cx}{σ:List (Option V)}
theorem Cx.Ok.nofr (ok:X.Ok) (e:X.base.get? b=some o):b∉X.fs:=fun hb=>by
 have:=(ok.funs.mem hb).1;rw[e] at this;cases this
theorem Inv.bs (I:Inv X aa σ H s):∀ b o,X.base.get? b=some o->s.heap.get? b=some o/\H b=none:=fun b o e=>
 ⟨I.base.keep b o (I.ok.bs b o e).1 (I.ok.bs b o e).2 (I.ok.nofr e) (I.ok.noex b o e),I.base.free b o (I.ok.bs b o e).1 (I.ok.bs b o e).2 (I.ok.noex b o e)⟩
theorem Inv.bk (I:Inv X aa σ H s):∀ b o,X.base.get? b=some o->s.heap.get? b=some o:=fun b o e=>(I.bs b o e).1
theorem Inv.mod (I:Inv X aa σ H s):Mod X.K X.mg X.base:=I.ok.mod
theorem Inv.kIn (I:Inv X aa σ H s):X.K.In s.heap:=I.ok.mod.kin.keeps I.bk
theorem jo.mono  (c:jo H cs) (k:∀ b o u,H b=some (.frz o u)->H' b=some (.frz o u)):jo H' cs:=⟨c.1,fun j a hj=>by
 obtain⟨o,u,vs,h,r⟩:=c.2 j a hj;exact⟨o,u,vs,k a o u h,r⟩⟩
theorem jo.chn  (c:jo H cs) (k:HOk P w H h):Chn h cs:=⟨c.1,fun j a hj=>by
 obtain⟨o,u,vs,q,r⟩:=c.2 j a hj;obtain⟨z,_⟩:=k a _ q;exact⟨o,vs,z,r⟩⟩
theorem jo.not_mem  (c:jo H cs) (hb:H b=none):b∉cs:=fun z=>by
 obtain⟨j,hj⟩:=List.mem_iff_getElem?.mp z;obtain⟨o,u,vs,q,_⟩:=c.2 j b hj;rw[hb] at q;cases q
theorem iK.mono {A:Around} (x:iK A H) (k:∀ b o u,H b=some (.frz o u)->H' b=some (.frz o u)):iK A H':=by
 rcases x with e|⟨a,cs,e,c⟩
 ·exact .inl e
 ·exact .inr ⟨a,cs,e,c.mono k⟩
theorem Inv.hdAt (I:Inv X aa σ H s):iK X.A H:=I.ok.hd.mono I.base.frzs
theorem iK.hd  (x:iK A H) (k:HOk P w H h):Hd A h:=by
 rcases x with e|⟨a,cs,e,c⟩
 ·exact .inl e
 ·exact .inr ⟨a,cs,e,c.chn k⟩
theorem iK.new {p:Addr}{u:HO} (x:iK A H) (hn:H p=none):iK A (upd H p u):=x.mono fun b o v q=>by rw[ai (ap q hn)];exact q
theorem Inv.hd (I:Inv X aa σ H s):Hd X.A s.heap:=I.hdAt.hd I.hok
theorem Inv.lt (I:Inv X aa σ H s):X.env.locals<s.heap.objs.size:=let ⟨_,hn,_⟩:=I.loc;hn.lt
theorem Inv.sz (I:Inv X aa σ H s):X.s₀.heap.objs.size<=s.heap.objs.size:=Rz I.ok.above (RS I.lt)
theorem Inv.nofs (I:Inv X aa σ H s) (h:s.heap.objs.size<=a):a∉X.fs:=fun hb=>by
 obtain⟨_,o,ho,_⟩:=I.ok.funs.mem hb;exact absurd (Ri (QZ ho) (Rz I.sz h)) (Rl _)
theorem Inv.cne (I:Inv X aa σ H s):∀ x c,X.env.cells.lookup x=some c->c≠X.env.locals:=fun x c e z=>by
 obtain⟨v,o,ho,hd⟩:=I.cell x c e;obtain⟨m,⟨o',es,ep,ir,bD,_⟩,_⟩:=I.loc;rw[z,ir] at ho;cases ho;rw[bD] at hd;cases hd
theorem Inv.funs (I:Inv X aa σ H s):s.heap.FunFrames X.base X.outer:=by
 have all:∀ (l:List Env),(∀ b∈frs l,b∈X.fs)->X.s₀.heap.FunFrames X.base l->s.heap.FunFrames X.base l:=by
  intro l
  induction l with
  | nil=>intro _ _;trivial
  | cons env r ih=>
   intro hs hl;obtain⟨hk,⟨L,o,hf,hn,ho,hd⟩,hr⟩:=hl;have hL:L∈X.fs:=hs L (by unfold frs;rw[Tr,hf];exact Q9);obtain⟨sl,e⟩:=I.base.slot L o ho (I.ok.frf L hL) hL fun z=>I.ok.exfs L z hL
   exact⟨hk,⟨L,_,hf,hn,e,hd⟩,ih (fun b hb=>hs b (by unfold frs;rw[Tr,hf];exact Q6 _ hb)) hr⟩
 exact all X.outer (fun _ hb=>hb) I.ok.funs
theorem Inv.stack (I:Inv X aa σ H s):s.heap.FunFrames X.base X.stack:=by
 rcases I.ok.stk with e|⟨e,hf⟩
 ·rw[e];exact I.funs
 ·rw[e]
  obtain⟨m,hn,_⟩:=I.loc;refine .cons (by rw[I.ok.kind];decide) hf hn ?_ I.funs;exact Heap.get?_none_of_le (Rz I.ok.bsz I.ok.above)
theorem Inv.stkSub (I:Inv X aa σ H s):∀ b∈frs X.stack,b∈X.env.locals::X.fs:=fun b hb=>by
 rcases I.ok.stk with e|⟨e,hf⟩
 ·rw[e] at hb;exact Q6 _ hb
 ·rw[e] at hb
  unfold frs at hb;rw[Tr,hf] at hb;exact hb
theorem Inv.stkFree (I:Inv X aa σ H s):∀ b∈frs X.stack,H b=none:=fun b hb=>by
 rcases Rp.mp (I.stkSub b hb) with e|hb
 ·rw[e];exact I.free
 ·obtain⟨_,o,ho,_⟩:=I.ok.funs.mem hb
  exact I.base.free b o ho (I.ok.frf b hb) fun z=>I.ok.exfs b z hb
theorem Inv.step  (I:Inv X aa σ H s)
  (fM:∀ b∈ch,(b∈X.ex\/X.s₀.heap.objs.size<=b)/\b≠X.env.locals/\(∀ x c,X.env.cells.lookup x=some c->c≠b)/\∀ p∈X.pn++aa,p.1≠b)
  (keep:∀ b o,b≠X.env.locals->b∉X.fs->b∉ch->s.heap.get? b=some o->H b=none->h'.get? b=some o)
  (slot:∀ b o,b≠X.env.locals->b∈X.fs->b∉ch->s.heap.get? b=some o->H b=none->∃ sl,h'.get? b=some { o with slots:=sl }) (free:∀ b o,b∉ch->s.heap.get? b=some o->H b=none->H' b=none)
  (there:∀ b o,b∉ch->s.heap.get? b=some o->∃ o',h'.get? b=some o')
  (tups:∀ b xs,H b=some (.tup xs)->H' b=some (.tup xs)) (frzs:∀ b o u,H b=some (.frz o u)->H' b=some (.frz o u)) (tbls:∀ b p q,H b=some (.tbl p q)->H' b=some (.tbl p q))
  (ns:∀ m,s.heap.Ns X.env.locals m->h'.Ns X.env.locals m) (hok:HOk X.prog X.w H' h') (hg:AllBare g') :
  Inv X aa σ H' { s with heap:=h',gens:=g',drawn:=d',toks:=t' }:=by
 have Dj:∀ b o,X.s₀.heap.get? b=some o->b≠X.env.locals:=fun b o e=>Q5 (Ri (QZ e) I.ok.above)
 have uw:∀ b o,X.s₀.heap.get? b=some o->b∉X.ex->b∉ch:=fun b o e hx hb=>by
  rcases(fM b hb).1 with z|z
  ·exact hx z
  ·exact absurd (Ri (QZ e) z) (Rl _)
 have lV:∀ x c,X.env.cells.lookup x=some c->∀ v,s.heap.IsCell c v->h'.IsCell c v:=fun x c e v ⟨o,ho,hd⟩=>by
  have qW:c∉ch:=fun z=>(fM c z).2.2.1 x c e rfl
  by_cases hc:c∈X.fs
  ·obtain⟨sl,q⟩:=slot c o (I.cne x c e) hc qW ho (I.freeC x c e)
   exact⟨_,q,hd⟩
  ·exact⟨o,keep c o (I.cne x c e) hc qW ho (I.freeC x c e),hd⟩
 refine⟨I.ok,I.os,hg,⟨fun b o e n hb hx=>?_,fun b o e n hb hx=>?_,fun b o e n hx=>?_,fun b o e hx=>?_,fun b xs e=>tups b xs (I.base.tups b xs e),fun b o xs e=>frzs b o xs (I.base.frzs b o xs e),fun b p q e=>tbls b p q (I.base.tbls b p q e)⟩,?_,fun x c e=>?_,?_,fun x c e=>?_,fun p hp=>?_,hok,I.len⟩
 ·exact keep b o (Dj b o e) hb (uw b o e hx) (I.base.keep b o e n hb hx) (I.base.free b o e n hx)
 ·obtain⟨sl,e1⟩:=I.base.slot b o e n hb hx
  obtain⟨zC,e2⟩:=slot b _ (Dj b o e) hb (uw b o e hx) e1 (I.base.free b o e n hx);exact⟨zC,e2⟩
 ·obtain⟨o',e1⟩:=I.base.there b o e hx
  exact free b o' (uw b o e hx) e1 (I.base.free b o e n hx)
 ·obtain⟨o',e1⟩:=I.base.there b o e hx
  exact there b o' (uw b o e hx) e1
 ·obtain⟨m,hn,hl⟩:=I.loc
  refine⟨m,ns m hn,fun i x v e1 e2 e3=>?_⟩;obtain⟨u,r,l⟩:=hl i x v e1 e2 e3;refine⟨u,r,?_⟩;rcases l with l|⟨k,c,e,z⟩
  ·exact .inl l
  ·exact .inr ⟨k,c,e,lV x c e _ z⟩
 ·obtain⟨v,z⟩:=I.cell x c e
  exact⟨v,lV x c e v z⟩
 ·obtain⟨m,⟨o,_,_,ho,_⟩,_⟩:=I.loc
  exact free _ o (fun z=>(fM _ z).2.1 O) ho I.free
 ·obtain⟨v,o,ho,hd⟩:=I.cell x c e
  exact free c o (fun z=>(fM c z).2.2.1 x c e O) ho (I.freeC x c e)
 ·obtain⟨e,n,ne,nf,d⟩:=I.pin p hp
  have qW:p.1∉ch:=fun z=>(fM p.1 z).2.2.2 p hp rfl
  exact⟨keep p.1 p.2 ne nf qW e n,free p.1 p.2 qW e n,ne,nf,d⟩
theorem Inv.un  (I:Inv X aa σ H s) (u:Un X.fs [] H H' s.heap h') (hok:HOk X.prog X.w H' h'):Inv X aa σ H' { s with heap:=h',toks:=t' }:=by
 obtain⟨m,⟨o,es,ep,ho,r⟩,_⟩:=id I.loc;obtain⟨sl,hL⟩:=u.any ho I.free (by simp);exact I.step (g':=s.gens) (d':=s.drawn) (ch:=[]) (fun _ z=>nomatch z) (fun b o _ hb _ e n=>u.keep b o e n hb (by simp)) (fun b o _ hb _ e n=>u.slot b o e n hb (by simp)) (fun b o _ e n=>u.free b o e n (by simp)) (fun b o _ e=>u.there b o e (by simp)) u.tups u.frzs u.tbls (fun m' hm=>by
  obtain⟨o',cR,xu,ir,r'⟩:=hm;rw[ho] at ir;cases ir
  exact⟨_,cR,xu,hL,r'⟩) hok I.bare
theorem Inv.call  (I:Inv X aa σ H s) (u:Un (frs X.stack) ch H H' s.heap h') (hok:HOk X.prog X.w H' h') (hg:AllBare g')
  (fM:∀ b∈ch,(b∈X.ex\/X.s₀.heap.objs.size<=b)/\b≠X.env.locals/\(∀ x c,X.env.cells.lookup x=some c->c≠b)/\∀ p∈X.pn++aa,p.1≠b) :
  Inv X aa σ H' { s with heap:=h',gens:=g',drawn:=d',toks:=t' }:=by
 obtain⟨m,⟨o,es,ep,ho,r⟩,_⟩:=id I.loc;obtain⟨sl,hL⟩:=u.any ho I.free fun z=>(fM _ z).2.1 rfl
 exact I.step (ch:=ch) fM (fun b o hL hb hc e n=>u.keep b o e n (fun z=>(Rp.mp (I.stkSub b z)).elim hL hb) hc) (fun b o _ _ hc e n=>u.any e n hc) (fun b o hc e n=>u.free b o e n hc) (fun b o hc e=>u.there b o e hc) u.tups u.frzs u.tbls (fun m' hm=>by
  obtain⟨o',cR,xu,ir,r'⟩:=hm;rw[ho] at ir;cases ir
  exact⟨_,cR,xu,hL,r'⟩) hok hg
theorem Inv.turned  (I:Inv X aa σ H s) (k:∀ b o,b≠it->s.heap.get? b=some o->h'.get? b=some o) (hn:H it=none) (hL:it≠X.env.locals)
  (h1:it∈X.ex\/X.s₀.heap.objs.size<=it) (h2:∀ x c,X.env.cells.lookup x=some c->c≠it) (h3:∀ p∈X.pn++aa,p.1≠it):Inv X aa σ H { s with heap:=h',toks:=t' }:=by
 have CW:∀ b u,H b=some u->b≠it:=fun b u e z=>by rw[z,hn] at e;cases e
 refine I.step (g':=s.gens) (d':=s.drawn) (ch:=[it]) (fun b hb=>?_) (fun b o _ _ hc e _=>k b o (fun z=>hc (by simp[z])) e) (fun b o _ _ hc e _=>⟨o.slots,k b o (fun z=>hc (by simp[z])) e⟩) (fun _ _ _ _ n=>n)
  (fun b o hc e=>⟨o,k b o (fun z=>hc (by simp[z])) e⟩) (fun _ _ e=>e) (fun _ _ _ e=>e) (fun _ _ _ e=>e) (fun m hm=>?_) (fun b u e=>?_) I.bare
 ·have e:b=it:=by simpa using hb
  subst e;exact⟨h1,hL,h2,h3⟩
 ·obtain⟨o,es,ep,ho,r⟩:=hm
  exact⟨o,es,ep,k _ o (Ne.symm hL) ho,r⟩
 ·refine(I.hok b u e).stay (fun c v hc q=>k c v ?_ q) (fun _ q=>q) fun _ _ q=>q
  rcases hc with z|z
  ·rw[z];exact CW b u e
  ·exact CW c _ z
theorem Inv.tok (I:Inv X aa σ H s) (t:Nat):Inv X aa σ H { s with toks:=t }:=I.un (h':=s.heap) (t':=t) Un.refl I.hok
theorem Inv.kept {t':Nat} (I:Inv X aa σ H s) (k:∀ b u,s.heap.get? b=some u->h'.get? b=some u):Inv X aa σ H { s with heap:=h',toks:=t' }:=I.un (Un.kept k) (I.hok.kept k)
theorem Inv.laid {a:Addr}{o:HO}{t':Nat} (I:Inv X aa σ H s) (k:∀ b u,s.heap.get? b=some u->h'.get? b=some u) (hp:s.heap.objs.size<=a) (new:cu X.prog X.w (upd H a o) h' a o) :
  Inv X aa σ (upd H a o) { s with heap:=h',toks:=t' }:=I.un (Un.laid k hp (I.hok.fresh hp)) (I.hok.laid k hp new)
theorem Inv.write {x e:Addr}{o:HO}{t':Nat} (I:Inv X aa σ H s) (mu:Mut (H x)) (he:e=x\/H e=some (.own x)) (k:∀ b u,b≠e->s.heap.get? b=some u->h'.get? b=some u) (pP:∃ u,h'.get? e=some u)
  (new:cu X.prog X.w (upd H x o) h' x o):Inv X aa σ (upd H x o) { s with heap:=h',toks:=t' }:=I.un (Un.write mu he k pP) (I.hok.write mu he k pP new)
theorem Inv.pins_of  (I:Inv X aa σ H s) (h:∀ p∈iX,s.heap.get? p.1=some p.2/\H p.1=none/\p.1≠X.env.locals/\p.1∉X.fs/\∀ v,p.2.data≠.cell v):Inv X iX σ H s:=
 ⟨I.ok,I.os,I.bare,I.base,I.loc,I.cell,I.free,I.freeC,fun p hp=>(T0.mp hp).elim (fun z=>I.pin p (Ru _ z)) (h p),I.hok,I.len⟩
theorem Gc  (hN:N.Nodup){j:Nat} (a:N[i]?=some x) (b:N[j]?=some x):i=j:=by
 obtain⟨h1,e1⟩:=List.getElem?_eq_some_iff.mp a;obtain⟨h2,e2⟩:=List.getElem?_eq_some_iff.mp b;exact(List.getElem_inj hN).mp (e1.trans e2.symm)
theorem E6 {Q:Unit->Shared->Prop} (I:Inv X aa σ H s) (hN:X.N.Nodup) (hi:X.N[i]?=some x) (hx:Loc X.env.scope x) (r:av v u)
  (h:∀ s',Inv X aa (σ.set i (some v)) H s'->(∃ a,Heap.SameBut a s.heap s'.heap/\(a=X.env.locals\/X.env.cells.lookup x=some a))->Q () s') (hf:X.fn x=true\/X.env.scope.names.lookup x=some .local:=by first|exact .inl rfl|exact .inr rfl|assumption):wpAny M A (storeName X.env x u) Q E s:=by
 obtain⟨m,hn,hl⟩:=id I.loc;have zE:(X.env.scope.kind == .class || (X.env.scope.kind == .module && X.env.locals != X.env.globals))=false:=by rw[I.ok.kind];rfl
 have C5:i<σ.length:=by rw[I.len];exact(List.getElem?_eq_some_iff.mp hi).1
 have cne:=I.cne;have gX:∀ {a:Addr}{h':Heap},(∃ o,s.heap.get? a=some o/\H a=none)->Heap.SameBut a s.heap h'->HOk X.prog X.w H h':=fun {a h'} ha hs b ob e=>by
  obtain⟨_,_,lM⟩:=ha;refine(I.hok b ob e).stay (fun c w' hc q=>(hs.2 c ?_).trans q) (fun _ q=>q) fun _ _ q=>q
  rintro rfl
  rcases hc with rfl|hc
  ·rw[lM] at e;cases e
  ·rw[lM] at hc;cases hc
 rcases hx with hk|hk
 ·refine wpAny_storeName_local hk hn (fun h' nM hs=>?_) zE
  obtain⟨oL,_,_,qM,_⟩:=id hn;refine h _ ⟨I.ok,I.os,I.bare,⟨fun b o e n hb hx=>?_,fun b o e n hb hx=>?_,I.base.free,fun b o e hx=>?_,I.base.tups,I.base.frzs,I.base.tbls⟩,⟨_,nM,fun j y v' e1 e2 e3=>?_⟩,fun y c e=>?_,I.free,I.freeC,fun p hp=>?_,gX ⟨oL,qM,I.free⟩ hs,by simpa using I.len⟩ ⟨_,hs,.inl rfl⟩
  ·exact(hs.2 b (Q5 (Ri (QZ e) I.ok.above))).trans (I.base.keep b o e n hb hx)
  ·obtain⟨sl,e1⟩:=I.base.slot b o e n hb hx
   exact⟨sl,(hs.2 b (Q5 (Ri (QZ e) I.ok.above))).trans e1⟩
  ·obtain⟨o',e1⟩:=I.base.there b o e hx
   exact⟨o',(hs.2 b (Q5 (Ri (QZ e) I.ok.above))).trans e1⟩
  ·by_cases hj:j=i
   ·subst hj
    rw[hi] at e1;cases e1
    rw[S8 C5] at e2;cases e2
    exact⟨u,r,.inl ⟨hk,by simp⟩⟩
   ·rw[Tc (Ne.symm hj)] at e2
    obtain⟨u',r',q⟩:=hl j y v' e1 e2 e3;refine⟨u',r',?_⟩;rcases q with⟨k,e⟩|⟨k,c,e,z⟩
    ·refine .inl ⟨k,?_⟩
     have:y≠x:=fun e=>hj (Gc hN e1 (e ▸ hi))
     simp[this,e]
    ·exact .inr ⟨k,c,e,z.sameBut hs (cne y c e)⟩
  ·obtain⟨w',z⟩:=I.cell y c e
   exact⟨w',z.sameBut hs (cne y c e)⟩
  ·obtain⟨e,n,ne,nf,d⟩:=I.pin p hp
   exact⟨(hs.2 p.1 ne).trans e,n,ne,nf,d⟩
 ·have wC:X.fn x=true:=by
   rcases hf with z|z
   ·exact z
   ·rw[z] at hk;cases hk
  obtain⟨c,hc⟩:=I.ok.has x (.inl hk);obtain⟨w',z⟩:=I.cell x c hc;refine wpAny_storeName_cell I.ok.kind hk hc z (fun h' j7 hs=>?_);obtain⟨oc,qF,xo⟩:=id z;refine h { s with heap:=h' } ⟨I.ok,I.os,I.bare,⟨fun b o e n hb hx=>?_,fun b o e n hb hx=>?_,I.base.free,fun b o e hx=>?_,I.base.tups,I.base.frzs,I.base.tbls⟩,⟨m,hn.sameBut hs (Ne.symm (cne x c hc)),fun j y v' e1 e2 e3=>?_⟩,fun y c' e=>?_,I.free,I.freeC,fun p hp=>?_,gX ⟨oc,qF,I.freeC x c hc⟩ hs,by simpa using I.len⟩ ⟨c,hs,.inr hc⟩
  ·exact(hs.2 b (Q5 (Ri (QZ e) (I.ok.cab x c wC hc)))).trans (I.base.keep b o e n hb hx)
  ·obtain⟨sl,e1⟩:=I.base.slot b o e n hb hx
   exact⟨sl,(hs.2 b (Q5 (Ri (QZ e) (I.ok.cab x c wC hc)))).trans e1⟩
  ·obtain⟨o',e1⟩:=I.base.there b o e hx
   exact⟨o',(hs.2 b (Q5 (Ri (QZ e) (I.ok.cab x c wC hc)))).trans e1⟩
  ·by_cases hj:j=i
   ·subst hj
    rw[hi] at e1;cases e1
    rw[S8 C5] at e2;cases e2
    exact⟨u,r,.inr ⟨.inl hk,c,hc,j7⟩⟩
   ·rw[Tc (Ne.symm hj)] at e2
    obtain⟨u',r',q⟩:=hl j y v' e1 e2 e3;refine⟨u',r',?_⟩;rcases q with q|⟨k,c',e,z'⟩
    ·exact .inl q
    ·refine .inr ⟨k,c',e,z'.sameBut hs ?_⟩
     rintro rfl
     exact hj (Gc hN e1 (I.ok.inj _ _ _ e hc ▸ hi))
  ·by_cases Df:c'=c
   ·subst Df;exact⟨_,j7⟩
   ·obtain⟨w2,z2⟩:=I.cell y c' e
    exact⟨w2,z2.sameBut hs Df⟩
  ·obtain⟨e,n,ne,nf,d⟩:=I.pin p hp
   refine⟨(hs.2 p.1 ?_).trans e,n,ne,nf,d⟩;intro q;rw[q,qF] at e;have q':oc=p.2:=Option.some.inj e;exact d w' (by rw[<- q'];exact xo)
theorem Fq {Q:Unit->Shared->Prop} (I:Inv X aa σ H s) (hN:X.N.Nodup) (hi:X.N[i]?=some x) (hx:Loc X.env.scope x) (r:av v u)
  (h:∀ s',Inv X aa (σ.set i (some v)) H s'->Q () s') (hf:X.fn x=true\/X.env.scope.names.lookup x=some .local:=by first|exact .inl rfl|exact .inr rfl|assumption):wpAny M A (storeName X.env x u) Q E s:=
 E6 I hN hi hx r (fun s' I' _=>h s' I') hf
theorem Inv.call'  (I:Inv X aa σ H s) (ho:s'.os=s.os) (u:Un (frs X.stack) ch H H' s.heap s'.heap) (hok:HOk X.prog X.w H' s'.heap) (hg:AllBare s'.gens)
  (fM:∀ b∈ch,(b∈X.ex\/X.s₀.heap.objs.size<=b)/\b≠X.env.locals/\(∀ x c,X.env.cells.lookup x=some c->c≠b)/\∀ p∈X.pn++aa,p.1≠b):Inv X aa σ H' s':=by
 obtain⟨h',g',d',t',o'⟩:=s';have e:o'=s.os:=ho;subst e;exact I.call (g':=g') (t':=t') (d':=d') u hok hg fM
end
abbrev XK:=Value->Option Addr->Hp->Prop
abbrev St:=List (Option V)
abbrev VK:=V->Hp->Prop
abbrev TE:=St->Hp->VK->Prop
abbrev TT:=St->Hp->(Bool->Hp->Prop)->Prop
abbrev TA:=St->Hp->(List V->Hp->Prop)->Prop
structure gy where
 nx:St->Hp->Prop
 rt:VK
 bk:St->Hp->Prop:=fun _ _=>False
 ct:St->Hp->Prop:=fun _ _=>False
abbrev TS:=gy->St->Hp->Prop
def EP (X:Cx) (aa:List (Addr×Obj)) (σ:St) (Q:VK) (u:Value) (s':Shared):Prop:=∃ v H',Inv X aa σ H' s'/\av v u/\Q v H'
def TP (X:Cx) (aa:List (Addr×Obj)) (σ:St) (Q:Bool->Hp->Prop) (b:Bool) (s':Shared):Prop:=∃ H',Inv X aa σ H' s'/\Q b H'
def AP (X:Cx) (aa:List (Addr×Obj)) (σ:St) (Q:List V->Hp->Prop) (us:List Value) (s':Shared):Prop:=∃ vs H',Inv X aa σ H' s'/\aw vs us/\Q vs H'
def SP (X:Cx) (aa:List (Addr×Obj)) (D:gy) (f:Flow) (s':Shared):Prop:=
 match f with
 | .next=>∃ σ' H',Inv X aa σ' H' s'/\D.nx σ' H'
 | .brk=>∃ σ' H',Inv X aa σ' H' s'/\D.bk σ' H'
 | .cont=>∃ σ' H',Inv X aa σ' H' s'/\D.ct σ' H'
 | .ret u=>∃ v σ' H',Inv X aa σ' H' s'/\av v u/\D.rt v H'
def PE (X:Cx) (e:Expr) (t:TE):Prop:=
 ∀ (aa:List (Addr×Obj)) (s:Shared) (σ:St) (H:Hp) (Q:VK),Inv X aa σ H s->t σ H Q->wpAny (model X.prog X.w) X.A (eval e X.env) (EP X aa σ Q) X.xe s
def PT (X:Cx) (e:Expr) (t:TT):Prop:=
 ∀ (aa:List (Addr×Obj)) (s:Shared) (σ:St) (H:Hp) (Q:Bool->Hp->Prop),Inv X aa σ H s->t σ H Q->wpAny (model X.prog X.w) X.A (isTrue e X.env (eval e X.env)) (TP X aa σ Q) X.xe s
def PW (X:Cx) (e:Expr) (t:TT):Prop:=
 ∀ (gO:Sem Value) (aa:List (Addr×Obj)) (s:Shared) (σ:St) (H:Hp) (Q:Bool->Hp->Prop),Inv X aa σ H s->t σ H Q->wpAny (model X.prog X.w) X.A (isTrue e X.env gO) (TP X aa σ Q) X.xe s
theorem PW.pt {X:Cx}{t:TT} (h:PW X e t):PT X e t:=h _
def PA (X:Cx) (es:List Expr) (t:TA):Prop:=
 ∀ (pos:Pos) (aa:List (Addr×Obj)) (s:Shared) (σ:St) (H:Hp) (Q:List V->Hp->Prop),Inv X aa σ H s->t σ H Q->wpAny (model X.prog X.w) X.A (spliced (backTo pos (starEach es X.env))) (AP X aa σ Q) X.xe s
def PS (X:Cx) (st:Stmt) (t:TS):Prop:=
 ∀ (aa:List (Addr×Obj)) (s:Shared) (σ:St) (H:Hp) (D:gy),Inv X aa σ H s->t D σ H->wpAny (model X.prog X.w) X.A (exec st X.env) (SP X aa D) X.xe s
def PSs (X:Cx) (st:List Stmt) (t:TS):Prop:=
 ∀ (aa:List (Addr×Obj)) (s:Shared) (σ:St) (H:Hp) (D:gy),Inv X aa σ H s->t D σ H->wpAny (model X.prog X.w) X.A (execs st X.env) (SP X aa D) X.xe s
theorem thn {α:Type}{t:Sem α}{Q Q':α->Shared->Prop} (h:wpAny M A t Q E s) (hQ:∀ a s,Q a s->Q' a s):wpAny M A t Q' E s:=RJ h hQ fun _ _ x=>x
section
variable {X:Cx}
def tVar (i:Nat):TE:=fun σ H Q=>∃ v,σ[i]?=some (some v)/\Q v H
def tC (v:V):TE:=fun _ H Q=>Q v H
theorem pe_var {pos:Pos} (hN:X.N[i]?=some x) (hv:Vis X.env.scope x) (hd:(x == ("__debug__":Str))=false:=by decide) (eS:(x == ("__classdict__":Str))=false:=by decide):PE X (.Name x pos) (tVar i):=by
 intro aa s σ H Q I h;obtain⟨v,e,h⟩:=h;obtain⟨m,hn,hl⟩:=I.loc;obtain⟨u,r,l⟩:=hl i x v hN e hv;have fin:EP X aa σ Q u s:=⟨v,H,I,r,h⟩;rcases l with⟨hk,hm⟩|⟨hk,c,hc,bu⟩
 ·exact UE (wpAny_loadName_local I.ok.kind hk hn hm fin) hd
 ·rcases hk with hk|hk
  ·exact UE (wpAny_loadName_cell I.ok.kind hk hc bu fin) hd
  ·exact UE (wpAny_loadName_free I.ok.kind hk hc bu fin eS) hd
theorem au {i j pos}:PE X (.Constant (.int i) j pos) (tC (.int i)):=fun _ _ _ H _ I h=>Ul ⟨.int i,H,I.tok _,⟨_,O⟩,h⟩
theorem kN {b j pos}:PE X (.Constant (.bool b) j pos) (tC (.bl b)):=fun _ _ _ H _ I h=>Constant_bool ⟨.bl b,H,I,O,h⟩
theorem EW {j pos}:PE X (.Constant .none j pos) (tC .non):=fun _ _ _ H _ I h=>Constant_none ⟨.non,H,I,O,h⟩
theorem pe_str {x j pos}:PE X (.Constant (.str x) j pos) (tC (.str x)):=fun _ _ _ H _ I h=>Calls.Constant_str ⟨.str x,H,I.tok _,⟨_,O⟩,h⟩
def Gl (X:Cx) (x:Str):Prop:=X.env.kindOf x=some .globalImplicit
theorem qf {σ:St}{pos:Pos} (I:Inv X aa σ H s) (hg:Gl X x) (hm:X.mg x=some u) (h:Q u s)
  (hd:(x == ("__debug__":Str))=false:=by decide):wpAny (model X.prog X.w) X.A (eval (.Name x pos) X.env) Q E s:=
 Calls.Name_function_global I.ok.kind hg (Calls.loadGlobal_global (by rw[I.ok.glob];exact I.mod.glob.keeps I.bk) hm h) hd
theorem g8 {σ:St}{pos:Pos} (I:Inv X aa σ H s) (hg:Gl X x) (hm:X.mg x=none) (hv:bootBuiltins x=some u) (h:Q u s)
  (hn:x≠"__name__":=by decide) (hd:(x == ("__debug__":Str))=false:=by decide):wpAny (model X.prog X.w) X.A (eval (.Name x pos) X.env) Q E s:=by
 obtain⟨mb,h1,h2⟩:=I.mod.blt;exact Calls.Name_function_global I.ok.kind hg (Calls.loadGlobal_builtin (by rw[I.ok.glob];exact I.mod.glob.keeps I.bk) hm (by rw[I.ok.blt];exact h1.keeps I.bk) ((h2 x hn).trans hv) h) hd
theorem N9 {pos:Pos} (hg:Gl X x) (hm:X.mg x=some u) (r:av v u) (hd:(x == ("__debug__":Str))=false:=by decide):PE X (.Name x pos) (tC v):=
 fun _ _ _ H _ I h=>qf I hg hm ⟨v,H,I,r,h⟩ hd
theorem Os {pos:Pos} (hg:Gl X x) (hm:X.mg x=none) (hv:bootBuiltins x=some u) (r:av v u) (hn:x≠"__name__":=by decide) (hd:(x == ("__debug__":Str))=false:=by decide):PE X (.Name x pos) (tC v):=
 fun _ _ _ H _ I h=>g8 I hg hm hv ⟨v,H,I,r,h⟩ hn hd
variable {a b:Expr}{ta tb:TE}{pos:Pos}
def PC (X:Cx) (op:CmpOp) (a b:Expr) (t:TE):Prop:=
 ∀ (aa:List (Addr×Obj)) (s:Shared) (σ:St) (H:Hp) (Q:VK),Inv X aa σ H s->t σ H Q ->
  wpAny (model X.prog X.w) X.A (eval a X.env) (fun v s₁=>wpAny (model X.prog X.w) X.A (eval b X.env) (fun u s₂=>wpAny (model X.prog X.w) X.A (compareOp op v u) (EP X aa σ Q) X.xe s₂) X.xe s₁) X.xe s
theorem NO (b:Expr) (h:op≠.In) (h2:op≠.NotIn):behindInMarks op b=false:=by
 have e1:(op == CmpOp.In)=false:=by cases op <;> first|rfl|exact absurd O h
 have e2:(op == CmpOp.NotIn)=false:=by cases op <;> first|rfl|exact absurd O h2
 cases b <;> simp[behindInMarks,e1,e2]
def tIsN (ta:TE):TE:=fun σ H Q=>ta σ H fun x H1=>Q (.bl (decide (x=.non))) H1
def tNotN (ta:TE):TE:=fun σ H Q=>ta σ H fun x H1=>Q (.bl (!decide (x=.non))) H1
theorem av.none_iff {x:V}{v:Value} (r:av x v):(v == Value.none)=decide (x=.non):=by
 cases x with
 | non=>cases r;rfl
 | bl _=>cases r;rfl
 | int _=>obtain⟨t,rfl⟩:=r;rfl
 | str _=>obtain⟨t,rfl⟩:=r;rfl
 | byt _=>obtain⟨t,rfl⟩:=r;rfl
 | flt _=>obtain⟨t,rfl⟩:=r;rfl
 | ref _=>cases r;rfl
 | ty _=>cases r;rfl
theorem pc_isN {j aU} (ha:PE X a ta):PC X .Is a (.Constant .none j aU) (tIsN ta):=by
 intro aa s σ H Q I h;refine thn (ha aa s σ H _ I h) fun v s1=>L2.ex5 fun x H1 I1 r1 q1=>?_
 exact Constant_none (is_none_gen ⟨.bl _,H1,I1,by rw[r1.none_iff];rfl,q1⟩)
theorem Pk {j aU} (ha:PE X a ta):PC X .IsNot a (.Constant .none j aU) (tNotN ta):=by
 intro aa s σ H Q I h;refine thn (ha aa s σ H _ I h) fun v s1=>L2.ex5 fun x H1 I1 r1 q1=>?_
 exact Constant_none (isnot_none_gen ⟨.bl _,H1,I1,by rw[r1.none_iff];rfl,q1⟩)
def tB (t:TE):TT:=fun σ H Q=>t σ H fun x H1=>∃ c,x=.bl c/\Q c H1
theorem tL {t:TE} (h:PC X op a b t) (h1:behindInMarks op b=false:=by first|exact NO _ (by decide) (by decide)|rfl):PT X (.Compare a [op] [b] pos) (tB t):=by
 intro aa s σ H Q I hw;refine T7 (thn (h aa s σ H _ I hw) fun v s1 h1=>thn h1 fun u s2 h2=>thn h2 fun c s3=>L2.ex5 fun x H1 I1 r1 q1=>?_) h1;obtain⟨d,rfl,q⟩:=q1;cases r1
 exact R4 ⟨H1,I1,q⟩
theorem jq {t:TE} (h:PE X e t) (he:∀ gO,isTrue e X.env gO=(do let v <- gO;standAt e.pos;holding [v] (truthy v)):=by intro _;rfl):PT X e (tB t):=by
 intro aa s σ H Q I hw;refine isTrue_plain (thn (h aa s σ H _ I hw) fun v s1=>L2.ex5 fun x H1 I1 r1 q1=>?_) (he _);obtain⟨d,rfl,q⟩:=q1;cases r1
 exact R4 ⟨H1,I1,q⟩
variable {tA ux:TT}{aT:List Expr}
def tAnd (t u:TT):TT:=fun σ H Q=>t σ H fun c H1=>if c=true then u σ H1 Q else Q false H1
def tOr (t u:TT):TT:=fun σ H Q=>t σ H fun c H1=>if c=true then Q true H1 else u σ H1 Q
def tNot (t:TT):TT:=fun σ H Q=>t σ H fun c H1=>Q (!c) H1
theorem PU (ha:PT X a tA):PW X (.BoolOp .And [a] pos) tA:=by
 intro wh aa s σ H Q I h;refine isTrue_and (thn (ha aa s σ H Q I h) fun c s1 e=>?_);cases c with
 | true=>exact isTrue_and_nil e
 | false=>exact e
theorem my (ha:PT X a tA):PW X (.BoolOp .Or [a] pos) tA:=by
 intro wh aa s σ H Q I h;refine isTrue_or (thn (ha aa s σ H Q I h) fun c s1 e=>?_);cases c with
 | false=>exact isTrue_or_nil e
 | true=>exact e
theorem pw_and (ha:PT X a tA) (hb:PW X (.BoolOp .And (b::aT) pos) ux):PW X (.BoolOp .And (a::b::aT) pos) (tAnd tA ux):=by
 intro wh aa s σ H Q I h;refine isTrue_and (thn (ha aa s σ H _ I h) fun c s1=>L2.ex3 fun H1 I1 q1=>?_);cases c with
 | true=>exact hb wh aa s1 σ H1 Q I1 q1
 | false=>exact⟨H1,I1,q1⟩
theorem kW (ha:PT X a tA) (hb:PW X (.BoolOp .Or (b::aT) pos) ux):PW X (.BoolOp .Or (a::b::aT) pos) (tOr tA ux):=by
 intro wh aa s σ H Q I h;refine isTrue_or (thn (ha aa s σ H _ I h) fun c s1=>L2.ex3 fun H1 I1 q1=>?_);cases c with
 | true=>exact⟨H1,I1,q1⟩
 | false=>exact hb wh aa s1 σ H1 Q I1 q1
theorem mG (ha:PT X a tA):PT X (.UnaryOp .Not a pos) (tNot tA):=by
 intro aa s σ H Q I h;exact isTrue_not (ha aa s σ H (fun c H1=>Q (!c) H1) I h)
def tAndV (ta tb:TE):TE:=fun σ H Q=>ta σ H fun x H1=>∃ c,x=.bl c/\if c=true then tb σ H1 Q else Q (.bl false) H1
def tNotV (ta:TE):TE:=fun σ H Q=>ta σ H fun x H1=>∃ c,x=.bl c/\Q (.bl (!c)) H1
theorem DU {op}{t:TE} (h:PE X a t):PE X (.BoolOp op [a] pos) t:=fun aa s σ H Q I hw=>BoolOp_one (h aa s σ H Q I hw)
theorem EC (ha:PE X a ta) (hb:PE X (.BoolOp .And (b::aT) pos) tb):PE X (.BoolOp .And (a::b::aT) pos) (tAndV ta tb):=by
 intro aa s σ H Q I h;refine BoolOp_and (thn (ha aa s σ H _ I h) fun v s1=>L2.ex5 fun x H1 I1 r1 q1=>?_);obtain⟨c,rfl,q1⟩:=q1;cases r1
 refine R4 ?_;cases c with
 | true=>exact hb aa s1 σ H1 Q I1 q1
 | false=>exact⟨.bl false,H1,I1,O,q1⟩
theorem pe_not (ha:PE X a ta):PE X (.UnaryOp .Not a pos) (tNotV ta):=by
 intro aa s σ H Q I h;refine UnaryOp_ (thn (ha aa s σ H _ I h) fun v s1=>L2.ex5 fun x H1 I1 r1 q1=>?_);obtain⟨c,rfl,q1⟩:=q1;cases r1
 exact not_of (R4 ⟨.bl (!c),H1,I1,O,q1⟩)
def tIf (t:TT) (ta tb:TE):TE:=fun σ H Q=>t σ H fun c H1=>if c=true then ta σ H1 Q else tb σ H1 Q
theorem Af  (hc:PT X c tA) (ha:PE X a ta) (hb:PE X b tb):PE X (.IfExp c a b pos) (tIf tA ta tb):=by
 intro aa s σ H Q I h;refine wpAny_IfExp (thn (hc aa s σ H _ I h) fun d s1=>L2.ex3 fun H1 I1 q1=>?_);cases d with
 | true=>exact ha aa s1 σ H1 Q I1 q1
 | false=>exact hb aa s1 σ H1 Q I1 q1
end
def SqL (K:PySem.W.Frag) (H:Hp) (a:Addr) (xs:List V):Prop:=
 Rd H a (.lst xs) \/
  ∃ (o:Obj) (ag:Array Value) (n:Nat),K.lookup a=some o/\o.cls=.type "list"/\o.dict=none/\o.data=.seq ag n/\ag.size<=sizeLine/\aw xs ag.toList
def SqT (K:PySem.W.Frag) (H:Hp) (a:Addr) (xs:List V):Prop:=
 Rd H a (.tup xs) \/
  ∃ (o:Obj) (ag:Array Value) (n:Nat),K.lookup a=some o/\o.cls=.type "tuple"/\o.data=.seq ag n/\ag.size<=sizeLine/\aw xs ag.toList
def absV:Value->Option V
 | .none=>some .non
 | .bool b=>some (.bl b)
 | .int i _=>some (.int i)
 | .str x _=>some (.str x)
 | .bytes b _=>some (.byt b)
 | .float b _=>some (.flt b)
 | .ref a=>some (.ref a)
 | .type n=>some (.ty n)
 | _=>none
variable {D:gy}{X:Cx}{aU tpos:Pos}{body st:List Stmt}{es:List Expr}{f:Value->Value->Sem Value}{fp:List Addr}{g:Int->Int->Int}{lo:Int}{n:Nat}{op:Operator}{ta:TA}{tb:TS}{tc:TT}{te ti tl:TE}{tg:Expr}{xs:List V}{σ:St}
theorem av.abs {x:V} (r:av x u):absV u=some x:=by
 cases x with
 | non=>cases r;rfl
 | bl _=>cases r;rfl
 | int _=>obtain⟨t,rfl⟩:=r;rfl
 | str _=>obtain⟨t,rfl⟩:=r;rfl
 | byt _=>obtain⟨t,rfl⟩:=r;rfl
 | flt _=>obtain⟨t,rfl⟩:=r;rfl
 | ref _=>cases r;rfl
 | ty _=>cases r;rfl
theorem av.inj {x y:V}{u:Value} (r:av x u) (q:av y u):x=y:=Option.some.inj (r.abs.symm.trans q.abs)
theorem aw.inj:∀ {xs ys:List V}{us:List Value},aw xs us->aw ys us->xs=ys
 | _,_,_,.nil,.nil=>rfl
 | _,_,_,.cons r t,.cons r' t'=>by rw[r.inj r',aw.inj t t']
section
variable {ys:List V}
theorem SqL.of {K:PySem.W.Frag} (h:H a=some (.lst xs)):SqL K H a xs:=.inl (.inl h)
theorem SqT.of {K:PySem.W.Frag} (h:H a=some (.tup xs)):SqT K H a xs:=.inl (.inl h)
theorem Inv.list (I:Inv X aa σ H s) (h:SqL X.K H a xs):∃ ag:List Value,aw xs ag/\PlainL s.heap a ag.toArray/\xs.length<=sizeLine:=by
 rcases h with h|⟨o,ag,n,hk,hc,hd,hs,hz,r⟩
 ·obtain⟨z,ag,n,r,e⟩:=h.ok I.hok
  exact⟨ag,r,⟨_,n,e,O,O,O⟩,z⟩
 ·refine⟨ag.toList,r,⟨o,n,I.kIn a o hk,hc,hd,by simpa using hs⟩,?_⟩
  have e:=r.length;simp only[SR] at e
  omega
theorem Inv.tuple (I:Inv X aa σ H s) (h:SqT X.K H a xs):∃ ag:List Value,aw xs ag/\IsTup s.heap a ag.toArray/\xs.length<=sizeLine:=by
 rcases h with h|⟨o,ag,n,hk,hc,hs,hz,r⟩
 ·obtain⟨z,ag,r,p⟩:=h.ok I.hok
  exact⟨ag,r,p,z⟩
 ·refine⟨ag.toList,r,⟨o,I.kIn a o hk,hc,n,by simpa using hs⟩,?_⟩
  have e:=r.length;simp only[SR] at e
  omega
theorem Inv.list_inj (I:Inv X aa σ H s) (h:SqL X.K H a xs) (h':SqL X.K H a ys):xs=ys:=by
 obtain⟨ag,r,⟨o,n,e,_,_,d⟩,_⟩:=I.list h;obtain⟨its',r',⟨o',n',e',_,_,d'⟩,_⟩:=I.list h';rw[e] at e';cases e'
 rw[d] at d';injection d' with d1 _
 have:ag=its':=by simpa using congrArg Array.toList d1
 subst this;exact r.inj r'
theorem Inv.tuple_inj (I:Inv X aa σ H s) (h:SqT X.K H a xs) (h':SqT X.K H a ys):xs=ys:=by
 obtain⟨ag,r,⟨o,e,_,n,d⟩,_⟩:=I.tuple h;obtain⟨its',r',⟨o',e',_,n',d'⟩,_⟩:=I.tuple h';rw[e] at e';cases e'
 rw[d] at d';injection d' with d1 _
 have:ag=its':=by simpa using congrArg Array.toList d1
 subst this;exact r.inj r'
end
abbrev Cx.wish (X:Cx) (E:Value->Shared->Prop):Cx:={ X with xe:=E }
abbrev Cx.nox (X:Cx):Cx:=X.wish fun _ _=>False
theorem Cx.Ok.wish {X:Cx} (ok:X.Ok) (E:Value->Shared->Prop):(X.wish E).Ok:=
 ⟨ok.mod,ok.kind,ok.glob,ok.blt,ok.above,ok.inj,ok.has,ok.cab,ok.hd,ok.frames,ok.stk,ok.exf,ok.bs,ok.bsz,ok.noex,ok.exfs,ok.funs,ok.frf⟩
theorem Cx.Ok.unwish  (ok:(X.wish E).Ok):X.Ok:=
 ⟨ok.mod,ok.kind,ok.glob,ok.blt,ok.above,ok.inj,ok.has,ok.cab,ok.hd,ok.frames,ok.stk,ok.exf,ok.bs,ok.bsz,ok.noex,ok.exfs,ok.funs,ok.frf⟩
theorem Inv.wish (I:Inv X aa σ H s) (E:Value->Shared->Prop):Inv (X.wish E) aa σ H s:=⟨I.ok.wish E,I.os,I.bare,I.base,I.loc,I.cell,I.free,I.freeC,I.pin,I.hok,I.len⟩
theorem Inv.unwish (I:Inv (X.wish E) aa σ H s):Inv X aa σ H s:=⟨I.ok.unwish,I.os,I.bare,I.base,I.loc,I.cell,I.free,I.freeC,I.pin,I.hok,I.len⟩
theorem SP.unwish {D:gy}{f:Flow}{s':Shared} (h:SP (X.wish E) aa D f s'):SP X aa D f s':=by
 cases f with
 | next=>obtain⟨σ',H',I,q⟩:=h;exact⟨σ',H',I.unwish,q⟩
 | brk=>obtain⟨σ',H',I,q⟩:=h;exact⟨σ',H',I.unwish,q⟩
 | cont=>obtain⟨σ',H',I,q⟩:=h;exact⟨σ',H',I.unwish,q⟩
 | ret u=>obtain⟨v,σ',H',I,r,q⟩:=h;exact⟨v,σ',H',I.unwish,r,q⟩
theorem PSs.nox {t:TS} (h:PSs X.nox st t):PSs X st t:=fun aa s σ H D I hw=>
 RJ (h aa s σ H D (I.wish _) hw) (fun _ _ q=>q.unwish) fun _ _ z=>False.elim z
section
variable {st:Stmt}{aT:List Stmt}{t u:TS}{pos:Pos}
def tNext:TS:=fun D σ H=>D.nx σ H
def tSeq (t u:TS):TS:=fun D σ H=>t { D with nx:=u D } σ H
theorem d9:PSs X [] tNext:=fun _ _ σ H _ I h=>Td ⟨σ,H,I,h⟩
theorem aq (h1:PS X st t) (h2:PSs X aT u):PSs X (st::aT) (tSeq t u):=by
 intro aa s σ H D I h;refine wpAny_execs_cons (thn (h1 aa s σ H { D with nx:=u D } I h) fun f s1 q=>?_);cases f with
 | next=>
  obtain⟨σ',H',I',q⟩:=q;exact h2 aa s1 σ' H' D I' q
 | ret v=>exact q
 | brk=>exact q
 | cont=>exact q
theorem aB (h1:PS X st t):PSs X [st] t:=by
 intro aa s σ H D I h;refine wpAny_execs_cons (thn (h1 aa s σ H D I h) fun f s1 q=>?_);cases f with
 | next=>exact Td q
 | ret v=>exact q
 | brk=>exact q
 | cont=>exact q
theorem Inv.quiet  (I:Inv X aa σ H s):interactive X.env=false:=by simp[interactive,I.ok.kind]
def tDrop (te:TE):TS:=fun D σ H=>te σ H fun _ H1=>D.nx σ H1
theorem eJ (he:PE X e te) (hs:swapsWith e none pos.line X.env=pure false:=by rfl):PS X (.Expr e pos) (tDrop te):=by
 intro aa s σ H D I h;exact wpAny_Expr_any (thn (he aa s σ H _ I h) fun v s1=>L2.ex5 fun x H1 I1 r1 q1=>⟨σ,H1,I1,q1⟩) I.quiet hs
def tRet (te:TE):TS:=fun D σ H=>te σ H D.rt
theorem bn (he:PE X e te):PS X (.Return (some e) pos) (tRet te):=by
 intro aa s σ H D I h;exact wpAny_Return_some (thn (he aa s σ H _ I h) fun v s1=>L2.ex5 fun x H1 I1 r1 q1=>⟨x,σ,H1,I1,r1,q1⟩)
def tRetN:TS:=fun D _ H=>D.rt .non H
theorem Pe:PS X (.Return none pos) tRetN:=fun _ _ σ H _ I h=>wpAny_Return_none ⟨.non,σ,H,I,O,h⟩
def tIfS (c:TT) (t u:TS):TS:=fun D σ H=>c σ H fun b H1=>if b=true then t D σ H1 else u D σ H1
theorem d6 {a b:List Stmt} (hc:PT X c tc) (ha:PSs X a t) (hb:PSs X b u):PS X (.If c a b pos) (tIfS tc t u):=by
 intro aa s σ H D I h;refine wpAny_If (thn (hc aa s σ H _ I h) fun d s1=>L2.ex3 fun H1 I1 q1=>?_);cases d with
 | true=>exact ha aa s1 σ H1 D I1 q1
 | false=>exact hb aa s1 σ H1 D I1 q1
end
abbrev TG:=V->St->Hp->(St->Hp->Prop)->Prop
abbrev TGs:=List V->St->Hp->(St->Hp->Prop)->Prop
def PG (X:Cx) (cq:Expr) (t:TG):Prop:=
 ∀ (aa:List (Addr×Obj)) (s:Shared) (σ:St) (H:Hp) (v:V) (u:Value) (Q:St->Hp->Prop),Inv X aa σ H s->av v u->t v σ H Q ->
  wpAny (model X.prog X.w) X.A (assign cq X.env u) (fun _ s'=>∃ σ' H',Inv X aa σ' H' s'/\Q σ' H') X.xe s
def PGs (X:Cx) (ts:List Expr) (t:TGs):Prop:=
 ∀ (aa:List (Addr×Obj)) (s:Shared) (σ:St) (H:Hp) (vs:List V) (us:List Value) (Q:St->Hp->Prop),Inv X aa σ H s->aw vs us->t vs σ H Q ->
  wpAny (model X.prog X.w) X.A (assignInOrder ((assignEach ts X.env).map (·.2)) us) (fun _ s'=>∃ σ' H',Inv X aa σ' H' s'/\Q σ' H') X.xe s
abbrev TSet:=V->V->V->Hp->(Hp->Prop)->Prop
def PSet (X:Cx) (t:TSet):Prop:=
 ∀ (aa:List (Addr×Obj)) (s:Shared) (σ:St) (H:Hp) (o i v:V) (ov iv u:Value) (Q:Hp->Prop),Inv X aa σ H s->av o ov->av i iv->av v u->t o i v H Q ->
  wpAny (model X.prog X.w) X.A (setItem ov iv u) (fun _ s'=>∃ H',Inv X aa σ H' s'/\Q H') X.xe s
abbrev TIp:=V->V->Hp->VK->Prop
def PIp (X:Cx) (op:Operator) (t:TIp):Prop:=
 ∀ (aa:List (Addr×Obj)) (s:Shared) (σ:St) (H:Hp) (x y:V) (v u:Value) (Q:VK),Inv X aa σ H s->av x v->av y u->t x y H Q ->
  wpAny (model X.prog X.w) X.A (inplaceOp op v u) (EP X aa σ Q) X.xe s
section
variable {pos:Pos}
def bA (i:Nat):TG:=fun v σ H Q=>Q (σ.set i (some v)) H
theorem az  (hN:X.N.Nodup) (hi:X.N[i]?=some x) (hx:Loc X.env.scope x) (hf:X.fn x=true\/X.env.scope.names.lookup x=some .local:=by first|exact .inl rfl|exact .inr rfl|assumption):PG X (.Name x pos) (bA i):=by
 intro aa s σ H v u Q I r h;exact Uu (Fq I hN hi hx r (fun s' I'=>⟨_,H,I',h⟩) hf)
def gNil:TGs:=fun vs σ H Q=>vs=[]/\Q σ H
def gCons (t:TG) (u:TGs):TGs:=fun vs σ H Q=>∃ v r,vs=v::r/\t v σ H fun σ' H'=>u r σ' H' Q
theorem cz:PGs X [] gNil:=by
 intro aa s σ H vs us Q I r h;obtain⟨e,h⟩:=h;subst e;cases r
 exact assignInOrder_nil ⟨σ,H,I,h⟩
theorem aO {t:TG}{u:TGs} (h1:PG X e t) (h2:PGs X es u)
  (hs:(assignEach (e::es) X.env).map (·.2)=assign e X.env::(assignEach es X.env).map (·.2):=by rfl):PGs X (e::es) (gCons t u):=by
 intro aa s σ H vs us Q I r h;obtain⟨v,vr,e1,h⟩:=h;subst e1;cases r with
 | cons r rr=>
  rw[hs];refine assignInOrder_cons (thn (h1 aa s σ H _ _ _ I r h) fun _ s1=>L2.ex4 fun σ1 H1 I1 q1=>?_);exact h2 aa s1 σ1 H1 _ _ Q I1 rr q1
def gTup (K:PySem.W.Frag) (n:Nat) (t:TGs):TG:=fun v σ H Q=>∃ a xs,v=.ref a/\SqT K H a xs/\xs.length=n/\t xs σ H Q
theorem fD {k:Nat}{t:TGs} (hc:X.calm=true) (h:PGs X es t)
  (hn:(assignEach es X.env).length=n:=by rfl) (cO:(assignEach es X.env).findIdx? (·.1)=none:=by rfl):PG X (.Tuple es k pos) (gTup X.K n t):=by
 intro aa s σ H v u Q I r hw;obtain⟨a,xs,e1,hq,hl,hw⟩:=hw;subst e1;cases r
 obtain⟨ag,rv,ht,hz⟩:=I.tuple hq;refine Om I.hd ht (by simp[hn,<- hl,rv.length]) cO fun h' hx=>?_
 have I1:Inv X aa σ H { s with heap:=h' }:=I.kept (t':=s.toks) fun b o e=>hx b o (Q5 (QZ e)) e
 exact h aa _ σ H xs _ Q I1 (by simpa using rv) hw
def gSub (to ti:TE) (t:TSet):TG:=fun v σ H Q=>to σ H fun o H1=>ti σ H1 fun i H2=>t o i v H2 fun H3=>Q σ H3
theorem Es {o i:Expr}{to:TE}{t:TSet} (ho:PE X o to) (hi:PE X i ti) (hs:PSet X t)
  (ha:∀ v,assign (.Subscript o i pos) X.env v=(do
   let ov <- holding [v] (eval o X.env)
   let iv <- holding [v,ov] (eval i X.env)
   standAt pos
   holding [v,ov,iv] (setItem ov iv v)
   release [v,ov,iv] []):=by intro _;rfl):PG X (.Subscript o i pos) (gSub to ti t):=by
 intro aa s σ H v u Q I r h;rw[ha];refine mJ (Rn (thn (ho aa s σ H _ I h) fun ov s1=>L2.ex5 fun x H1 I1 r1 q1=>?_));refine mJ (Rn (thn (hi aa s1 σ H1 _ I1 q1) fun iv s2=>L2.ex5 fun y H2 I2 r2 q2=>?_));refine mJ (SI (mJ (Rn (thn (hs aa s2 σ H2 x y v ov iv u _ I2 r1 r2 r q2) fun _ s3=>L2.ex3 fun H3 I3 q3=>?_))));exact wpAny_release ⟨σ,H3,I3,q3⟩
def tAsg (te:TE) (g:TG):TS:=fun D σ H=>te σ H fun x H1=>g x σ H1 D.nx
theorem tY {g:TG} (he:PE X e te) (hg:PG X tg g) (hs:swapsWithSole [tg] e pos.line X.env=pure false:=by rfl) (hw:swappedStores [tg] e X.env=pure none:=by rfl)
  (h1:(assignEach [tg] X.env).map (·.2)=[assign tg X.env]:=by rfl):PS X (.Assign [tg] e pos) (tAsg te g):=by
 intro aa s σ H D I h;refine wpAny_Assign_stores (thn (he aa s σ H _ I h) fun v s1=>L2.ex5 fun x H1 I1 r1 q1=>?_) hs hw;rw[h1];exact thn (hg aa s1 σ H1 x v _ I1 r1 q1) fun _ s2 q=>q
theorem aQ  (hN:X.N.Nodup) (hi:X.N[i]?=some x) (hx:Loc X.env.scope x) (he:PE X e te) (hs:swapsWith e (some (.Name x aU)) pos.line X.env=pure false:=by rfl) (hf:X.fn x=true\/X.env.scope.names.lookup x=some .local:=by first|exact .inl rfl|exact .inr rfl|assumption) :
  PS X (.Assign [.Name x aU] e pos) (tAsg te (bA i)):=by
 intro aa s σ H D I h;refine wpAny_Assign_Name (thn (he aa s σ H _ I h) fun v s1=>L2.ex5 fun y H1 I1 r1 q1=>?_) hs;exact Fq I1 hN hi hx r1 (fun s2 I2=>⟨_,H1,I2,q1⟩) hf
def tAugS (to ti te:TE) (j8:V->V->Hp->VK->Prop) (um:TIp) (kf:TSet):TS:=fun D σ H=>to σ H fun o H1=>ti σ H1 fun i H2=>j8 o i H2 fun x H3=>te σ H3 fun y H4=>um x y H4 fun z H5=>kf o i z H5 fun H6=>D.nx σ H6
def PGet (X:Cx) (t:V->V->Hp->VK->Prop):Prop:=
 ∀ (aa:List (Addr×Obj)) (s:Shared) (σ:St) (H:Hp) (o i:V) (ov iv:Value) (Q:VK),Inv X aa σ H s->av o ov->av i iv->t o i H Q ->
  wpAny (model X.prog X.w) X.A (getItem ov iv) (EP X aa σ Q) X.xe s
theorem o8 {o i:Expr}{to:TE}{j8:V->V->Hp->VK->Prop}{um:TIp}{kf:TSet} (ho:PE X o to) (hi:PE X i ti) (hg:PGet X j8) (he:PE X e te) (hp:PIp X op um) (hs:PSet X kf)
  (ha:∀ ov iv new,augStore i ov iv new=(do holding [new,ov,iv] (setItem ov iv new);release [new,ov,iv] [];pure .next):=by intros;rfl):PS X (.AugAssign (.Subscript o i tpos) op e pos) (tAugS to ti te j8 um kf):=by
 intro aa s σ H D I h;refine wpAny_AugAssign_SubscriptAny (thn (ho aa s σ H _ I h) fun ov s1=>L2.ex5 fun x1 H1 I1 r1 q1=>?_) ha;refine thn (hi aa s1 σ H1 _ I1 q1) fun iv s2=>L2.ex5 fun x2 H2 I2 r2 q2=>?_
 refine thn (hg aa s2 σ H2 x1 x2 ov iv _ I2 r1 r2 q2) fun old s3=>L2.ex5 fun x3 H3 I3 r3 q3=>?_
 refine thn (he aa s3 σ H3 _ I3 q3) fun v s4=>L2.ex5 fun x4 H4 I4 r4 q4=>?_
 refine thn (hp aa s4 σ H4 x3 x4 old v _ I4 r3 r4 q4) fun new s5=>L2.ex5 fun x5 H5 I5 r5 q5=>?_
 exact thn (hs aa s5 σ H5 x1 x2 x5 ov iv new _ I5 r1 r2 r5 q5) fun _ s6=>L2.ex3 fun H6 I6 q6=>⟨σ,H6,I6,q6⟩
def ipI (f:Int->Int->Int):TIp:=fun x y H Q=>∃ i j,x=.int i/\y=.int j/\Q (.int (f i j)) H
theorem tf:PIp X .Add (ipI fun i j=>i + j):=by
 intro aa s σ H x y v u Q I r1 r2 h;obtain⟨i,j,e1,e2,q⟩:=h;subst e1;subst e2
 obtain⟨t,rfl⟩:=r1;obtain⟨t',rfl⟩:=r2;exact iadd_int ⟨.int _,H,I.tok _,⟨_,O⟩,q⟩
theorem FX:PIp X .Sub (ipI fun i j=>i - j):=by
 intro aa s σ H x y v u Q I r1 r2 h;obtain⟨i,j,e1,e2,q⟩:=h;subst e1;subst e2
 obtain⟨t,rfl⟩:=r1;obtain⟨t',rfl⟩:=r2;exact isub_int ⟨.int _,H,I.tok _,⟨_,O⟩,q⟩
end
section
variable {pos:Pos}
def tWhile (c:TT) (tb:TS):TS:=fun D σ H=>∃ W:Nat->St->Hp->Prop,(∃ m,W m σ H)/\∀ m σ H,W m σ H ->
 c σ H fun b H1=>if b=true then ∃ N:St->Hp->Prop,(∀ σ' H',N σ' H'->∃ m',m'<m/\W m' σ' H')/\tb { D with nx:=N,ct:=N,bk:=D.nx } σ H1 else D.nx σ H1
theorem uk  (hp:PassesOwn (model X.prog X.w) X.A X.env X.xe) (hc:PT X c tc) (hb:PSs X body tb):PS X (.While c body [] pos) (tWhile tc tb):=by
 intro aa s σ H D I h;obtain⟨W,⟨m0,w0⟩,turn⟩:=h;refine wpAny_While (codeAny_whileLoop (fun n s'=>∃ σ' H',Inv X aa σ' H' s'/\W n σ' H') ?_ m0 ⟨σ,H,I,w0⟩);rintro n s1 ⟨σ1,H1,I1,w1⟩
 refine SB hp (thn (hc aa s1 σ1 H1 _ I1 (turn n σ1 H1 w1)) fun b s2=>L2.ex3 fun H2 I2 q2=>?_);cases b with
 | true=>
  obtain⟨N,hN,q2⟩:=q2;rw[if_pos rfl];refine SB hp (thn (hb aa s2 σ1 H2 _ I2 q2) fun f s3 q3=>?_);cases f with
  | next=>
   obtain⟨σ3,H3,I3,n3⟩:=q3;obtain⟨m',hm,w3⟩:=hN σ3 H3 n3;exact⟨m',hm,σ3,H3,I3,w3⟩
  | cont=>
   obtain⟨σ3,H3,I3,n3⟩:=q3;obtain⟨m',hm,w3⟩:=hN σ3 H3 n3;exact⟨m',hm,σ3,H3,I3,w3⟩
  | brk=>exact q3
  | ret v=>exact q3
 | false=>
  rw[if_neg Ra];exact Td ⟨σ1,H2,I2,q2⟩
end
structure It where
 go:Nat->Hp->Prop
 yld:Nat->Hp->V->Hp->Prop
 stop:Nat->Hp->Prop
def bw (X:Cx) (aa:List (Addr×Obj)) (H:Hp) (b:Addr):Prop:=
 H b=none/\b≠X.env.locals/\b∉X.fs/\(b∈X.ex\/X.s₀.heap.objs.size<=b)/\(∀ x c,X.env.cells.lookup x=some c->c≠b)/\∀ p∈X.pn++aa,p.1≠b
theorem Inv.fpOk  (I:Inv X aa σ H s) (hb:s.heap.objs.size<=b) (hn:H' b=none):bw X aa H' b:=by
 refine⟨hn,RV (Ri I.lt hb),I.nofs hb,.inr (Rz I.sz hb),fun x c e z=>?_,fun p hp z=>?_⟩
 ·obtain⟨v,q⟩:=I.cell x c e
  exact absurd (Ri q.lt (by rw[z];exact hb)) (Rl _)
 ·exact absurd (Ri (QZ (I.pin p hp).1) (by rw[z];exact hb)) (Rl _)
structure k9 (P:Program) (w:World) (K:PySem.W.Frag) (tg:Expr) (J:It) (fp:List Addr) (it:Addr) (tn:Nat->Heap->Prop):Prop where
 mem:it∈fp
 obj:∀ i h,tn i h->∀ b∈fp,∃ o,h.get? b=some o/\∀ v,o.data≠.cell v
 keep:∀ i h h',tn i h->(∀ b∈fp,∀ o,h.get? b=some o->h'.get? b=some o)->tn i h'
 item:∀ (X:Cx),X.prog=P->X.w=w->X.K=K->X.calm=true->∀ (i:Nat) (aa:List (Addr×Obj)) (s:Shared) (σ:St) (H:Hp) (E:Value->Shared->Prop),Inv X aa σ H s->(∀ b∈fp,bw X aa H b)->tn i s.heap->J.go i H ->
  wpAny (model P w) X.A (pyNext (.ref it)) (fun r s1=>∃ u,r=some u /\
   wpAny (model P w) X.A (letOwnedTupleGo tg (.ref it) u) (fun _ s2=>∃ x H',Inv X aa σ H' s2/\av x u/\J.yld i H x H'/\tn (i + 1) s2.heap/\∀ b∈fp,H' b=none) E s1) E s
 done:∀ (X:Cx),X.prog=P->X.w=w->X.K=K->X.calm=true->∀ (i:Nat) (aa:List (Addr×Obj)) (s:Shared) (σ:St) (H:Hp) (E:Value->Shared->Prop),Inv X aa σ H s->(∀ b∈fp,bw X aa H b)->tn i s.heap->J.stop i H ->
  wpAny (model P w) X.A (pyNext (.ref it)) (fun r s1=>r=none/\Inv X aa σ H s1) E s
 self:∀ (A:Around) (i:Nat) (s:Shared) (Q:Value->Shared->Prop) (E:Value->Shared->Prop),tn i s.heap->Q (.ref it) s->wpAny (model P w) A (pyIter (.ref it)) Q E s
abbrev TI:=St->Hp->(It->Hp->Prop)->Prop
def PIE (X:Cx) (aa:List (Addr×Obj)) (σ:St) (tg:Expr) (R:It->Hp->Prop) (uJ:Value) (s2:Shared):Prop:=
 ∃ (it:Addr) (fp:List Addr) (tn:Nat->Heap->Prop) (J:It) (H':Hp),uJ=.ref it/\Inv X aa σ H' s2/\k9 X.prog X.w X.K tg J fp it tn/\tn 0 s2.heap/\(∀ b∈fp,bw X aa H' b)/\R J H'
def PI (X:Cx) (tg iter:Expr) (wi:TI):Prop:=
 ∀ (aa:List (Addr×Obj)) (s:Shared) (σ:St) (H:Hp) (R:It->Hp->Prop),Inv X aa σ H s->wi σ H R ->
  wpAny (model X.prog X.w) X.A (eval iter X.env) (fun v s1=>wpAny (model X.prog X.w) X.A (pyIter v) (PIE X aa σ tg R) X.xe s1) X.xe s
theorem Bc {n:String}{Q:Unit->Shared->Prop} (ho:s.heap.get? it=some o) (hc:o.cls=.type n) (hd:o.data=.fields vs)
    (hn:["enumerate","zip","dict_itemiterator","dict_reverseitemiterator","odict_iterator","itertools.zip_longest","itertools.pairwise"].contains n=false) (hQ:Q () s):wpAny M A (letOwnedTupleGo tg (.ref it) u) Q E s:=by
  unfold letOwnedTupleGo;cases tg <;> first
    | exact QW hQ
    | (cases u <;> first
        | exact QW hQ
        | (refine mJ (UF ho ?_)
           rw[hc,hd];show wpAny M A (if (["enumerate","zip","dict_itemiterator","dict_reverseitemiterator","odict_iterator","itertools.zip_longest","itertools.pairwise"].contains n && vs[0]? == some (rawInt _))=true then _ else _) Q E s;rw[if_neg (by intro h;rw[hn,Bool.false_and] at h;cases h)];exact QW hQ))
def Itl (K:PySem.W.Frag) (a:Addr):It:=
 ⟨fun i H=>∃ xs x,SqL K H a xs/\xs[i]?=some x,fun i H x H'=>H'=H/\∀ xs,SqL K H a xs->xs[i]?=some x,fun i H=>∃ xs,SqL K H a xs/\xs.length<=i⟩
def Itr (lo:Int) (n:Nat):It:=⟨fun i _=>i<n,fun i H x H'=>H'=H/\x=.int (lo + i),fun i _=>n<=i⟩
theorem Lo {K:PySem.W.Frag} (a it:Addr):k9 P w K tg (Itl K a) [it] it (fun i h=>h.IsListIter it a i) where
 mem:=by simp
 obj:=fun i h st b hb=>by
  have e:b=it:=by simpa using hb
  subst e;obtain⟨o,e,c,d⟩:=st;exact⟨o,e,fun v z=>by rw[d] at z;cases z⟩
 keep:=fun i h h' st k=>st.at fun o e=>k it (by simp) o e
 item:=by
  intro X hP hw hK hc i aa s σ H E I hf st hg;subst hP hw hK;obtain⟨xs,x,hq,hx⟩:=hg;obtain⟨ag,rv,p,hz⟩:=I.list hq;obtain⟨u,hu,ru⟩:=rv.get hx;obtain⟨f0,f1,f2,f3,f4,f5⟩:=hf it (by simp);refine T3 st p.isList (x:=u) (by simpa using hu) fun h' c5 sb=>?_
  have I1:Inv X aa σ H { s with heap:=h' }:=I.turned (t':=s.toks) (fun b o hb e=>(sb.2 b hb).trans e) f0 f1 f3 f4 f5;obtain⟨o,e,c,d⟩:=id c5;exact⟨u,O,Bc (s:={ s with heap:=h' }) e c d (by decide) ⟨x,H,I1,ru,⟨O,fun ys hy=>by rw[I.list_inj hy hq];exact hx⟩,c5,fun b hb=>(hf b hb).1⟩⟩
 done:=by
  intro X hP hw hK hc i aa s σ H E I hf st hg;subst hP hw hK;obtain⟨xs,hq,hx⟩:=hg;obtain⟨ag,rv,p,hz⟩:=I.list hq;obtain⟨f0,f1,f2,f3,f4,f5⟩:=hf it (by simp);have hl:=rv.length;exact Fb I.hd st p.isList (by simp;omega) fun h' eb=>⟨O,I.turned (t':=s.toks) (fun b o hb e=>eb b o hb e) f0 f1 f3 f4 f5⟩
 self:=fun _ _ _ _ _ st h=>T8 st h
theorem Lj {K:PySem.W.Frag} (it:Addr) (lo:Int) (n:Nat):k9 P w K tg (Itr lo n) [it] it (fun i h=>IsRangeIter h it (lo + (i:Nat) * 1) ((n:Int) - (i:Nat)) 1) where
 mem:=by simp
 obj:=fun i h st b hb=>by
  have e:b=it:=by simpa using hb
  subst e;exact⟨_,st,fun v z=>by
   have z':Data.fields _=Data.cell v:=z;cases z'⟩
 keep:=fun i h h' st k=>k it (by simp) _ st
 item:=by
  intro X hP hw hK hc i aa s σ H E I hf st hg;subst hP hw hK;obtain⟨f0,f1,f2,f3,f4,f5⟩:=hf it (by simp);refine TW st (by have:i<n:=hg;omega) fun h' st0 sb=>?_
  have c5:IsRangeIter h' it (lo + ((i + 1:Nat):Int) * 1) ((n:Int) - ((i + 1:Nat):Int)) 1:=by
   rw[show lo + ((i + 1:Nat):Int) * 1=lo + (i:Int) * 1 + 1 by omega,show(n:Int) - ((i + 1:Nat):Int)=(n:Int) - (i:Int) - 1 by omega];exact st0
  have I1:Inv X aa σ H { s with heap:=h',toks:=s.toks + 1 }:=I.turned (fun b o hb e=>sb.extBut b o hb e) f0 f1 f3 f4 f5;exact⟨_,O,Bc (s:={ s with heap:=h',toks:=s.toks + 1 }) (n:="range_iterator") c5 O O (by decide) ⟨.int (lo + i),H,I1,⟨_,by rw[Int.mul_one]⟩,⟨O,O⟩,c5,fun b hb=>(hf b hb).1⟩⟩
 done:=by
  intro X hP hw hK hc i aa s σ H E I hf st hg;subst hP hw hK;obtain⟨f0,f1,f2,f3,f4,f5⟩:=hf it (by simp);exact GO I.hd st (by have:n<=i:=hg;omega) fun h' eb=>⟨O,I.turned (t':=s.toks) (fun b o hb e=>eb b o hb e) f0 f1 f3 f4 f5⟩
 self:=fun _ _ _ _ _ st h=>T4 st h
def iList (K:PySem.W.Frag) (tl:TE):TI:=fun σ H R=>tl σ H fun x H1=>∃ a,x=.ref a/\(∃ xs,SqL K H1 a xs)/\R (Itl K a) H1
theorem bV {l:Expr} (hl:PE X l tl):PI X tg l (iList X.K tl):=by
 intro aa s σ H R I h;refine thn (hl aa s σ H _ I h) fun v s1=>L2.ex5 fun x H1 I1 r1 q1=>?_
 obtain⟨a,e,⟨xs,hq⟩,q⟩:=q1;subst e;cases r1
 obtain⟨ag,rv,p,hz⟩:=I1.list hq;refine R5 p.isList ?_;refine⟨s1.heap.objs.size,[s1.heap.objs.size],_,_,H1,O,I1.kept (t':=s1.toks) fun b o e=>QU _ e,Lo a _,⟨_,Q1 _ O,O,O⟩,fun b hb=>?_,q⟩;have e:b=s1.heap.objs.size:=by simpa using hb
 subst e;exact I1.fpOk (QY _) (I1.hok.fresh (QY _))
theorem Gm {R:It->Hp->Prop}{hi:Int}{t u v:Tok}{tk:Nat} (I:Inv X aa σ H s) (h1:-(2 ^ 62)<=lo) (h2:lo<2 ^ 62) (h3:-(2 ^ 62)<=hi) (h4:hi<2 ^ 62)
  (q:R (Itr lo (hi - lo).toNat) H):wpAny (model X.prog X.w) X.A (pyIter (.ref s.heap.objs.size)) (PIE X aa σ tg R) E { s with heap:=s.heap.push { cls:=.type "range",data:=.fields #[.int lo t,.int hi u,.int 1 v] },toks:=tk }:=by
 refine Um (IsRange.new ..) (small_one h1 h2 h3 h4) ?_;have I1:Inv X aa σ H { s with heap:=s.heap.push { cls:=.type "range",data:=.fields #[.int lo t,.int hi u,.int 1 v] },toks:=tk }:=I.kept fun b o e=>QU _ e
 refine⟨(s.heap.push { cls:=.type "range",data:=.fields #[.int lo t,.int hi u,.int 1 v] }).objs.size,[(s.heap.push { cls:=.type "range",data:=.fields #[.int lo t,.int hi u,.int 1 v] }).objs.size],_,_,H,O,
  I1.kept (t':=tk) fun b o e=>QU _ e,Lj _ lo (hi - lo).toNat,?_,fun b hb=>?_,q⟩
 ·have e1:lo + ((0:Nat):Int) * 1=lo:=by simp
  have e2:(((hi - lo).toNat:Nat):Int) - ((0:Nat):Int)=Builtin.Range.rangeSize lo hi 1:=by rw[rangeSize_one];split <;> omega
  show IsRangeIter _ _ (lo + ((0:Nat):Int) * 1) ((((hi - lo).toNat:Nat):Int) - ((0:Nat):Int)) 1;rw[e1,e2];exact Q1 _ rfl
 ·have e:b=(s.heap.push { cls:=.type "range",data:=.fields #[.int lo t,.int hi u,.int 1 v] }).objs.size:=by simpa using hb
  subst e;exact I1.fpOk (QY _) (I1.hok.fresh (QY _))
def iRng1 (ta:TA):TI:=fun σ H R=>ta σ H fun vs H1=>∃ j:Int,vs=[.int j]/\-(2 ^ 62)<=j/\j<2 ^ 62/\R (Itr 0 j.toNat) H1
def iRng2 (ta:TA):TI:=fun σ H R=>ta σ H fun vs H1=>∃ i j:Int,vs=[.int i,.int j]/\(-(2 ^ 62)<=i/\i<2 ^ 62/\-(2 ^ 62)<=j/\j<2 ^ 62)/\R (Itr i (j - i).toNat) H1
theorem tI {a:Expr}{p pos:Pos} (hg:Gl X "range") (hm:X.mg "range"=none) (ha:PA X [a] ta) (hs:starEach [a] X.env=[(false,eval a X.env)]:=by rfl):PI X tg (.Call (.Name "range" p) [a] [] pos) (iRng1 ta):=by
 intro aa s σ H R I h;refine Call_ (g8 I hg hm boot_range (PyProof.Rows.callWith_type1 (thn (ha pos aa s σ H _ I h) fun us s1=>L2.ex5 fun vs H1 I1 r1 q1=>?_) hs O));obtain⟨j,e,q1,q2,q⟩:=q1;subst e;cases r1 with
 | cons r rr=>
  cases rr
  obtain⟨t,rfl⟩:=r;exact call_range_1 (Gm I1 (by omega) (by omega) q1 q2 (by simpa using q))
theorem Md {a b:Expr}{p pos:Pos} (hg:Gl X "range") (hm:X.mg "range"=none) (ha:PA X [a,b] ta) (hs:starEach [a,b] X.env=[(false,eval a X.env),(false,eval b X.env)]:=by rfl) (dD:starEach [b] X.env=[(false,eval b X.env)]:=by rfl) :
  PI X tg (.Call (.Name "range" p) [a,b] [] pos) (iRng2 ta):=by
 intro aa s σ H R I h;refine Call_ (g8 I hg hm boot_range (PyProof.Rows.callWith_type1 (thn (ha pos aa s σ H _ I h) fun us s1=>L2.ex5 fun vs H1 I1 r1 q1=>?_) (by rw[hs,dD]) (by rw[dD];rfl)));obtain⟨i,j,e,⟨q1,q2,q3,q4⟩,q⟩:=q1;subst e;cases r1 with
 | cons r rr=>
  cases rr with
  | cons r' rr=>
   cases rr
   obtain⟨t,rfl⟩:=r;obtain⟨t',rfl⟩:=r';exact call_range_2 (Gm I1 q1 q2 q3 q4 q)
def tFor (wi:TI) (g:TG) (tb:TS):TS:=fun D σ H=>wi σ H fun J H1=>∃ W:Nat->Nat->St->Hp->Prop,(∃ m,W 0 m σ H1)/\∀ i m σ H,W i m σ H ->
 (J.stop i H/\D.nx σ H)\/(J.go i H/\∃ N:St->Hp->Prop,(∀ σ' H',N σ' H'->∃ m',m'<m/\W (i + 1) m' σ' H')/\∀ x H',J.yld i H x H'->g x σ H' fun σ2 H2=>tb { D with nx:=N,ct:=N,bk:=D.nx } σ2 H2)
def tX (fp:List Addr) (h:Heap):List (Addr×Obj):=fp.filterMap fun b=>(h.get? b).map fun o=>(b,o)
theorem vR  (hb:b∈fp) (e:h.get? b=some o):(b,o)∈tX fp h:=List.mem_filterMap.mpr ⟨b,hb,by rw[e];rfl⟩
theorem Lw {p:Addr×Obj} (hp:p∈tX fp h):p.1∈fp/\h.get? p.1=some p.2:=by
 obtain⟨b,hb,e⟩:=List.mem_filterMap.mp hp;cases q:h.get? b with
 | none=>rw[q] at e;cases e
 | some o=>
  rw[q] at e;have e':(b,o)=p:=Option.some.inj e;subst e';exact⟨hb,q⟩
theorem Inv.pinned  (I:Inv X aa σ H s) (hf:∀ b∈fp,bw X aa H b) (ho:∀ b∈fp,∃ o,s.heap.get? b=some o/\∀ v,o.data≠.cell v):Inv X (aa++tX fp s.heap) σ H s:=
 I.pins_of fun p hp=>(T0.mp hp).elim (fun z=>I.pin p (Q8 _ z)) fun z=>by
  obtain⟨hb,e⟩:=Lw z;obtain⟨f0,f1,f2,_⟩:=hf p.1 hb;obtain⟨o,e',d⟩:=ho p.1 hb;rw[e] at e';cases e'
  exact⟨e,f0,f1,f2,d⟩
theorem Inv.unpinned {pl:List (Addr×Obj)} (I:Inv X (aa++pl) σ H s):Inv X aa σ H s:=I.pins_of fun p hp=>I.pin p (Q8 _ (Ru _ hp))
theorem cV {iter:Expr}{wi:TI}{g:TG}{pos:Pos} (hp:PassesOwn (model X.prog X.w) X.A X.env X.xe) (hc:X.calm=true) (hi:PI X tg iter wi) (hg:PG X tg g) (hb:PSs X body tb)
  (hs:∀ x,foldedSetIterable iter X.env x=pure x:=by intro _;rfl):PS X (.For tg iter body [] pos) (tFor wi g tb):=by
 intro aa s σ H D I h;refine wpAny_For (thn (hi aa s σ H _ I h) fun v s1 h1=>thn h1 fun uJ s2 h2=>?_) hs;obtain⟨it,fp,tn,J,H2,e,I2,T,iH,f2,W,⟨m0,w0⟩,turn⟩:=h2;subst e;have gj:∀ {H':Hp},(∀ b∈fp,H' b=none)->∀ b∈fp,bw X aa H' b:=fun hn b hb=>⟨hn b hb,(f2 b hb).2⟩
 refine codeAny_forLoop_any (fun n s'=>∃ i σ' H',Inv X aa σ' H' s'/\tn i s'.heap/\(∀ b∈fp,H' b=none)/\W i n σ' H') ?_ m0 ⟨0,σ,H2,I2,iH,fun b hb=>(f2 b hb).1,w0⟩;rintro n s3 ⟨i,σ3,H3,I3,jw,Di,w3⟩
 rcases turn i n σ3 H3 w3 with⟨stop,qn⟩|⟨go,N,hN,step⟩
 ·refine SB hp (thn (T.done X O O O hc i aa s3 σ3 H3 X.xe I3 (gj Di) jw stop) fun r s4 ⟨hr,I4⟩=>?_)
  subst hr;exact Td ⟨σ3,H3,I4,qn⟩
 ·refine SB hp (thn (T.item X O O O hc i aa s3 σ3 H3 X.xe I3 (gj Di) jw go) fun r s4 ⟨u,hr,h4⟩=>?_)
  subst hr;refine SB hp (thn h4 fun _ s5=>L2.ex5 fun x H5 I5 r5 a8=>?_);obtain⟨y5,eW,wX⟩:=a8;have yJ:=I5.pinned (gj wX) (T.obj _ _ eW);refine SB hp (thn (hg _ s5 σ3 H5 x u _ yJ r5 (step x H5 y5)) fun _ s6=>L2.ex4 fun σ6 H6 I6 q6=>?_);refine SB hp (thn (hb _ s6 σ6 H6 _ I6 q6) fun f s7 q7=>?_);have again:∀ {σ7:St}{H7:Hp},Inv X (aa++tX fp s5.heap) σ7 H7 s7->N σ7 H7->∃ m,m<n/\∃ i σ' H',Inv X aa σ' H' s7/\tn i s7.heap/\(∀ b∈fp,H' b=none)/\W i m σ' H':=fun {σ7 H7} I7 n7=>by
   obtain⟨m',hm,w7⟩:=hN σ7 H7 n7;refine⟨m',hm,i + 1,σ7,H7,I7.unpinned,T.keep _ _ _ eW fun b hb o e=>(I7.pin (b,o) (Q8 _ (Q8 _ (vR hb e)))).1,fun b hb=>?_,w7⟩;obtain⟨o,e,d⟩:=T.obj _ _ eW b hb;exact(I7.pin (b,o) (Q8 _ (Q8 _ (vR hb e)))).2.1
  cases f with
  | next=>obtain⟨σ7,H7,I7,n7⟩:=q7;exact again I7 n7
  | cont=>obtain⟨σ7,H7,I7,n7⟩:=q7;exact again I7 n7
  | brk=>obtain⟨σ7,H7,I7,q7⟩:=q7;exact⟨σ7,H7,I7.unpinned,q7⟩
  | ret v=>obtain⟨x7,σ7,H7,I7,r7,q7⟩:=q7;exact⟨x7,σ7,H7,I7.unpinned,r7,q7⟩
def WkW (J:It) (E:St->Hp->Prop) (B:(St->Hp->Prop)->V->St->Hp->Prop) (σ:St) (H:Hp):Prop:=∃ W:Nat->Nat->St->Hp->Prop,(∃ m,W 0 m σ H)/\∀ i m σ H,W i m σ H->(J.stop i H/\E σ H)\/(J.go i H/\∃ N:St->Hp->Prop,(∀ σ' H',N σ' H'->∃ m',m'<m/\W (i + 1) m' σ' H')/\∀ x H',J.yld i H x H'->B N x σ H')
theorem wk_ {J:It}{E:St->Hp->Prop}{B:(St->Hp->Prop)->V->St->Hp->Prop} (Pv:Nat->St->Hp->Prop) (h0:Pv 0 σ H) (hg:∀ i σ H,i<=n->Pv i σ H->(i<n->J.go i H)/\(n<=i->J.stop i H)) (hs:∀ i x σ H H',i<n->Pv i σ H->J.yld i H x H'->B (Pv (i + 1)) x σ H') (hd:∀ σ H,Pv n σ H->E σ H):WkW J E B σ H:=by
 refine⟨fun i m σ H=>m=n - i/\i<=n/\Pv i σ H,⟨n,by simp,R9 _,h0⟩,?_⟩;rintro i m σ H ⟨rfl,hi,p⟩
 obtain⟨q1,q2⟩:=hg i σ H hi p;by_cases aY:i<n
 ·exact .inr ⟨q1 aY,Pv (i + 1),fun σ' H' p'=>⟨n - (i + 1),by omega,O,aY,p'⟩,fun x H' y=>hs i x σ H H' aY p y⟩
 ·have e:i=n:=by omega
  subst e;exact .inl ⟨q2 (QY _),hd σ H p⟩
def qk (J:It) (D:gy) (g:TG) (tb:TS) (σ:St) (H:Hp):Prop:=WkW J D.nx (fun N x σ H'=>g x σ H' fun σ2 H2=>tb { D with nx:=N,ct:=N,bk:=D.nx } σ2 H2) σ H
theorem iP {K:PySem.W.Frag}{g:TG} (Pv:Nat->St->Hp->Prop) (h0:Pv 0 σ H) (hl:∀ i σ H,i<=xs.length->Pv i σ H->SqL K H a xs)
  (hs:∀ i x σ H,xs[i]?=some x->Pv i σ H->g x σ H fun σ2 H2=>tb { D with nx:=Pv (i + 1),ct:=Pv (i + 1),bk:=D.nx } σ2 H2) (hd:∀ σ H,Pv xs.length σ H->D.nx σ H):qk (Itl K a) D g tb σ H:=
 wk_ (n:=xs.length) Pv h0 (fun i σ H hi p=>⟨fun h=>⟨xs,xs[i],hl i σ H hi p,by simp[h]⟩,fun h=>⟨xs,hl i σ H hi p,h⟩⟩) (fun i x σ H H' hi p y=>by
 obtain⟨rfl,y⟩:=y;exact hs i x σ _ (y xs (hl i σ _ (RS hi) p)) p) hd
theorem LI {g:TG} (Pv:Nat->St->Hp->Prop) (h0:Pv 0 σ H)
  (hs:∀ i σ H,i<n->Pv i σ H->g (.int (lo + i)) σ H fun σ2 H2=>tb { D with nx:=Pv (i + 1),ct:=Pv (i + 1),bk:=D.nx } σ2 H2) (hd:∀ σ H,Pv n σ H->D.nx σ H):qk (Itr lo n) D g tb σ H:=
 wk_ (n:=n) Pv h0 (fun _ _ _ _ _=>⟨id,id⟩) (fun i x σ H H' hi p y=>by
 obtain⟨rfl,rfl⟩:=y;exact hs i σ _ hi p) hd
abbrev R2:=V->V->Hp->VK->Prop
def OpR (X:Cx) (f:Value->Value->Sem Value) (r:R2):Prop:=
 ∀ (aa:List (Addr×Obj)) (s:Shared) (σ:St) (H:Hp) (x y:V) (v u:Value) (Q:VK),Inv X aa σ H s->av x v->av y u->r x y H Q ->
  wpAny (model X.prog X.w) X.A (f v u) (EP X aa σ Q) X.xe s
def UnR (X:Cx) (f:Value->Sem Value) (r:V->Hp->VK->Prop):Prop:=
 ∀ (aa:List (Addr×Obj)) (s:Shared) (σ:St) (H:Hp) (x:V) (v:Value) (Q:VK),Inv X aa σ H s->av x v->r x H Q ->
  wpAny (model X.prog X.w) X.A (f v) (EP X aa σ Q) X.xe s
def gD (X:Cx) (f:Value) (r:List V->Hp->VK->Prop):Prop:=
 ∀ (aa:List (Addr×Obj)) (s:Shared) (σ:St) (H:Hp) (xs:List V) (us:List Value) (Q:VK),Inv X aa σ H s->aw xs us->r xs H Q ->
  wpAny (model X.prog X.w) X.A (call f us) (EP X aa σ Q) X.xe s
def tOp (r:R2) (ta tb:TE):TE:=fun σ H Q=>ta σ H fun x H1=>tb σ H1 fun y H2=>r x y H2 Q
def tUn (r:V->Hp->VK->Prop) (ta:TE):TE:=fun σ H Q=>ta σ H fun x H1=>r x H1 Q
def rI (C:Int->Int->Prop) (g:Int->Int->V):R2:=fun x y H Q=>∃ i j,x=.int i/\y=.int j/\C i j/\Q (g i j) H
def rI0 (g:Int->Int->V):R2:=fun x y H Q=>∃ i j,x=.int i/\y=.int j/\Q (g i j) H
def rU (g:Int->V):V->Hp->VK->Prop:=fun x H Q=>∃ i,x=.int i/\Q (g i) H
section
variable {a b:Expr}{ta tb tc:TE}{pos:Pos}
theorem binT (ha:PE X a ta) (hb:PE X b tb){R:V->V->Hp->Prop} (I:Inv X aa σ H s)
  (h:ta σ H fun x H1=>tb σ H1 fun y H2=>R x y H2)
  (hf:∀ v u s2 x y H2,Inv X aa σ H2 s2->av x v->av y u->R x y H2->wpAny (model X.prog X.w) X.A (f v u) Q X.xe s2) :
  wpAny (model X.prog X.w) X.A (eval a X.env) (fun v s₁=>wpAny (model X.prog X.w) X.A (eval b X.env) (fun u s₂=>wpAny (model X.prog X.w) X.A (f v u) Q X.xe s₂) X.xe s₁) X.xe s:=by
 refine thn (ha aa s σ H _ I h) fun v s1=>L2.ex5 fun x H1 I1 r1 q1=>?_
 refine thn (hb aa s1 σ H1 _ I1 q1) fun u s2=>L2.ex5 fun y H2 I2 r2 q2=>?_
 exact hf v u s2 x y H2 I2 r1 r2 q2
theorem aI {r:R2} (ho:OpR X (binaryOp op) r) (ha:PE X a ta) (hb:PE X b tb):PE X (.BinOp a op b pos) (tOp r ta tb):=by
 intro aa s σ H Q I h;exact wpAny_BinOp (binT ha hb I h fun v u s2 x y H2 I2 rx ry q=>ho aa s2 σ H2 x y v u Q I2 rx ry q)
theorem pe_un {op:UnaryOp}{r:V->Hp->VK->Prop} (ho:UnR X (unaryOp op) r) (ha:PE X a ta):PE X (.UnaryOp op a pos) (tUn r ta):=by
 intro aa s σ H Q I h;exact UnaryOp_ (thn (ha aa s σ H _ I h) fun v s1=>L2.ex5 fun x H1 I1 r1 q1=>ho aa s1 σ H1 x v Q I1 r1 q1)
theorem opI {C:Int->Int->Prop}
  (rule:∀ (i j:Int) (t u:Tok) (s:Shared) (Q:Value->Shared->Prop) (E:Value->Shared->Prop),C i j->Q (.int (g i j) s.toks) { s with toks:=s.toks + 1 }->wpAny (model X.prog X.w) X.A (f (.int i t) (.int j u)) Q E s) :
  OpR X f (rI C fun i j=>.int (g i j)):=by
 intro aa s σ H x y v u Q I rx ry h;obtain⟨i,j,rfl,rfl,hc,q⟩:=h;obtain⟨t,rfl⟩:=rx;obtain⟨t',rfl⟩:=ry;exact rule i j t t' s _ _ hc ⟨.int (g i j),H,I.tok _,⟨_,O⟩,q⟩
theorem opI0 
  (rule:∀ (i j:Int) (t u:Tok) (s:Shared) (Q:Value->Shared->Prop) (E:Value->Shared->Prop),Q (.int (g i j) s.toks) { s with toks:=s.toks + 1 }->wpAny (model X.prog X.w) X.A (f (.int i t) (.int j u)) Q E s) :
  OpR X f (rI0 fun i j=>.int (g i j)):=by
 intro aa s σ H x y v u Q I rx ry h;obtain⟨i,j,rfl,rfl,q⟩:=h;obtain⟨t,rfl⟩:=rx;obtain⟨t',rfl⟩:=ry;exact rule i j t t' s _ _ ⟨.int (g i j),H,I.tok _,⟨_,O⟩,q⟩
theorem opB0 {g:Int->Int->Bool}
  (rule:∀ (i j:Int) (t u:Tok) (s:Shared) (Q:Value->Shared->Prop) (E:Value->Shared->Prop),Q (.bool (g i j)) s->wpAny (model X.prog X.w) X.A (f (.int i t) (.int j u)) Q E s) :
  OpR X f (rI0 fun i j=>.bl (g i j)):=by
 intro aa s σ H x y v u Q I rx ry h;obtain⟨i,j,rfl,rfl,q⟩:=h;obtain⟨t,rfl⟩:=rx;obtain⟨t',rfl⟩:=ry;exact rule i j t t' s _ _ ⟨.bl (g i j),H,I,O,q⟩
def CDiv (i j:Int):Prop:=0<j/\j<1073741824
def CPow (i j:Int):Prop:=0<=j/\j<=1000000/\i.natAbs<2 ^ 64
def CMul (i j:Int):Prop:=(-(2 ^ 64)<i/\i<2 ^ 64)\/(-(2 ^ 64)<j/\j<2 ^ 64)
theorem CMul.ok {i j:Int} (h:CMul i j):IntMulOk i j:=by
 rcases h with⟨h1,h2⟩|⟨h1,h2⟩
 ·exact .of_left (intBits_le_64 h1 h2)
 ·exact .of_right (intBits_le_64 h1 h2)
theorem fu:OpR X (binaryOp .Add) (rI0 fun i j=>.int (i + j)):=opI0 fun _ _ _ _ _ _ _ q=>add_int q
theorem iq:OpR X (binaryOp .Sub) (rI0 fun i j=>.int (i - j)):=opI0 fun _ _ _ _ _ _ _ q=>sub_int q
theorem jM:OpR X (binaryOp .Mult) (rI CMul fun i j=>.int (i * j)):=opI fun _ _ _ _ _ _ _ hc q=>mul_int q hc.ok
theorem A9:OpR X (binaryOp .FloorDiv) (rI CDiv fun i j=>.int (i / j)):=opI fun i j _ _ _ _ _ hc q=>by
 have h1:(0:Int)<j:=hc.1;have h2:j<1073741824:=hc.2;exact floordiv_int (by omega) (by rw[Tv i (by omega)];exact q) (.inl (PyProof.noPylong_small (by omega)))
theorem fV:OpR X (binaryOp .Mod) (rI (fun _ j=>0<j) fun i j=>.int (i % j)):=opI fun i j _ _ _ _ _ hc q=>by
 have h1:(0:Int)<j:=hc;exact mod_int' (by omega) (by rw[Int.fmod_eq_emod_of_nonneg i (by omega)];exact q)
theorem op_pow:OpR X (binaryOp .Pow) (rI CPow fun i j=>.int (i ^ j.toNat)):=opI fun _ _ _ _ _ _ _ hc q=>pow_int_small hc.1 hc.2.1 hc.2.2 q
theorem unI {f:Value->Sem Value}{g:Int->Int}
  (rule:∀ (i:Int) (t:Tok) (s:Shared) (Q:Value->Shared->Prop) (E:Value->Shared->Prop),Q (.int (g i) s.toks) { s with toks:=s.toks + 1 }->wpAny (model X.prog X.w) X.A (f (.int i t)) Q E s) :
  UnR X f (rU fun i=>.int (g i)):=by
 intro aa s σ H x v Q I rx h;obtain⟨i,rfl,q⟩:=h;obtain⟨t,rfl⟩:=rx;exact rule i t s _ _ ⟨.int (g i),H,I.tok _,⟨_,O⟩,q⟩
theorem un_neg:UnR X (unaryOp .USub) (rU fun i=>.int (-i)):=unI fun _ _ _ _ _ q=>neg_int q
end
variable {C dx g:Addr}{b expr:Bool}{f m name:Str}{kw:List (Str×Value)}{mA:Str->Option Value}{o:Option Value}{op:CmpOp}{pl:Sem Bool}{r:R2}{us vs:List Value}{x y:V}
def scal:V->V->Bool
 | .non,.non=>true | .non,.int _=>true | .int _,.non=>true | .non,.bl _=>true | .bl _,.non=>true | .non,.str _=>true | .str _,.non=>true
 | .int _,.int _=>true | .bl _,.bl _=>true | .str _,.str _=>true | .byt _,.byt _=>true
 | .int _,.str _=>true | .str _,.int _=>true | .bl _,.str _=>true | .str _,.bl _=>true
 | _,_=>false
def rEq:R2:=fun x y H Q=>scal x y=true/\Q (.bl (decide (x=y))) H
def rNe:R2:=fun x y H Q=>scal x y=true/\Q (.bl (!decide (x=y))) H
theorem FJ {i j:Int}:decide (V.int i=V.int j)=(i == j):=by
 rw[Te];simp
theorem Fe {i j:Bool}:decide (V.bl i=V.bl j)=(i == j):=by
 rw[Te];simp
theorem GJ {i j:Str}:decide (V.str i=V.str j)=(i == j):=by
 rw[Te];simp
theorem EI {i j:Array UInt8}:decide (V.byt i=V.byt j)=(i.toList == j.toList):=by
 rw[Te];cases i
 cases j
 simp
section
variable {a b:Expr}{ta tb tc:TE}{pos:Pos}
theorem bN {Q:VK}{k k':Bool} (I:Inv X aa σ H s) (q:Q (.bl k) H) (e:k=k'):EP X aa σ Q (.bool k') s:=by
 subst e;exact⟨.bl k,H,I,O,q⟩
theorem oB:OpR X (compareOp .Eq) rEq:=by
 intro aa s σ H x y v u Q I rx ry h;obtain⟨hs,q⟩:=h;cases x with
 | non=>
  cases rx
  cases y with
  | non=>cases ry;exact PySem.EqNone.eq_none_none (bN I q (by simp))
  | bl j=>cases ry;exact PySem.EqNone.eq_none_bool (bN I q (by simp))
  | int j=>obtain⟨t',rfl⟩:=ry;exact PySem.EqNone.eq_none_int (bN I q (by simp))
  | str j=>obtain⟨t',rfl⟩:=ry;exact PySem.EqNone.eq_none_str (bN I q (by simp))
  | _=>exact absurd (show false=true from hs) Ra
 | bl i=>
  cases rx
  cases y with
  | non=>cases ry;exact PySem.EqNone.eq_bool_none (bN I q (by simp))
  | bl j=>cases ry;exact eq_bool (bN I q Fe)
  | str j=>obtain⟨t',rfl⟩:=ry;exact PySem.EqMixed.eq_bool_str (bN I q (by simp))
  | _=>exact absurd (show false=true from hs) Ra
 | int i=>
  obtain⟨t,rfl⟩:=rx;cases y with
  | non=>cases ry;exact PySem.EqNone.eq_int_none (bN I q (by simp))
  | int j=>obtain⟨t',rfl⟩:=ry;exact eq_int (bN I q FJ)
  | str j=>obtain⟨t',rfl⟩:=ry;exact PySem.EqMixed.eq_int_str (bN I q (by simp))
  | _=>exact absurd (show false=true from hs) Ra
 | str i=>
  obtain⟨t,rfl⟩:=rx;cases y with
  | non=>cases ry;exact PySem.EqNone.eq_str_none (bN I q (by simp))
  | bl j=>cases ry;exact PySem.EqMixed.eq_str_bool (bN I q (by simp))
  | int j=>obtain⟨t',rfl⟩:=ry;exact PySem.EqMixed.eq_str_int (bN I q (by simp))
  | str j=>obtain⟨t',rfl⟩:=ry;exact eq_str (bN I q GJ)
  | _=>exact absurd (show false=true from hs) Ra
 | byt i=>
  obtain⟨t,rfl⟩:=rx;cases y with
  | byt j=>obtain⟨t',rfl⟩:=ry;exact PySem.W.eq_bytes (bN I q EI)
  | _=>exact absurd (show false=true from hs) Ra
 | _=>cases y <;> exact absurd (show false=true from hs) Ra
theorem qo:OpR X (compareOp .NotEq) rNe:=by
 intro aa s σ H x y v u Q I rx ry h;obtain⟨hs,q⟩:=h;cases x with
 | non=>
  cases rx
  cases y with
  | non=>cases ry;exact PySem.EqNone.ne_none_none (bN I q (by simp))
  | bl j=>cases ry;exact PySem.EqNone.ne_none_bool (bN I q (by simp))
  | int j=>obtain⟨t',rfl⟩:=ry;exact PySem.EqNone.ne_none_int (bN I q (by simp))
  | str j=>obtain⟨t',rfl⟩:=ry;exact PySem.EqNone.ne_none_str (bN I q (by simp))
  | _=>exact absurd (show false=true from hs) Ra
 | bl i=>
  cases rx
  cases y with
  | non=>cases ry;exact PySem.EqNone.ne_bool_none (bN I q (by simp))
  | bl j=>cases ry;exact ne_bool (bN I q (congrArg not Fe))
  | str j=>obtain⟨t',rfl⟩:=ry;exact PySem.EqMixed.ne_bool_str (bN I q (by simp))
  | _=>exact absurd (show false=true from hs) Ra
 | int i=>
  obtain⟨t,rfl⟩:=rx;cases y with
  | non=>cases ry;exact PySem.EqNone.ne_int_none (bN I q (by simp))
  | int j=>obtain⟨t',rfl⟩:=ry;exact ne_int (bN I q (congrArg not FJ))
  | str j=>obtain⟨t',rfl⟩:=ry;exact PySem.EqMixed.ne_int_str (bN I q (by simp))
  | _=>exact absurd (show false=true from hs) Ra
 | str i=>
  obtain⟨t,rfl⟩:=rx;cases y with
  | non=>cases ry;exact PySem.EqNone.ne_str_none (bN I q (by simp))
  | bl j=>cases ry;exact PySem.EqMixed.ne_str_bool (bN I q (by simp))
  | int j=>obtain⟨t',rfl⟩:=ry;exact PySem.EqMixed.ne_str_int (bN I q (by simp))
  | str j=>obtain⟨t',rfl⟩:=ry;exact ne_str (bN I q (congrArg not GJ))
  | _=>exact absurd (show false=true from hs) Ra
 | byt i=>
  obtain⟨t,rfl⟩:=rx;cases y with
  | byt j=>obtain⟨t',rfl⟩:=ry;exact PySem.W.ne_bytes (bN I q (congrArg not EI))
  | _=>exact absurd (show false=true from hs) Ra
 | _=>cases y <;> exact absurd (show false=true from hs) Ra
theorem tZ:OpR X (compareOp .Lt) (rI0 fun i j=>.bl (decide (i<j))):=opB0 fun _ _ _ _ _ _ _ q=>lt_int q
theorem op_le:OpR X (compareOp .LtE) (rI0 fun i j=>.bl (decide (i<=j))):=opB0 fun _ _ _ _ _ _ _ q=>le_int q
theorem oK:OpR X (compareOp .Gt) (rI0 fun i j=>.bl (decide (j<i))):=opB0 fun _ _ _ _ _ _ _ q=>gt_int q
theorem op_ge:OpR X (compareOp .GtE) (rI0 fun i j=>.bl (decide (j<=i))):=opB0 fun _ _ _ _ _ _ _ q=>ge_int q
theorem bH (b:Expr) (h:op≠.In:=by decide) (h2:op≠.NotIn:=by decide):behindInMarks op b=false:=by
 have e1:(op == CmpOp.In)=false:=by cases op <;> first|rfl|exact absurd O h
 have e2:(op == CmpOp.NotIn)=false:=by cases op <;> first|rfl|exact absurd O h2
 cases b <;> simp[behindInMarks,e1,e2]
theorem mF  (ho:OpR X (compareOp op) r) (ha:PE X a ta) (hb:PE X b tb) (hm:behindInMarks op b=false):PE X (.Compare a [op] [b] pos) (tOp r ta tb):=by
 intro aa s σ H Q I h;exact wpAny_Compare1 (binT ha hb I h fun v u s2 x y H2 I2 rx ry q=>ho aa s2 σ H2 x y v u Q I2 rx ry q) hm
def tTest (t:TE):TT:=fun σ H Q=>t σ H fun x H'=>∃ k,x=.bl k/\Q k H'
theorem cJ  (ho:OpR X (compareOp op) r) (ha:PE X a ta) (hb:PE X b tb) (hm:behindInMarks op b=false):PT X (.Compare a [op] [b] pos) (tTest (tOp r ta tb)):=by
 intro aa s σ H Q I h;refine T7 (thn (ha aa s σ H _ I h) fun v s1=>L2.ex5 fun x H1 I1 r1 q1=>thn (hb aa s1 σ H1 _ I1 q1) fun u s2=>L2.ex5 fun y H2 I2 r2 q2=>
  thn (ho aa s2 σ H2 x y v u _ I2 r1 r2 q2) fun c s3 ⟨z,H3,I3,r3,k,e,q3⟩=>?_) hm
 subst e;cases r3
 exact R4 ⟨H3,I3,q3⟩
theorem sS:(sizeLine:Nat)<2 ^ 63:=by rw[Q3];decide
theorem gE  (r:aw [x] us):∃ u,us=[u]/\av x u:=by
 cases r with
 | cons r1 r2=>cases r2;exact⟨_,O,r1⟩
theorem pY  (r:aw [x,y] us):∃ u w',us=[u,w']/\av x u/\av y w':=by
 cases r with
 | cons r1 r2=>
  cases r2 with
  | cons r3 r4=>cases r4;exact⟨_,_,O,r1,r3⟩
theorem PL:gD X (.builtin "abs") (fun xs H Q=>∃ i,xs=[.int i]/\Q (.int (if i<0 then -i else i)) H):=by
 intro aa s σ H xs us Q I r h;obtain⟨i,rfl,q⟩:=h;obtain⟨u,rfl,t,rfl⟩:=gE r;exact call_abs_int fun u tk=>⟨.int (if i<0 then -i else i),H,I.tok _,⟨_,O⟩,q⟩
end
structure oO (h:Heap) (x dx C:Addr) (mA:Str->Option Value):Prop where
 obj:h.get? x=some (PySem.W.instObj C dx)
 ns:h.Ns1 dx mA
 ne:dx≠x
theorem OB  (n:h.Ns1 dx mA):∃ od,h.get? dx=some od/\∀ name,PySem.W.lookIn name od=some (mA name):=by
 obtain⟨o,es,ep,ho,hd,hk,_,hm⟩:=n;refine⟨o,ho,fun name=>?_⟩;have e:=hm name;unfold nsFind findBy at e;rw[<- Array.find?_toList] at e;unfold PySem.W.lookIn;rw[hd];dsimp only;split
 ·rename_i y q
  rw[q] at e;exact congrArg some e
 ·rename_i q
  rw[q] at e;have a:es.toList.any (·.refKey)=false:=by
   rw[List.any_eq_false];intro y hy;obtain⟨z,t,bZ⟩:=hk y (Array.mem_toList_iff.mp hy);simp[DictEntry.refKey,bZ]
  have a':¬ es.toList.any (·.refKey)=true:=by rw[a];exact Ra
  rw[if_neg a'];exact congrArg some e
theorem oO.look {x:Addr} (I:oO h x dx C mA):∃ od,PySem.W.InstAt h x (PySem.W.instObj C dx) C (some od)/\∀ name,PySem.W.lookIn name od=some (mA name):=
 let ⟨od,ho,hl⟩:=OB I.ns
 ⟨od,⟨I.obj,rfl,rfl,ho⟩,hl⟩
section
variable {K:PySem.W.Frag}{x f:Addr}{v:Value}
theorem OE  (X:K.In s.heap) (I:oO s.heap x dx C mA) (hg:PySem.W.plainGet K C name=true) (hh:PySem.W.hasDictIn K C=true)
  (ha:PySem.W.findIn K (.ref C) name=some none) (hv:mA name=some v) (c6:PySem.W.handedIn v=true) (h:Q v { s with toks:=s.toks + 1 }) :
  wpAny (model prog w) A (getAttr (.ref x) name expr) Q E s:=by
 obtain⟨od,J,hl⟩:=I.look;exact PySem.W.get_value X J (PySem.W.plainGet_of hg).1 (PySem.W.findObj_own hh ha O (by rw[hl,hv])) c6 h
theorem Ni {Q:Value×List Value->Shared->Prop} (X:K.In s.heap) (I:oO s.heap x dx C mA) (hg:PySem.W.plainGet K C name=true)
  (hf:PySem.W.findIn K (.ref C) name=some (some (.ref f))) (ht:PySem.W.isFn K (.ref f)=true) (hv:mA name=none) (h:Q (.ref f,[.ref x]) s) :
  wpAny (model prog w) A (getMethod (.ref x) name pl) Q E s:=by
 obtain⟨od,J,hl⟩:=I.look;exact PySem.W.method_fn X J (PySem.W.plainGet_of hg).1 (PySem.W.plainGet_of hg).2 hf (beq_iff_eq.mp ht) (by show(PySem.W.lookIn name od).map (·.isSome)=some false;rw[hl,hv];rfl) h
theorem OX {ns:List Str}{Q:Unit->Shared->Prop} (X:K.In s.heap) (I:oO s.heap x dx C mA)
  (hs:PySem.W.findIn K (.ref C) "__setattr__"=some (some (.builtin "object.__setattr__"))) (hp:PySem.W.plainOver K C=true) (ht:PySem.W.takerIn K C name=some none) (hh:PySem.W.hasDictIn K C=true)
  (hw:PySem.Within mA ns) (hsz:ns.length<=sizeLine)
  (h:∀ h',oO h' x dx C (fun y=>if y=name then some v else mA y)->Heap.SameBut dx s.heap h'->Q () { s with heap:=h',toks:=s.toks + 2 }) :
  wpAny (model prog w) A (setAttr (.ref x) name v) Q E s:=by
 obtain⟨od,J,hl⟩:=I.look;refine PySem.W.set_plain X J hs (PySem.W.osa_open (s:={ s with toks:=s.toks + 1 }) (r:=none) X J hp ht fun b=>?_);obtain⟨cd,hc,bD⟩:=PySem.W.any_some hh;have hx:s.heap.get? x=some ⟨.ref C,some dx,.plain,#[]⟩:=I.obj;refine mJ (QW (mJ (mJ (wpAny_loadPart hx (mJ (PySem.W.Looks.here (s:={ s with toks:=s.toks + 1 }) (PySem.W.looks_clsIn X hc) ?_))))));rw[bD];refine QW (a:=some dx) (mJ (QW (mJ ?_)));refine wpAny_nsSet1 (s:={ s with toks:=s.toks + 1 }) I.ns fun h' n9 dD=>?_
 obtain⟨oD,J7,IC,yp,zH,zp⟩:=n9.count (PySem.Within.cons name v hw);refine mJ (wpAny_lookBehind yp (by rw[zH];exact pastItsLine_dict (Rz zp (by rw[Re];omega))) ?_);exact QW (h _ ⟨(dD.2 _ (Ne.symm I.ne)).trans I.obj,n9,I.ne⟩ dD)
theorem Nx  (X:K.In s.heap) (hm:PySem.W.makesIn K C=true)
  (hi:PySem.W.findIn K (.ref C) "__init__"=some (some (.ref f))) (hf:PySem.W.typeIn K (.ref f)=some (.type "function"))
  (h:codeAny (model prog w) (A.under (.builtin "type.__call__" ⟨.ref C::vs,kw⟩)) (.call (.ref f) ⟨.ref (s.heap.objs.size + 1)::vs,kw⟩) (PySem.W.InitBack (s.heap.objs.size + 1) R)
   { s with heap:=(s.heap.push PySem.W.emptyDict).push (PySem.W.instObj C s.heap.objs.size) }) :
  codeAny (model prog w) A (.call (.ref C) ⟨vs,kw⟩) R s:=by
 obtain⟨hh,g,d,t,os⟩:=s;exact PySem.W.make_core (PySem.W.makes_of X hm) (PySem.W.looks_findIn X hi) (fun self=>PySem.W.bind_fn X self hf) (.inl O) h
end
def br (f:Str) (v:V):List (Str×V)->List (Str×V)
 | []=>[(f,v)]
 | (g,x)::r=>if g=f then(g,v)::r else(g,x)::br f v r
theorem FD (f g:Str) (v:V):∀ fs:List (Str×V),(br f v fs).lookup g=if g=f then some v else fs.lookup g
 | []=>by
  show List.lookup g [(f,v)]=_;by_cases h:g=f
  ·have hb:(g == f)=true:=beq_iff_eq.mpr h
   simp only[List.lookup,hb,if_pos h]
  ·have hb:(g == f)=false:=beq_eq_false_iff_ne.mpr h
   simp only[List.lookup,hb,if_neg h]
 | (k,x)::r=>by
  have ih:=FD f g v r;rw[show br f v ((k,x)::r)=(if k=f then(k,v)::r else(k,x)::br f v r) from rfl];by_cases hk:k=f
  ·rw[if_pos hk]
   by_cases h:g=k
   ·have hb:(g == k)=true:=beq_iff_eq.mpr h
    simp only[List.lookup,hb,if_pos (h.trans hk)]
   ·have hb:(g == k)=false:=beq_eq_false_iff_ne.mpr h
    simp only[List.lookup,hb,if_neg (fun e:g=f=>h (e.trans hk.symm))]
  ·rw[if_neg hk]
   by_cases h:g=k
   ·have hb:(g == k)=true:=beq_iff_eq.mpr h
    simp only[List.lookup,hb,if_neg (fun e:g=f=>hk (h.symm.trans e))]
   ·have hb:(g == k)=false:=beq_eq_false_iff_ne.mpr h
    simp only[List.lookup,hb]
    exact ih
theorem Ac (f:Str) (v:V):∀ fs:List (Str×V),f∈(br f v fs).map (·.1)/\∀ g,g∈fs.map (·.1)->g∈(br f v fs).map (·.1)
 | []=>⟨by simp[br],fun g h=>by simp at h⟩
 | (k,x)::r=>by
  obtain⟨i1,i2⟩:=Ac f v r;rw[show br f v ((k,x)::r)=(if k=f then(k,v)::r else(k,x)::br f v r) from rfl];by_cases hk:k=f
  ·rw[if_pos hk]
   subst hk;exact⟨by simp,fun g h=>by simpa using h⟩
  ·rw[if_neg hk]
   refine⟨?_,fun g h=>?_⟩
   ·rw[RN]
    exact Q6 _ i1
   ·rw[RN] at h ⊢
    rcases Rp.mp h with e|e
    ·exact Rp.mpr (.inl e)
    ·exact Q6 _ (i2 g e)
theorem DM (f:Str) (v:V):∀ fs:List (Str×V),(br f v fs).length<=fs.length + 1
 | []=>by simp[br]
 | (k,x)::r=>by
  have ih:=DM f v r;rw[show br f v ((k,x)::r)=(if k=f then(k,v)::r else(k,x)::br f v r) from rfl];by_cases hk:k=f
  ·rw[if_pos hk,Re,Re];omega
  ·rw[if_neg hk,Re,Re];omega
theorem dM.some_of  (r:dM (some v) o):∃ u,o=some u/\av v u:=by
 cases o with
 | none=>exact(show False from r).elim
 | some u=>exact⟨u,O,r⟩
theorem dM.none_of  (r:dM none o):o=none:=by
 cases o with
 | none=>rfl
 | some u=>exact(show False from r).elim
theorem Nj  (r:av v u):PySem.W.handedIn u=true:=by
 cases v with
 | non=>cases (show u=Value.none from r);rfl
 | bl b=>cases (show u=Value.bool b from r);rfl
 | int i=>obtain⟨t,e⟩:=(show ∃ t,u=Value.int i t from r);cases e;rfl
 | str x=>obtain⟨t,e⟩:=(show ∃ t,u=Value.str x t from r);cases e;rfl
 | byt b=>obtain⟨t,e⟩:=(show ∃ t,u=Value.bytes b t from r);cases e;rfl
 | flt b=>obtain⟨t,e⟩:=(show ∃ t,u=Value.float b t from r);cases e;rfl
 | ref a=>cases (show u=Value.ref a from r);rfl
 | ty n=>cases (show u=Value.type n from r);rfl
section
variable {fs JD:List (Str×V)}
theorem wy (hok:HOk P w H h) (e:H a=some (.ins C dx fs)):∃ mA,oO h a dx C mA/\(∀ f,dM (fs.lookup f) (mA f))/\PySem.Within mA (fs.map (·.1))/\fs.length<=1000/\H dx=some (.own a):=by
 obtain⟨d,z,ne,ob,mA,n,r,q⟩:=(show cu P w H h a (.ins C dx fs) from hok a _ e);exact⟨mA,⟨ob,n,ne⟩,r,q,z,d⟩
end
structure Cls (K:PySem.W.Frag) (C:Addr):Prop where
 pg:PySem.W.plainGet K C Str.empty=true
 hd:PySem.W.hasDictIn K C=true
 po:PySem.W.plainOver K C=true
 sa:PySem.W.findIn K (.ref C) "__setattr__"=some (some (.builtin "object.__setattr__"))
theorem Cls.get {K:PySem.W.Frag}{C:Addr} (c:Cls K C) (f:Str):PySem.W.plainGet K C f=true:=c.pg
def zbL (K:PySem.W.Frag) (C:Addr) (f:Str):Prop:=PySem.W.findIn K (.ref C) f=some none
theorem zbL.taker {K:PySem.W.Frag} (n:zbL K C f):PySem.W.takerIn K C f=some none:=by
 unfold PySem.W.takerIn;rw[show PySem.W.findIn K (.ref C) f=some none from n];rfl
structure Con (K:PySem.W.Frag) (C:Addr) (f:Str) (v:V) (u:Value):Prop where
 at_:PySem.W.findIn K (.ref C) f=some (some u)
 rel:av v u
 get:PySem.W.specialIn K u "__get__"=some none
 cp:PySem.W.copiedNames.contains f=false
structure Meth (K:PySem.W.Frag) (C:Addr) (m:Str) (f:Addr):Prop where
 at_:PySem.W.findIn K (.ref C) m=some (some (.ref f))
 fn:PySem.W.isFn K (.ref f)=true
 kp:PySem.W.keepIn K (.ref f)=true
section
variable {fs:List (Str×V)}
theorem Og  (I:Inv X aa σ H s) (e:H a=some (.ins C dx fs)) (c:Cls X.K C) (n:zbL X.K C f) (l:fs.lookup f=some v)
  (h:∀ u s',Inv X aa σ H s'->av v u->Q u s'):wpAny (model X.prog X.w) A (getAttr (.ref a) f b) Q E s:=by
 obtain⟨mA,U0,r,_,_,_⟩:=wy I.hok e;obtain⟨u,hu,ru⟩:=dM.some_of (v:=v) (o:=mA f) (by rw[<- l];exact r f);exact OE I.kIn U0 (c.get f) c.hd n hu (Nj ru) (h u _ (I.tok _) ru)
theorem Pw {Q:Value×List Value->Shared->Prop} (I:Inv X aa σ H s) (e:H a=some (.ins C dx fs)) (c:Cls X.K C) (k:Meth X.K C m g) (l:fs.lookup m=none)
  (h:Q (.ref g,[.ref a]) s):wpAny (model X.prog X.w) A (getMethod (.ref a) m pl) Q E s:=by
 obtain⟨mA,U0,r,_,_,_⟩:=wy I.hok e;have hn:mA m=none:=dM.none_of (by rw[<- l];exact r m);exact Ni I.kIn U0 (c.get m) k.at_ k.fn hn h
theorem LQ {Q:Unit->Shared->Prop} (I:Inv X aa σ H s) (e:H a=some (.ins C dx fs)) (c:Cls X.K C) (n:zbL X.K C f) (hl:fs.length<1000) (ry:av y u)
  (h:∀ s',Inv X aa σ (upd H a (.ins C dx (br f y fs))) s'->Q () s'):wpAny (model X.prog X.w) A (setAttr (.ref a) f u) Q E s:=by
 obtain⟨mA,U0,r,wi,_,ho⟩:=wy I.hok e;have hz:(fs.map (·.1)).length<=sizeLine:=by rw[QT,Q3];omega
 refine OX I.kIn U0 c.sa c.po n.taker c.hd wi hz fun h' O' sb=>h _ ?_
 have hd:∃ o,h'.get? dx=some o:=let ⟨o,_,_,e',_⟩:=O'.ns;⟨o,e'⟩
 refine I.write (x:=a) (e:=dx) (by rw[e];exact True.intro) (.inr ho) (fun b q hb z=>(sb.2 b hb).trans z) hd ?_;refine⟨by rw[ai U0.ne];exact ho,?_,U0.ne,O'.obj,_,O'.ns,fun g=>?_,fun g hg=>?_⟩
 ·have:=DM f y fs;omega
 ·show dM ((br f y fs).lookup g) (if g=f then some u else mA g)
  rw[FD];by_cases q:g=f
  ·rw[if_pos q,if_pos q];exact ry
  ·rw[if_neg q,if_neg q];exact r g
 ·by_cases q:g=f
  ·rw[q];exact(Ac f y fs).1
  ·refine(Ac f y fs).2 g (wi g fun z=>hg ?_)
   show(if g=f then some u else mA g)=none;rw[if_neg q];exact z
theorem Inv.made (I:Inv X aa σ H s):Inv X aa σ (upd (upd H s.heap.objs.size (.own (s.heap.objs.size + 1))) (s.heap.objs.size + 1) (.ins C s.heap.objs.size []))
  { s with heap:=(s.heap.push PySem.W.emptyDict).push (PySem.W.instObj C s.heap.objs.size) }:=by
 have e1:(s.heap.push PySem.W.emptyDict).get? s.heap.objs.size=some PySem.W.emptyDict:=Q1 s.heap rfl;have e2:((s.heap.push PySem.W.emptyDict).push (PySem.W.instObj C s.heap.objs.size)).get? (s.heap.objs.size + 1)=some (PySem.W.instObj C s.heap.objs.size):=by
  have:=Q1 (s.heap.push PySem.W.emptyDict) (o:=PySem.W.instObj C s.heap.objs.size) rfl
  rwa [Rr] at this
 have e3:(s.heap.push PySem.W.emptyDict).Ns s.heap.objs.size (fun _=>none):=⟨PySem.W.emptyDict,#[],_,e1,O,(fun e he=>absurd he (by simp)),fun _=>O⟩;have I1:=I.laid (a:=s.heap.objs.size) (o:=.own (s.heap.objs.size + 1)) (h':=s.heap.push PySem.W.emptyDict) (t':=s.toks) (fun b u q=>QU _ q) (QY _) ⟨_,e1⟩;refine I1.laid (a:=s.heap.objs.size + 1) (o:=.ins C s.heap.objs.size []) (t':=s.toks) (fun b u q=>QU _ q) (S0 (Rr _ _)) ?_;have ne:s.heap.objs.size≠s.heap.objs.size + 1:=Q5 (RW _);refine⟨by rw[ai ne,ah],R9 _,ne,e2,fun _=>none,(Uv e3).at fun o q=>QU _ q,fun _=>True.intro,fun y hy=>absurd O hy⟩
theorem LU {pos:Pos} (hb:attributeBase e f env (eval e env)=eval e env)
  (h:wpAny (model prog w) A (eval e env) (fun o s₁=>wpAny (model prog w) A (getAttr o f true) Q E s₁) E s):wpAny (model prog w) A (eval (.Attribute e f pos) env) Q E s:=
 Attribute_any_ h (by rw[arm_eval_Attribute,hb])
end
def tFld (K:PySem.W.Frag) (ta:TE) (f:Str):TE:=fun σ H Q=>ta σ H fun x H1=>∃ a C dx fs v,x=.ref a/\H1 a=some (.ins C dx fs)/\Cls K C/\zbL K C f/\fs.lookup f=some v/\Q v H1
def sFld (K:PySem.W.Frag) (ta tv:TE) (f:Str):TS:=fun D σ H=>tv σ H fun y H1=>ta σ H1 fun x H2=>∃ a C dx fs,x=.ref a/\H2 a=some (.ins C dx fs)/\Cls K C/\zbL K C f/\fs.length<1000 /\
 D.nx σ (upd H2 a (.ins C dx (br f y fs)))
section
variable {o value:Expr}{pos:Pos}{ta tv:TE}
theorem bG (he:PE X e ta) (hb:attributeBase e f X.env (eval e X.env)=eval e X.env):PE X (.Attribute e f pos) (tFld X.K ta f):=by
 intro aa s σ H Q I h;refine LU hb (thn (he aa s σ H _ I h) fun u s1=>L2.ex5 fun x H1 I1 rx a8=>?_);obtain⟨a,C,dx,fs,v,ex,ea,c,n,l,q⟩:=a8;subst ex;obtain rfl:u=Value.ref a:=rx;exact Og I1 ea c n l fun u' s2 I2 ru=>⟨v,H1,I2,ru,q⟩
theorem jO (ha:PE X o ta) (hv:PE X value tv) (hs:swapsWith value (some (.Attribute o f aU)) pos.line X.env=pure false):PS X (.Assign [.Attribute o f aU] value pos) (sFld X.K ta tv f):=by
 intro aa s σ H D I h;refine plainObj_wpAny_Assign_Attribute (thn (hv aa s σ H _ I h) fun u s1=>L2.ex5 fun y H1 I1 ry q=>thn (ha aa s1 σ H1 _ I1 q) fun ov s2=>L2.ex5 fun x H2 I2 rx a8=>?_) hs;obtain⟨a,C,dx,fs,ex,ea,c,n,l,q2⟩:=a8;subst ex;obtain rfl:ov=Value.ref a:=rx;exact LQ I2 ea c n l ry fun s3 I3=>⟨σ,_,I3,q2⟩
end
section
variable {c:Value}
inductive ii (K:PySem.W.Frag) (H:Hp):V->Value->Prop where
 | non:ii K H .non (.type "NoneType")
 | bl (x:Bool):ii K H (.bl x) (.type "bool")
 | int (i:Int):ii K H (.int i) (.type "int")
 | str (x:Str):ii K H (.str x) (.type "str")
 | flt (x:UInt64):ii K H (.flt x) (.type "float")
 | lst {a:Addr}{xs:List V} (e:H a=some (.lst xs)):ii K H (.ref a) (.type "list")
 | frz {a:Addr}{o:Obj}{xs:List V} (e:H a=some (.frz o (.lst xs))):ii K H (.ref a) (.type "list")
 | tup {a:Addr}{xs:List V} (e:H a=some (.tup xs)):ii K H (.ref a) (.type "tuple")
 | dK {a:Addr}{kvs:List (Key×V)} (e:H a=some (.dK kvs)):ii K H (.ref a) (.type "dict")
 | dT {a:Addr}{kvs:List (List Key×V)} (e:H a=some (.dT kvs)):ii K H (.ref a) (.type "dict")
 | ins {a C dx:Addr}{fs:List (Str×V)} (e:H a=some (.ins C dx fs)) (cl:Cls K C) (ha:PySem.W.findIn K (.ref C) "__class__"=some (some (.builtin "object.__class__")))
   (hn:PySem.W.specialIn K (.builtin "object.__class__") "__get__"=some (some (.builtin "getset_descriptor.__get__"))) (htk:PySem.W.takesIn K (.builtin "object.__class__")=some true)
   (hm:PySem.W.mroIn K C (.type "object")=some true):ii K H (.ref a) (.ref C)
theorem ME {t:Value} (I:Inv X aa σ H s) (rx:av x u) (ty:ii X.K H x t) (e:PySem.W.kitOne X.K t c=some b) (h:∀ tk,Q (.bool b) { s with toks:=tk }) :
  wpAny (model X.prog X.w) A (call (.builtin "isinstance") [u,c]) Q E s:=by
 cases ty with
 | non=>cases (show u=Value.none from rx);exact PySem.W.kia_one PySem.W.kitx_none I.kIn True.intro e (fun z=>nomatch z) h
 | bl y=>cases (show u=Value.bool y from rx);exact PySem.W.kia_one PySem.W.kitx_bool I.kIn True.intro e (fun z=>nomatch z) h
 | int i=>obtain⟨t,q⟩:=(show ∃ t,u=Value.int i t from rx);cases q;exact PySem.W.kia_one PySem.W.kitx_int I.kIn True.intro e (fun z=>nomatch z) h
 | str y=>obtain⟨t,q⟩:=(show ∃ t,u=Value.str y t from rx);cases q;exact PySem.W.kia_one PySem.W.kitx_str I.kIn True.intro e (fun z=>nomatch z) h
 | flt y=>obtain⟨t,q⟩:=(show ∃ t,u=Value.float y t from rx);cases q;exact PySem.W.kia_one PySem.W.kitx_float I.kIn True.intro e (fun z=>nomatch z) h
 | @lst a xs ea=>
  cases (show u=Value.ref a from rx)
  obtain⟨_,_,n,_,h1⟩:=(show cu X.prog X.w H s.heap a (.lst xs) from I.hok a _ ea);exact PySem.W.kia_one PySem.W.kitx_list I.kIn ⟨_,h1,O⟩ e (fun z=>nomatch z) h
 | @frz a ob xs ea=>
  cases (show u=Value.ref a from rx)
  obtain⟨_,_,_,n,_,h1⟩:=(show cu X.prog X.w H s.heap a (.frz ob (.lst xs)) from I.hok a _ ea);exact PySem.W.kia_one PySem.W.kitx_list I.kIn ⟨_,h1,O⟩ e (fun z=>nomatch z) h
 | @tup a xs ea=>
  cases (show u=Value.ref a from rx)
  obtain⟨_,_,_,p⟩:=(show cu X.prog X.w H s.heap a (.tup xs) from I.hok a _ ea);obtain⟨o,h1,h2,_⟩:=p;exact PySem.W.kia_one PySem.W.kitx_tuple I.kIn ⟨o,h1,h2⟩ e (fun z=>nomatch z) h
 | @dK a kvs ea=>
  cases (show u=Value.ref a from rx)
  obtain⟨_,_,vs,_,p⟩:=(show cu X.prog X.w H s.heap a (.dK kvs) from I.hok a _ ea);obtain⟨o,es,ep,h1,h2,_⟩:=p;exact PySem.W.kia_one PySem.W.kitx_dict I.kIn ⟨o,h1,h2.1⟩ e (fun z=>nomatch z) h
 | @dT a kvs ea=>
  cases (show u=Value.ref a from rx)
  obtain⟨_,_,xs,_,o,es,ep,h1,h2,_⟩:=(show cu X.prog X.w H s.heap a (.dT kvs) from I.hok a _ ea);exact PySem.W.kia_one PySem.W.kitx_dict I.kIn ⟨o,h1,h2.1⟩ e (fun z=>nomatch z) h
 | @ins a C dx fs ea cl ha hn htk hm=>
  cases (show u=Value.ref a from rx)
  obtain⟨mA,U0,_⟩:=wy I.hok ea;obtain⟨od,J,_⟩:=U0.look;exact PySem.W.kia_one (PySem.W.kitx_own (cl.get _) cl.hd ha hn htk hm) I.kIn J e (fun z=>nomatch z) h
end
structure bj (k:Nat) (A:Around):Prop where
 dp:A.depth + 3 * k + 5<recursionLimit
 un:A.units + 16 * k + 200<cLine
theorem bj.mono {j k:Nat} (r:bj k A) (h:j<=k):bj j A:=⟨by have:=r.dp;omega,by have:=r.un;omega⟩
theorem bj.deeper {k:Nat}{A:Around} (r:bj (k + 1) A) (env:Env):bj k (A.deeper env):=
 ⟨by have:=r.dp;show A.depth + 1 + 3 * k + 5<_;omega,by have:=r.un;show A.units + 3 + 16 * k + 200<_;omega⟩
theorem bj.in1 {k:Nat}{A:Around} (r:bj (k + 1) A):bj k A.in1:=
 ⟨by have:=r.dp;show A.depth + 3 * k + 5<_;omega,by have:=r.un;show A.units + 1 + 16 * k + 200<_;omega⟩
theorem N5:(A.under (.builtin "type.__call__" ⟨.ref C::us,kw⟩)).depth=A.depth + 1:=by
 first|rfl|simp[Around.under,Code.weight,Code.isCreation,Code.isGuard,Code.isCaller,Code.frames,Code.isFrame,guardIds]
theorem NA:(A.under (.builtin "type.__call__" ⟨.ref C::us,kw⟩)).units=A.units + 1:=by
 first|rfl|simp[Around.under,Code.cUnits,Code.frames,Code.isFrame]
theorem bj.make {k:Nat} (r:bj (k + 1) A) (C:Addr) (us:List Value) (kw:List (Str×Value)):bj k (A.under (.builtin "type.__call__" ⟨.ref C::us,kw⟩)):=
 ⟨by have:=r.dp;rw[N5];omega,by have:=r.un;rw[NA];omega⟩
theorem bj.depth {k:Nat}{A:Around} (r:bj k A):A.depth<recursionLimit:=by have:=r.dp;omega
theorem bj.units {k:Nat}{A:Around} (r:bj k A):A.units + 64<cLine:=by have:=r.un;omega
def tNil:TA:=fun _ H Q=>Q [] H
def tCons (ta:TE) (tr:TA):TA:=fun σ H Q=>ta σ H fun x H1=>tr σ H1 fun xs H2=>Q (x::xs) H2
section
variable {t:TA}{pos:Pos}
theorem ak:PA X [] tNil:=fun _ _ _ _ H Q I h=>Calls.spliced_nil ⟨[],H,I,.nil,h⟩
theorem af (ha:PE X e te) (hr:PA X es t) (hs:starEach (e::es) X.env=(false,eval e X.env)::starEach es X.env:=by rfl):PA X (e::es) (tCons te t):=by
 intro pos aa s σ H Q I h;rw[hs];show wpAny _ _ (spliced ((false,eval e X.env)::backTo pos (starEach es X.env))) _ _ s;refine Calls.spliced_cons (thn (ha aa s σ H _ I h) fun u s1=>L2.ex5 fun x H1 I1 r1 q1=>?_);exact thn (hr pos aa s1 σ H1 _ I1 q1) fun us s2 ⟨xs,H2,I2,r2,q2⟩=>⟨x::xs,H2,I2,.cons r1 r2,q2⟩
def tTup (t:TA):TE:=fun σ H Q=>t σ H fun xs H1=>xs.length<=sizeLine/\∀ p,H1 p=none->Q (.ref p) (upd H1 p (.tup xs))
def tLst (t:TA):TE:=fun σ H Q=>t σ H fun xs H1=>xs.length<=sizeLine/\∀ p,H1 p=none->Q (.ref p) (upd H1 p (.lst xs))
theorem gG {x1} (h:PA X es t):PE X (.Tuple es x1 pos) (tTup t):=by
 intro aa s σ H Q I hq;refine wpAny_Tuple_spliced (thn (h pos aa s σ H _ I hq) fun us s1 ⟨xs,H1,I1,r,z,q⟩=>⟨by rw[<- r.length];exact z,?_⟩);have hf:H1 s1.heap.objs.size=none:=I1.hok.fresh (QY _);refine⟨.ref s1.heap.objs.size,upd H1 s1.heap.objs.size (.tup xs),I1.laid (t':=s1.toks) (fun b u e=>QU _ e) (QY _) ?_,O,q _ hf⟩;exact⟨z,us,r,⟨_,Q1 _ O,O,_,O⟩⟩
theorem dJ (h:PA X es t):PE X (.List es pos) (tLst t):=by
 intro aa s σ H Q I hq;refine wpAny_List_spliced (thn (h pos aa s σ H _ I hq) fun us s1 ⟨xs,H1,I1,r,z,q⟩=>⟨by rw[<- r.length];exact z,?_⟩);have hf:H1 s1.heap.objs.size=none:=I1.hok.fresh (QY _);refine⟨.ref s1.heap.objs.size,upd H1 s1.heap.objs.size (.lst xs),I1.laid (t':=s1.toks) (fun b u e=>QU _ e) (QY _) ?_,O,q _ hf⟩;exact⟨z,us,0,r,Q1 _ O⟩
end
abbrev Sp:=List V->Hp->VK->XK->Prop
abbrev CXT:=List Env->Hp->Shared->XK->Value->Shared->Prop
structure oN (P:Program) (w:World) (K:PySem.W.Frag) (mg:Str->Option Value) (base:Heap) (A:Around) (outer:List Env) (s:Shared) (H:Hp):Prop where
 frames:A.frames=some outer
 mod:Mod K mg base
 bs:∀ b o,base.get? b=some o->s.heap.get? b=some o/\H b=none
 bsz:base.objs.size<=s.heap.objs.size
 funs:s.heap.FunFrames base outer
 frf:∀ b∈frs outer,H b=none
 hok:HOk P w H s.heap
 bare:AllBare s.gens
 hd:iK A H
def CE (outer:List Env) (P:Program) (w:World) (H:Hp) (s:Shared) (Q:VK) (u:Value) (s':Shared):Prop:=
 ∃ v H',s'.os=s.os/\AllBare s'.gens/\Un (frs outer) [] H H' s.heap s'.heap/\HOk P w H' s'.heap/\av v u/\Q v H'
def CR (CX:CXT) (outer:List Env) (P:Program) (w:World) (H:Hp) (s:Shared) (Q:VK) (E:XK) (r:Result) (s':Shared):Prop:=
 match r with
 | .ok (.ret u)=>CE outer P w H s Q u s'
 | .ok _=>False
 | .error e=>CX outer H s E e s'
variable {CX:CXT}{E:XK}{Q:VK}{base:Heap}{f:Addr}{fd:FuncData}{mg:Str->Option Value}{outer:List Env}{ps:List Str}{qual x:Str}{scope:Scope}{sp:Sp}{t:TA}{ta:TE}{vs:List V}
structure cM (P:Program) (w:World) (K:PySem.W.Frag) (mg:Str->Option Value) (base:Heap) (CX:CXT) (k:Nat) (f:Addr) (fd:FuncData) (ps:List Str) (sp:Sp):Prop where
 len:∀ vs H Q E,sp vs H Q E->vs.length=ps.length
 run:∀ (A:Around) (outer:List Env) (s:Shared) (H:Hp) (args:Args) (us:List Value) (vs:List V) (Q:VK) (E:XK),bj k A->oN P w K mg base A outer s H->BindsTo s fd args (ps.zip us)->aw vs us->sp vs H Q E ->
  codeAny (model P w) A (.call (.ref f) args) (CR CX outer P w H s Q E) s
theorem oN.make {K:PySem.W.Frag} (e:oN P w K mg base A outer s H) (C:Addr) (us:List Value) (kw:List (Str×Value)) :
  oN P w K mg base (A.under (.builtin "type.__call__" ⟨.ref C::us,kw⟩)) outer s H:=⟨by first|exact e.frames|(simpa [Around.under,Code.envs,Code.isFrame,pushEnvs] using e.frames),e.mod,e.bs,e.bsz,e.funs,e.frf,e.hok,e.bare,e.hd⟩
theorem Inv.env0 (I:Inv X aa σ H s):oN X.prog X.w X.K X.mg X.base X.A X.stack s H:=
 ⟨I.ok.frames,I.ok.mod,I.bs,Rz I.ok.bsz I.sz,I.stack,I.stkFree,I.hok,I.bare,I.hdAt⟩
theorem Inv.after  (I:Inv X aa σ H s) (h:CE X.stack X.prog X.w H s Q u s'):EP X aa σ Q u s':=by
 obtain⟨v,H',os,bare,un,hok,r,q⟩:=h;obtain⟨hh,g,d,t,uA⟩:=s';obtain rfl:uA=s.os:=os;exact⟨v,H',I.call (h':=hh) (g':=g) (d':=d) (t':=t) (ch:=[]) un hok bare (fun b z=>absurd z (by simp)),r,q⟩
def tCall (sp:Sp) (aP:List V) (E:XK) (t:TA):TE:=fun σ H Q=>t σ H fun vs H1=>sp (vs++aP) H1 Q E
def tMeth (C:Addr) (m:Str) (sp:Sp) (aP:List V) (E:XK) (ta:TE) (t:TA):TE:=fun σ H Q=>ta σ H fun x H1=>∃ a dx fs,x=.ref a/\H1 a=some (.ins C dx fs)/\fs.lookup m=none /\
 t σ H1 fun vs H2=>sp (x::(vs++aP)) H2 Q E
def tMake (C:Addr) (sp:Sp) (aP:List V) (E:XK) (t:TA):TE:=fun σ H Q=>t σ H fun vs H1=>∀ x dx,H1 x=none->H1 dx=none->dx≠x ->
 sp (.ref x::(vs++aP)) (upd (upd H1 dx (.own x)) x (.ins C dx [])) (fun v H2=>v=.non/\Q (.ref x) H2) E
def fz (K:PySem.W.Frag) (fd:FuncData) (ps:List Str) (ds:List Value):Prop:=
 ∀ (s:Shared) (us:List Value),K.In s.heap->(us++ds).length=ps.length->BindsTo s fd ⟨us,[]⟩ (ps.zip (us++ds))
theorem fz.all {K:PySem.W.Frag} (h:∀ us:List Value,us.length=ps.length->bindArgs fd ⟨us,[]⟩=pure (ps.zip us)):fz K fd ps []:=fun s us _ hl=>by
 rw[So] at hl ⊢;exact .of_eq (h us hl)
def o0 (CX:CXT) (X:Cx) (E:XK):Prop:=∀ (aa:List (Addr×Obj)) (σ:St) (H:Hp) (s:Shared) (e:Value) (s':Shared),Inv X aa σ H s->CX X.stack H s E e s'->X.xe e s'
section
variable {k:Nat}{aP:List V}{ds:List Value}{p pos aX:Pos}{o:Expr}
theorem Eu  (F:cM X.prog X.w X.K X.mg X.base CX k f fd ps sp) (hr:bj k X.A) (hb:fz X.K fd ps ds) (hd:aw aP ds) (hx:o0 CX X E)
  (I:Inv X aa σ H s) (r:aw vs us) (h:sp (vs++aP) H Q E):wpAny (model X.prog X.w) X.A (call (.ref f) us) (EP X aa σ Q) X.xe s:=by
 have r2:aw (vs++aP) (us++ds):=r.append hd;have hl:(us++ds).length=ps.length:=by rw[<- r2.length];exact F.len _ _ _ _ h
 refine SJ (codeAny_mono (F.run X.A X.stack s H ⟨us,[]⟩ (us++ds) (vs++aP) Q E hr I.env0 (hb s us I.kIn hl) r2 h) fun r s' hq=>?_);cases r with
 | error e=>exact hx aa σ H s e s' I hq
 | ok fl=>
  cases fl with
  | ret u=>exact I.after hq
  | next=>exact False.elim hq
  | brk=>exact False.elim hq
  | cont=>exact False.elim hq
theorem NM (F:cM X.prog X.w X.K X.mg X.base CX k f fd ps sp) (hr:bj k X.A) (hg:Gl X x) (hm:X.mg x=some (.ref f)) (hk:PySem.W.keepIn X.K (.ref f)=true) (hb:fz X.K fd ps ds) (hd:aw aP ds) (hx:o0 CX X E)
  (ha:PA X (e::es) t) (dk:(x == ("__debug__":Str))=false:=by decide) (he:starEach (e::es) X.env=(false,eval e X.env)::starEach es X.env:=by rfl) (bU:(backTo pos (starEach es X.env)).any (·.1)=false:=by rfl) :
  PE X (.Call (.Name x p) (e::es) [] pos) (tCall sp aP E t):=by
 intro aa s σ H Q I h;refine RP (qf I hg hm ?_ dk);refine PySem.W.callWith_K (h₀:=X.base) I.ok.mod.kin hk (thn (ha pos aa s σ H _ I h) fun us s1=>L2.ex5 fun vs H1 I1 r q=>⟨I1.kIn,?_⟩) he bU;exact Eu F hr hb hd hx I1 r q
theorem ND  (he:PE X o ta) (c:Cls X.K C) (hm:Meth X.K C m f) (F:cM X.prog X.w X.K X.mg X.base CX k f fd ps sp) (hr:bj k X.A) (hb:fz X.K fd ps ds) (hd:aw aP ds) (hx:o0 CX X E) (ha:PA X (e::es) t)
  (cO:starEach (e::es) X.env=(false,eval e X.env)::starEach es X.env:=by rfl) (bU:(backTo pos (starEach es X.env)).any (·.1)=false:=by rfl)
  (ht:eval (.Call (.Attribute o m aX) (e::es) [] pos) X.env=(do
   let ov <- eval o X.env
   standAt aX.atName
   let (f,first) <- holding [ov] (getMethod ov m pl)
   callWith pos f first (backTo pos (starEach (e::es) X.env)) (backToKw pos (keywordEach [] X.env))):=by rfl) :
  PE X (.Call (.Attribute o m aX) (e::es) [] pos) (tMeth C m sp aP E ta t):=by
 intro aa s σ H Q I h;refine PySem.W.methodCall_KW (pl:=pl) (thn (he aa s σ H _ I h) fun u s1=>L2.ex5 fun x H1 I1 rx a8=>?_) ht;obtain⟨a,dx,fs,ex,ea,l,q⟩:=a8;subst ex;obtain rfl:u=Value.ref a:=rx;refine Pw I1 ea c hm l ?_;refine PySem.W.callWith_K (first:=[.ref a]) (h₀:=X.base) I.ok.mod.kin hm.kp (thn (ha pos aa s1 σ H1 _ I1 q) fun us s2=>L2.ex5 fun vs H2 I2 r q2=>⟨I2.kIn,?_⟩) cO bU;exact Eu (us:=.ref a::us) (vs:=.ref a::vs) F hr hb hd hx I2 (.cons O r) q2
structure Mk (K:PySem.W.Frag) (C f:Addr):Prop where
 makes:PySem.W.makesIn K C=true
 init:PySem.W.findIn K (.ref C) "__init__"=some (some (.ref f))
 fn:PySem.W.isFn K (.ref f)=true
 kp:PySem.W.keepIn K (.ref C)=true
theorem LJ  (M:Mk X.K C f) (F:cM X.prog X.w X.K X.mg X.base CX k f fd ps sp) (hr:bj (k + 1) X.A) (hb:fz X.K fd ps ds) (hd:aw aP ds)
  (hx:o0 CX X E) (I:Inv X aa σ H s) (r:aw vs us)
  (h:∀ x dx,H x=none->H dx=none->dx≠x->sp (.ref x::(vs++aP)) (upd (upd H dx (.own x)) x (.ins C dx [])) (fun v H2=>v=.non/\Q (.ref x) H2) E) :
  wpAny (model X.prog X.w) X.A (call (.ref C) us) (EP X aa σ Q) X.xe s:=by
 have hq:=h (s.heap.objs.size + 1) s.heap.objs.size (I.hok.fresh (RO _)) (I.hok.fresh (QY _)) (Q5 (RW _));have I2:=Inv.made (C:=C) I;have r2:aw (V.ref (s.heap.objs.size + 1)::(vs++aP)) (Value.ref (s.heap.objs.size + 1)::(us++ds)):=.cons O (r.append hd);have hl:(Value.ref (s.heap.objs.size + 1)::us++ds).length=ps.length:=by
  have e:=r2.length;rw[F.len _ _ _ _ hq] at e;exact e.symm
 refine SJ (Nx (f:=f) I.kIn M.makes M.init (beq_iff_eq.mp M.fn) (codeAny_mono (F.run _ X.stack _ _ ⟨Value.ref (s.heap.objs.size + 1)::us,[]⟩ (Value.ref (s.heap.objs.size + 1)::(us++ds)) _ _ E (hr.make C us [])
  (I2.env0.make C us []) (hb _ (Value.ref (s.heap.objs.size + 1)::us) I2.kIn hl) r2 hq) fun r s' gY=>?_))
 cases r with
 | error e=>exact hx aa σ _ _ e s' I2 gY
 | ok fl=>
  cases fl with
  | ret u=>
   obtain⟨v,H',I3,rv,ev,q3⟩:=I2.after gY;subst ev;exact⟨rv,⟨V.ref (s.heap.objs.size + 1),H',I3,O,q3⟩⟩
  | next=>exact False.elim gY
  | brk=>exact False.elim gY
  | cont=>exact False.elim gY
theorem NR (M:Mk X.K C f) (F:cM X.prog X.w X.K X.mg X.base CX k f fd ps sp) (hr:bj (k + 1) X.A) (hg:Gl X x) (hm:X.mg x=some (.ref C)) (hb:fz X.K fd ps ds) (hd:aw aP ds) (hx:o0 CX X E)
  (ha:PA X (e::es) t) (dk:(x == ("__debug__":Str))=false:=by decide) (he:starEach (e::es) X.env=(false,eval e X.env)::starEach es X.env:=by rfl) (bU:(backTo pos (starEach es X.env)).any (·.1)=false:=by rfl) :
  PE X (.Call (.Name x p) (e::es) [] pos) (tMake C sp aP E t):=by
 intro aa s σ H Q I h;refine RP (qf I hg hm ?_ dk);refine PySem.W.callWith_K (h₀:=X.base) I.ok.mod.kin M.kp (thn (ha pos aa s σ H _ I h) fun us s1=>L2.ex5 fun vs H1 I1 r q=>⟨I1.kIn,?_⟩) he bU;exact LJ M F hr hb hd hx I1 r q
end
section
variable {k:Nat}{ks:List Str}{p pos aX bE:Pos}{o:Expr}{mO:List Keyword}{tk:TA}{nm:Option Str}
structure KBinds (K:PySem.W.Frag) (fd:FuncData) (ps ks:List Str) (g:List Value->List Value->List Value) (gV:List V->List V->List V):Prop where
 to:∀ (s:Shared) (us ws:List Value),K.In s.heap->(g us ws).length=ps.length->BindsTo s fd ⟨us,ks.zip ws⟩ (ps.zip (g us ws))
 rel:∀ {vs:List V}{us:List Value}{zs:List V}{ws:List Value},aw vs us->aw zs ws->aw (gV vs zs) (g us ws)
variable {g:List Value->List Value->List Value}{gV:List V->List V->List V}
end
structure aZ (N P:List Str) (sc:Scope):Prop where
 kind:sc.kind=.function
 co:sc.isCoroutine=false
 gen:sc.isGenerator=false
 nd:N.Nodup
 pre:N.take P.length=P
 par:∀ x∈P,sc.names.lookup x=some .local\/sc.names.lookup x=some .cell
 nofree:∀ y∈sc.names,y.2≠.free
theorem Gz {kindOf:Str->Option NameKind}{x:Str}:∀ {eR:List (Str×Value)}{m:Str->Option Value},(∀ v,(x,v)∉eR)->bindL kindOf eR m x=m x
 | [],_,_=>rfl
 | (n,v)::r,m,h=>by
  unfold bindL;rw[Gz fun w hw=>h w (Q6 _ hw)];split
  ·have:x≠n:=by rintro rfl;exact h v Q9
   simp[this]
  ·rfl
theorem FY {kindOf:Str->Option NameKind}{x:Str}:∀ {eR:List (Str×Value)}{m:Str->Option Value},(∀ v,(x,v)∉eR)->bindC kindOf eR m x=m x
 | [],_,_=>rfl
 | (n,v)::r,m,h=>by
  unfold bindC;rw[FY fun w hw=>h w (Q6 _ hw)];split
  ·rfl
  ·have:x≠n:=by rintro rfl;exact h v Q9
   simp[this]
theorem Ev {kindOf:Str->Option NameKind}{x:Str}{v:Value}:∀ {P:List Str}{vs:List Value}{i:Nat}{m:Str->Option Value},P.Nodup->P[i]?=some x->vs[i]?=some v->kindOf x=some .local ->
  bindL kindOf (P.zip vs) m x=some v
 | [],_,_,_,_,h,_,_=>by simp at h
 | _::_,[],_,_,_,_,h,_=>by simp at h
 | p::P,w::vs,0,m,nd,h1,h2,hk=>by
  simp at h1 h2;subst h1;subst h2
  show bindL kindOf ((p,w)::P.zip vs) m p=_;unfold bindL;rw[Gz fun v hv=>(SX.mp nd).1 (SU hv).1,if_pos hk];simp
 | p::P,w::vs,i + 1,m,nd,h1,h2,hk=>by
  show bindL kindOf ((p,w)::P.zip vs) m x=_;unfold bindL;exact Ev (i:=i) (SX.mp nd).2 (by simpa using h1) (by simpa using h2) hk
theorem GH {kindOf:Str->Option NameKind}{x:Str}{v:Value}:∀ {P:List Str}{vs:List Value}{i:Nat}{m:Str->Option Value},P.Nodup->P[i]?=some x->vs[i]?=some v->kindOf x≠some .local ->
  bindC kindOf (P.zip vs) m x=some v
 | [],_,_,_,_,h,_,_=>by simp at h
 | _::_,[],_,_,_,_,h,_=>by simp at h
 | p::P,w::vs,0,m,nd,h1,h2,hk=>by
  simp at h1 h2;subst h1;subst h2
  show bindC kindOf ((p,w)::P.zip vs) m p=_;unfold bindC;rw[FY fun v hv=>(SX.mp nd).1 (SU hv).1,if_neg hk];simp
 | p::P,w::vs,i + 1,m,nd,h1,h2,hk=>by
  show bindC kindOf ((p,w)::P.zip vs) m x=_;unfold bindC;exact GH (i:=i) (SX.mp nd).2 (by simpa using h1) (by simpa using h2) hk
def start (N:List Str) (vs:List V):St:=vs.map some++List.replicate (N.length - vs.length) none
def jn (CX:CXT) (P:Program) (w:World) (K:PySem.W.Frag) (mg:Str->Option Value) (base:Heap) (N:List Str) (qual:Str) (scope:Scope) (f:Addr) (cd:Value) (A:Around) (outer:List Env) (s:Shared) (H:Hp) (E:XK):Cx where
 prog:=P
 w:=w
 K:=K
 mg:=mg
 base:=base
 A:=A.deeper (envOfC qual scope s.heap.objs.size f cd)
 N:=N
 s₀:=s
 H₀:=H
 env:=envOfC qual scope s.heap.objs.size f cd
 outer:=outer
 stack:=envOfC qual scope s.heap.objs.size f cd::outer
 ex:=[]
 calm:=true
 fn:=fun _=>true
 pn:=[]
 xe:=fun e s'=>wpAny (model P w) (A.deeper (envOfC qual scope s.heap.objs.size f cd)) (leaving (envOfC qual scope s.heap.objs.size f cd) e) (fun _ zt=>CX outer H s E e zt) (fun e' zt=>CX outer H s E e' zt) s'
theorem Fa {sc:Scope} (h:sc.names.lookup x=some .cell):∃ c,(cellsFrom n sc.names []).lookup x=some c:=by
 have q:=PySem.W.cellsFrom_some sc.names n [] (.inl h);exact Option.isSome_iff_exists.mp q
theorem Px {K:PySem.W.Frag}{cd:Value}{s1:Shared}
  (S:aZ N ps scope) (e0:oN P w K mg base A outer s H) (hl:vs.length=ps.length) (r:aw vs us)
  (x:InCallC s s.heap.objs.size (bindL (envOfC qual scope s.heap.objs.size f cd).kindOf (ps.zip us) fun _=>none) (cellsFrom (s.heap.objs.size + 1) scope.names []) (bindC (envOfC qual scope s.heap.objs.size f cd).kindOf (ps.zip us) fun _=>none) s1) :
  Inv (jn CX P w K mg base N qual scope f cd A outer s H E) [] (start N vs) H s1:=by
 have bU:ps.length<=N.length:=by have:=congrArg List.length S.pre;rw[Rb] at this;omega
 obtain⟨h1,tk,rfl,hk⟩:=x.done;have nO:∀ b:Addr,b∉(jn CX P w K mg base N qual scope f cd A outer s H E).ex:=fun b z=>absurd (show b∈([]:List Addr) from z) (by simp)
 refine⟨⟨e0.mod,S.kind,O,O,QY _,fun y z c h1 h2=>?_,fun y hy=>?_,fun y c _ h=>?_,e0.hd,Around.frames_deeper e0.frames,.inr ⟨O,O⟩,fun b z=>absurd z (nO b),e0.bs,e0.bsz,fun b _ _=>nO b,fun b z=>absurd z (nO b),e0.funs,e0.frf⟩,
  rfl,e0.bare,Un.kept hk,⟨_,x.toInCall.ns,fun i y v h1 h2 h3=>?_⟩,fun y c h=>⟨_,x.cell y c h⟩,e0.hok.fresh (QY _),fun y c h=>?_,fun p hp=>absurd (show p∈([]:List (Addr×Obj)) from hp) (by simp),e0.hok.kept hk,?_⟩
 ·exact name_of_addr x.apart (PySem.mem_of_lookup h1) (PySem.mem_of_lookup h2)
 ·have hy:scope.names.lookup y=some .cell\/scope.names.lookup y=some .free:=hy
  rcases hy with hy|hy
  ·exact Fa hy
  ·exact absurd O (S.nofree _ (PySem.mem_of_lookup hy))
 ·exact RS (x.above y c (PySem.mem_of_lookup h))
 ·have hi:i<vs.length:=by
   unfold start at h2;by_cases hi:i<vs.length
   ·exact hi
   ·rw[SC (by simpa using hi)] at h2
    rw[TX] at h2;split at h2 <;> cases h2
  have ha:vs[i]?=some v:=by
   unfold start at h2;rw[SV (by simpa using hi),Q4] at h2;cases e:vs[i]? with
   | none=>rw[e] at h2;cases h2
   | some a=>rw[e] at h2;cases h2;rfl
  obtain⟨u,hu,rv⟩:=r.get ha;have hp:ps[i]?=some y:=by
   rw[<- S.pre,List.getElem?_take_of_lt (by omega)];exact h1
  have Db:ps.Nodup:=by rw[<- S.pre];exact S.nd.sublist (Uw _ _)
  refine⟨u,rv,?_⟩;rcases S.par y (Q0 hp) with k|k
  ·exact .inl ⟨k,Ev Db hp hu k⟩
  ·obtain⟨c,e⟩:=Fa (n:=s.heap.objs.size + 1) k
   refine .inr ⟨.inl k,c,e,?_⟩;have q:=x.cell y c e;rw[GH Db hp hu (by show scope.names.lookup y≠_;rw[k];decide)] at q;exact q
 ·exact e0.hok.fresh (RS (x.above y c (PySem.mem_of_lookup h)))
 ·unfold start
  show _=N.length;rw[Rm,QT,Rs];omega
theorem A8 {K:PySem.W.Frag}{k:Nat}{params:Arguments}{dV kV bL pm aA ct oc:Value}{an od:Option Addr}
  {dI:Array (Option Value)} (lk:K.lookup f=some ⟨oc,od,.func (PySem.W.fnOf name qual params body scope dV kV bL pm an aA ct),dI⟩) (eS:PySem.W.codeIn K aA qual=true) (S:aZ N ps scope)
  (len:∀ vs H Q E,sp vs H Q E->vs.length=ps.length)
  (cT:∀ (A:Around) (outer:List Env) (s:Shared) (H:Hp) (vs:List V) (Q:VK) (E:XK),bj k (A.deeper (envOfC qual scope s.heap.objs.size f aA))->sp vs H Q E ->
   ∃ t,PSs (jn CX P w K mg base N qual scope f aA A outer s H E) body t/\t { nx:=fun _ H'=>Q .non H',rt:=Q } (start N vs) H) :
  cM P w K mg base CX (k + 1) f (PySem.W.fnOf name qual params body scope dV kV bL pm an aA ct) ps sp:=by
 refine⟨len,fun A outer s H args us vs Q E hr e0 hb r iC=>?_⟩;have hl:=len _ _ _ _ iC;have KX:K.In s.heap:=e0.mod.kin.keeps fun b o e=>(e0.bs b o e).1
 have wE:s.heap.NoLimit:=e0.mod.nolimit.keeps fun b o e=>(e0.bs b o e).1
 have a9:∀ y∈ps.zip us,scope.names.lookup y.1=some .local\/(scope.names.lookup y.1=some .cell/\((cellsFrom (s.heap.objs.size + 1) scope.names []).lookup y.1).isSome=true):=fun⟨n,v⟩ hy=>by
  rcases S.par n (SU hy).1 with q|q
  ·exact .inl q
  ·exact .inr ⟨q,PySem.W.cellsFrom_some _ _ _ (.inl q)⟩
 refine codeAny_call_function hr.depth (KX _ _ lk) O S.co S.gen O (PySem.W.codeRec_of KX eS) (hb _ _ _ _ ?_);refine wpAny_newFunctionEnv_cells S.kind a9 fun env he s1 x=>?_
 subst he;refine⟨wE.keeps x.toInCall.keep,codeAny_func ?_⟩;obtain⟨t,ht,hq⟩:=cT A outer s H vs Q E (hr.deeper _) iC;have I:Inv (jn CX P w K mg base N qual scope f aA A outer s H E) [] (start N vs) H s1:=Px S e0 hl r x;refine RJ (ht [] s1 (start N vs) H _ I hq) (fun fl s' hs=>?_) fun e s' hs=>hs
 have fin:∀ {σ':St}{H':Hp}{v:V}{u:Value},Inv (jn CX P w K mg base N qual scope f aA A outer s H E) [] σ' H' s'->av v u->Q v H'->CE outer P w H s Q u s':=
  fun {σ' H' v u} J rv q=>⟨v,H',J.os,J.bare,J.base,J.hok,rv,q⟩
 cases fl with
 | ret u=>
  obtain⟨v,σ',H',J,rv,q⟩:=hs;exact fin J rv q
 | next=>
  obtain⟨σ',H',J,q⟩:=hs;exact fin (v:=V.non) (u:=Value.none) J O q
 | brk=>
  obtain⟨_,_,_,q⟩:=hs;exact False.elim q
 | cont=>
  obtain⟨_,_,_,q⟩:=hs;exact False.elim q
section
variable {p pos:Pos}{id T:String}{r:List V->Hp->VK->Prop}
def tCB (r:List V->Hp->VK->Prop) (t:TA):TE:=fun σ H Q=>t σ H fun vs H1=>r vs H1 Q
theorem bp (hc:gD X (.builtin id) r) (hg:Gl X x) (hm:X.mg x=none) (hv:bootBuiltins x=some (.builtin id)) (ha:PA X (e::es) t) (hn:x≠"__name__":=by decide) (dk:(x == ("__debug__":Str))=false:=by decide)
  (he:starEach (e::es) X.env=(false,eval e X.env)::starEach es X.env:=by rfl) (bU:(backTo pos (starEach es X.env)).any (·.1)=false:=by rfl):PE X (.Call (.Name x p) (e::es) [] pos) (tCB r t):=by
 intro aa s σ H Q I h;refine RP (g8 I hg hm hv ?_ hn dk);exact PyProof.Rows.callWith_builtin1 (thn (ha pos aa s σ H _ I h) fun us s1=>L2.ex5 fun vs H1 I1 r1 q1=>hc aa s1 σ H1 vs us Q I1 r1 q1) he bU
theorem vz (hc:gD X (.type T) r) (hg:Gl X x) (hm:X.mg x=none) (hv:bootBuiltins x=some (.type T)) (ha:PA X (e::es) t) (hn:x≠"__name__":=by decide) (dk:(x == ("__debug__":Str))=false:=by decide)
  (he:starEach (e::es) X.env=(false,eval e X.env)::starEach es X.env:=by rfl) (bU:(backTo pos (starEach es X.env)).any (·.1)=false:=by rfl):PE X (.Call (.Name x p) (e::es) [] pos) (tCB r t):=by
 intro aa s σ H Q I h;refine RP (g8 I hg hm hv ?_ hn dk);exact PyProof.Rows.callWith_type1 (thn (ha pos aa s σ H _ I h) fun us s1=>L2.ex5 fun vs H1 I1 r1 q1=>hc aa s1 σ H1 vs us Q I1 r1 q1) he bU
end
end L2
namespace HT
variable {sl:Addr}
open PySem PyProof.Rows
section
open PySem.SeqAt
open PySem.AutoSeq1 (wpAny_loadPart')
open PySem.MeetsSeq PySem.MeetsSeq2 PySem.MeetsSeq3
end
section
variable {prog:Program}{w:World}{A:Around}{E:Value->Shared->Prop}{s:Shared}
def sIx (n d:Nat):Option Int->Nat
 | none=>d
 | some v=>if v<0 then(v + (n:Int)).toNat else min v.toNat n
theorem zhr (n d:Nat):sIx n d none=d:=rfl
theorem sIx_le (n d:Nat) (hd:d<=n) (o:Option Int):sIx n d o<=n:=by
 cases o with
 | none=>exact hd
 | some v=>
  show(if v<0 then(v + (n:Int)).toNat else min v.toNat n)<=n;by_cases hv:v<0
  ·rw[if_pos hv];omega
  ·rw[if_neg hv];exact Nat.min_le_right _ _
theorem Gw (v:Int) (n d:Nat):(if v<0 then max (v + (n:Int)) 0 else min v (n:Int))=((sIx n d (some v):Nat):Int):=by
 show(if v<0 then max (v + (n:Int)) 0 else min v (n:Int))=(((if v<0 then(v + (n:Int)).toNat else min v.toNat n):Nat):Int);by_cases hv:v<0
 ·simp only[if_pos hv];omega
 ·simp only[if_neg hv];omega
theorem NF (lo hi:Option Int) (n:Nat):Builtin.Slice.sliceAdjust lo hi 1 (n:Int)=(((sIx n 0 lo:Nat):Int),((sIx n n hi:Nat):Int)):=by
 have h1:¬ ((1:Int)<0):=by omega
 unfold Builtin.Slice.sliceAdjust;simp only[h1,if_false]
 refine Prod.ext ?_ ?_
 ·cases lo with
  | none=>rfl
  | some v=>exact Gw v n 0
 ·cases hi with
  | none=>rfl
  | some v=>exact Gw v n n
theorem Nu (i j:Nat):Builtin.Slice.slicePlaces (i:Int) (j:Int) 1=j - i:=by
 unfold Builtin.Slice.slicePlaces;have h1:(1:Int) > 0:=by omega
 simp only[h1,if_true,Int.ediv_one]
 split <;> omega
theorem Ee {v:Value}{o:Option Int}{Q:Option Int->Shared->Prop} (p:IsPart v o) (h:Q o s):wpAny (model prog w) A (Builtin.Slice.slicePartIndex v) Q E s:=by
 cases p with
 | none=>exact slicePart_none h
 | int i t=>exact slicePart_int h
theorem Nb {vl vu:Value}{lo hi:Option Int}{n:Nat}{Q:Int×Int×Nat->Shared->Prop} (hs:s.heap.IsSliceOf sl vl vu .none) (pl:IsPart vl lo) (pu:IsPart vu hi)
  (h:Q (((sIx n 0 lo:Nat):Int),1,sIx n n hi - sIx n 0 lo) s):wpAny (model prog w) A (Builtin.Slice.sliceApplied (.ref sl) (pure (n:Int))) Q E s:=by
 obtain⟨os,nJ,cw,aR⟩:=id hs;unfold Builtin.Slice.sliceApplied Builtin.Slice.sliceFields;refine wpAny_bind (wpAny_bind (wpAny_field nJ aR (x:=vl) O (wpAny_bind (wpAny_field nJ aR (x:=vu) O (wpAny_bind (wpAny_field nJ aR (x:=.none) O (wpAny_pure ?_)))))));refine wpAny_bind (slicePart_none ?_);show wpAny _ _ (if ((1:Int) == 0)=true then _ else _) _ _ s;rw[if_neg (by decide)];refine wpAny_bind (Ee pl (wpAny_bind (Ee pu (wpAny_bind (wpAny_pure ?_)))));show wpAny _ _ (match Builtin.Slice.sliceAdjust lo hi 1 (n:Int) with|(lo,hi)=>pure (lo,(1:Int),Builtin.Slice.slicePlaces lo hi 1)) _ _ s;rw[NF lo hi n];show wpAny _ _ (pure (((sIx n 0 lo:Nat):Int),(1:Int),Builtin.Slice.slicePlaces ((sIx n 0 lo:Nat):Int) ((sIx n n hi:Nat):Int) 1)) _ _ s;rw[Nu];exact wpAny_pure h
theorem K3 (xs:Array Value) (i k:Nat):((List.range k).filterMap fun(m:Nat)=>xs[((i:Int) + (m:Int) * 1).toNat]?).toArray=((xs.toList.drop i).take k).toArray:=by
 have e:(fun(m:Nat)=>xs[((i:Int) + (m:Int) * 1).toNat]?)=fun m=>xs[i + m]?:=by
  funext m
  have:((i:Int) + (m:Int) * 1).toNat=i + m:=by omega
  rw[this]
 rw[e];have:=pick_run xs i k;rw[List.filterMap_map] at this;have e2:((fun x=>xs[x]?) ∘ fun x=>i + x)=fun m=>xs[i + m]?:=rfl
 rw[e2] at this;rw[this]
theorem zdu {t:Addr}{items:Array Value}{vl vu:Value}{lo hi:Option Int}{Q:Value->Shared->Prop} (ht:IsTup s.heap t items) (hs:s.heap.IsSliceOf sl vl vu .none) (pl:IsPart vl lo) (pu:IsPart vu hi)
  (hw:¬ (sIx items.size 0 lo=0/\sIx items.size items.size hi=items.size))
  (h:Q (.ref s.heap.objs.size) { s with heap:=s.heap.push { cls:=.type "tuple",data:=.seq ((items.toList.drop (sIx items.size 0 lo)).take (sIx items.size items.size hi - sIx items.size 0 lo)).toArray } })
  (hsz:items.size<=sizeLine):wpAny (model prog w) A (getItem (.ref t) (.ref sl)) Q E s:=by
 have gP:sizeOk (.seq ((items.toList.drop (sIx items.size 0 lo)).take (sIx items.size items.size hi - sIx items.size 0 lo)).toArray):=by
  show((items.toList.drop (sIx items.size 0 lo)).take (sIx items.size items.size hi - sIx items.size 0 lo)).toArray.size<=sizeLine;rw[List.size_toArray,List.length_take,List.length_drop,Array.length_toList];omega
 have hj:sIx items.size items.size hi<=items.size:=sIx_le _ _ (Nat.le_refl _) hi;obtain⟨os,nJ,cw,aR⟩:=id hs;have HU:s.TypeIs (.ref sl) "slice":=⟨os,nJ,cw⟩;unfold getItem
 try with_reducible refine wpAny_holding ?_
 first|refine wpAny_bind (wpAny_pure ?_)|skip
 refine wpAny_bind (wpAny_sequenceKey ht.typeIs (by decide) ?_);refine wpAny_bind (wpAny_callSpecial?_slot (name:=Str.ofString "__getitem__") ht.typeIs PyProof.Rows.slot_tuple_getitem
  (wpAny_call_entry PyProof.Rows.slot_tuple_getitem ht.typeIs entry_tuple_getitem ?_ (args_tuple_getitem _ _)))
 show wpAny _ _ (Builtin.Tuple.tupleItemsOf (.ref t) >>= _) _ _ s;refine wpAny_bind (tupleItemsOf_ ht ?_);refine wpAny_bind (wpAny_typeOf HU ?_);rw[if_pos (by decide)];refine wpAny_bind (Nb hs pl pu ?_);have yL:¬ ((((sIx items.size 0 lo:Nat):Int) == 0 && (1:Int) == 1 && (sIx items.size items.size hi - sIx items.size 0 lo) == items.size)=true):=by
  intro q;rw[Bool.and_eq_true,Bool.and_eq_true] at q;have q1:((sIx items.size 0 lo:Nat):Int)=0:=eq_of_beq q.1.1;have q2:sIx items.size items.size hi - sIx items.size 0 lo=items.size:=eq_of_beq q.2;exact hw ⟨by omega,by omega⟩
 show wpAny _ _ (if (((sIx items.size 0 lo:Nat):Int) == 0 && (1:Int) == 1 && (sIx items.size items.size hi - sIx items.size 0 lo) == items.size)=true then _ else _) _ _ s;rw[if_neg yL,K3]
 first
  | exact wpAny_bind (m:=Builtin.Tuple.tupleExact _) (wpAny_newObj_type (wpAny_pure ⟨_,O,wpAny_pure h⟩) gP)
  | exact wpAny_bind (m:=Builtin.Tuple.tupleExact _) (wpAny_newObj_type (wpAny_bind (wpAny_pure (wpAny_pure ⟨_,O,wpAny_pure h⟩))) gP)
  | exact wpAny_bind (wpAny_bind (m:=Builtin.Tuple.tupleExact _) (wpAny_newObj_type (wpAny_pure (wpAny_pure ⟨_,O,wpAny_pure h⟩)) gP))
  | exact wpAny_bind (wpAny_bind (m:=Builtin.Tuple.tupleExact _) (wpAny_newObj_type (wpAny_pure ⟨_,O,wpAny_pure h⟩) gP))
end
end HT
namespace L2
variable {A:Around}{E:Value->Shared->Prop}{H H':Hp}{P prog:Program}{T id:String}{X:Cx}{a b p:Addr}{aa:List (Addr×Obj)}{ag its':List Value}{e:Expr}{i:Int}{kvs:List (List Key×V)}{n t':Nat}{o:Option V}{s:Shared}{u v:Value}{w:World}{xs:List (List Key×Addr×Value)}{y:V}{σ:St}
open PySem PySem.Spec PyProof.Rows
abbrev TO:=St->Hp->(Option Int->Hp->Prop)->Prop
def PO (X:Cx) (e:Option Expr) (t:TO):Prop:=
 ∀ (aa:List (Addr×Obj)) (s:Shared) (σ:St) (H:Hp) (Q:Option Int->Hp->Prop),Inv X aa σ H s->t σ H Q ->
  wpAny (model X.prog X.w) X.A (evalPart e X.env) (fun u s'=>∃ o H',Inv X aa σ H' s'/\IsPart u o/\Q o H') X.xe s
def ES:TO:=fun _ H Q=>Q none H
def tPart (t:TE):TO:=fun σ H Q=>t σ H fun x H1=>∃ i,x=.int i/\Q (some i) H1
section
variable {te:TE}{lo hi:Option Expr}{tl th:TO}{pos p2:Pos}
theorem AW:PO X none ES:=by
 intro aa s σ H Q I h;rw[evalPart_none];exact QW ⟨none,H,I,.none,h⟩
theorem tP (h:PE X e te):PO X (some e) (tPart te):=by
 intro aa s σ H Q I hw;rw[evalPart_some];refine thn (h aa s σ H _ I hw) fun u s1=>L2.ex5 fun x H1 I1 r1 q1=>?_
 obtain⟨i,rfl,q⟩:=q1;obtain⟨t,rfl⟩:=r1;exact⟨some i,H1,I1,.int i t,q⟩
def SlR (X:Cx) (r:V->Option Int->Option Int->Hp->VK->Prop):Prop:=
 ∀ (aa:List (Addr×Obj)) (s:Shared) (σ:St) (H:Hp) (x:V) (v vl vu:Value) (lo hi:Option Int) (sl:Addr) (Q:VK),Inv X aa σ H s->av x v->s.heap.IsSliceOf sl vl vu .none->IsPart vl lo->IsPart vu hi->r x lo hi H Q ->
  ∃ T id,typeLookup (.type T) "__getitem__"=pure (some (.builtin id))/\s.TypeIs v T/\wpAny (model X.prog X.w) X.A (getItem v (.ref sl)) (EP X aa σ Q) X.xe s
def tSl (r:V->Option Int->Option Int->Hp->VK->Prop) (te:TE) (tl th:TO):TE:=fun σ H Q=>te σ H fun x H1=>tl σ H1 fun l H2=>th σ H2 fun u H3=>r x l u H3 Q
theorem vW {r:V->Option Int->Option Int->Hp->VK->Prop} (hr:SlR X r) (he:PE X e te) (hl:PO X lo tl) (hu:PO X hi th):PE X (.Subscript e (.Slice lo hi none p2) pos) (tSl r te tl th):=by
 intro aa s σ H Q I h;refine Subscript_ (thn (he aa s σ H _ I h) fun v s1=>L2.ex5 fun x H1 I1 r1 q1=>?_);refine wpAny_Slice (thn (hl aa s1 σ H1 _ I1 q1) fun vl s2 ⟨l,H2,I2,pl,q2⟩=>thn (hu aa s2 σ H2 _ I2 q2) fun vu s3=>L2.ex5 fun u H3 I3 pu q3=>?_);rw[evalPart_none];refine QW ?_;have I4:Inv X aa σ H3 { s3 with heap:=s3.heap.push { cls:=.type "slice",data:=.fields #[vl,vu,.none] } }:=I3.kept (t':=s3.toks) fun b ob q=>QU _ q
 obtain⟨T,id,hT,ht,hg⟩:=hr aa { s3 with heap:=s3.heap.push { cls:=.type "slice",data:=.fields #[vl,vu,.none] } } σ H3 x v vl vu l u s3.heap.objs.size Q I4 r1 (Heap.IsSliceOf.new ..) pl pu q3;show wpAny (model X.prog X.w) X.A (subscriptTail e (.Slice lo hi none p2) v (.ref s3.heap.objs.size)) (EP X aa σ Q) X.xe { s3 with heap:=s3.heap.push { cls:=.type "slice",data:=.fields #[vl,vu,.none] } };exact tail_any (ops:=[.ref s3.heap.objs.size,v]) ht hT hg (by with_unfolding_all rfl)
def eI (xs:List V) (lo hi:Option Int):List V:=(xs.drop (HT.sIx xs.length 0 lo)).take (HT.sIx xs.length xs.length hi - HT.sIx xs.length 0 lo)
theorem Ew (xs:List V) (lo hi:Option Int):(eI xs lo hi).length<=xs.length:=by
 unfold eI;rw[Rb,Sv];omega
def rSlT (K:PySem.W.Frag):V->Option Int->Option Int->Hp->VK->Prop:=fun x lo hi H Q=>∃ a xs,x=.ref a/\SqT K H a xs /\
 ¬ (HT.sIx xs.length 0 lo=0/\HT.sIx xs.length xs.length hi=xs.length)/\∀ p,H p=none->Q (.ref p) (upd H p (.tup (eI xs lo hi)))
theorem sl_tup:SlR X (rSlT X.K):=by
 intro aa s σ H x v vl vu lo hi sl Q I rx hs pl pu h;obtain⟨a,xs,rfl,hx,hw,q⟩:=h;cases rx
 obtain⟨ag,r,ht,hz⟩:=I.tuple hx;have aj:ag.toArray.size=xs.length:=by rw[Rc];exact r.length.symm
 refine⟨"tuple",_,PyProof.Rows.slot_tuple_getitem.lookup,ht.typeIs,?_⟩;refine HT.zdu ht hs pl pu (by rw[aj];exact hw) ?_ (by rw[aj];exact hz);rw[aj];refine⟨.ref s.heap.objs.size,_,I.laid (t':=s.toks) (o:=.tup (eI xs lo hi)) (fun b ob q=>QU _ q) (QY _) ?_,O,q _ (I.hok.fresh (QY _))⟩;exact⟨Rz (Ew xs lo hi) hz,_,(r.drop (HT.sIx xs.length 0 lo)).take (HT.sIx xs.length xs.length hi - HT.sIx xs.length 0 lo),IsTup.new _ _⟩
end
def ixN (n:Nat) (i:Int):Option Nat:=if 0<=i then(if i<n then some i.toNat else none) else if -(n:Int)<=i then some (i + n).toNat else none
def atI {α:Type} (xs:List α) (i:Int):Option α:=(ixN xs.length i).bind fun j=>xs[j]?
theorem EY {j:Nat} (h:ixN n i=some j):seqIndex? i n=some j/\j<n/\-(n:Int)<=i/\i<n:=by
 unfold ixN at h;by_cases h0:0<=i
 ·rw[if_pos h0] at h
  by_cases h1:i<n
  ·rw[if_pos h1] at h
   have e:i.toNat=j:=Option.some.inj h;exact⟨by rw[seqIndex_of h0 h1,e],by omega,by omega,h1⟩
  ·rw[if_neg h1] at h;cases h
 ·rw[if_neg h0] at h
  by_cases h1:-(n:Int)<=i
  ·rw[if_pos h1] at h
   have e:(i + n).toNat=j:=Option.some.inj h;exact⟨by rw[seqIndex_neg (by omega) h1,e],by omega,h1,by omega⟩
  ·rw[if_neg h1] at h;cases h
theorem Fl {α:Type}{xs:List α}{v:α} (h:atI xs i=some v):∃ j,seqIndex? i xs.length=some j/\xs[j]?=some v/\j<xs.length/\-(xs.length:Int)<=i/\i<xs.length:=by
 unfold atI at h;cases e:ixN xs.length i with
 | none=>rw[e] at h;cases h
 | some j=>
  rw[e] at h;obtain⟨h1,h2,h3,h4⟩:=EY e;exact⟨j,h1,h,h2,h3,h4⟩
def MS (b:Expr):Prop:=∀ o i,subscripted b false o i=operate [o,i] (getItem o i)
def IxR (X:Cx) (r:R2):Prop:=
 ∀ (value slice:Expr) (aa:List (Addr×Obj)) (s:Shared) (σ:St) (H:Hp) (x y:V) (v u:Value) (Q:VK),Inv X aa σ H s->av x v->av y u->r x y H Q ->
  subscripted slice false v u=operate [v,u] (getItem v u)->wpAny (model X.prog X.w) X.A (subscriptTail value slice v u) (EP X aa σ Q) X.xe s
def MtR (X:Cx) (id:String) (r:V->List V->Hp->VK->Prop):Prop:=
 ∀ (aa:List (Addr×Obj)) (s:Shared) (σ:St) (H:Hp) (x:V) (xs:List V) (v:Value) (us:List Value) (Q:VK),Inv X aa σ H s->av x v->aw xs us->r x xs H Q ->
  wpAny (model X.prog X.w) X.A (call (.builtin id) (v::us)) (EP X aa σ Q) X.xe s
section
variable {a b:Expr}{ta tb:TE}{pos:Pos}
theorem aG {r:R2} (hr:IxR X r) (ha:PE X a ta) (hb:PE X b tb) (hs:MS b):PE X (.Subscript a b pos) (tOp r ta tb):=by
 intro aa s σ H Q I h;exact Subscript_ (binT ha hb I h fun v u s2 x y H2 I2 rx ry q=>hr a b aa s2 σ H2 x y v u Q I2 rx ry q (hs _ _))
def rIxL (K:PySem.W.Frag):R2:=fun x y H Q=>∃ p xs i v,x=.ref p/\y=.int i/\SqL K H p xs/\atI xs i=some v/\Q v H
def rIxT (K:PySem.W.Frag):R2:=fun x y H Q=>∃ p xs i v,x=.ref p/\y=.int i/\SqT K H p xs/\atI xs i=some v/\Q v H
theorem bx:IxR X (rIxL X.K):=by
 intro value slice aa s σ H x y v u Q I rx ry h hs;obtain⟨p,xs,i,z,rfl,rfl,hq,he,q⟩:=h;cases rx
 obtain⟨t,rfl⟩:=ry;obtain⟨ag,r,pl,hz⟩:=I.list hq;obtain⟨j,h1,h2,h3,h4,h5⟩:=Fl he;obtain⟨w,ew,eY⟩:=r.get h2;have hl:=r.length;have hn:=sS;have fin:EP X aa σ Q w s:=⟨z,H,I,eY,q⟩;by_cases h0:0<=i
 ·have hj:i.toNat=j:=by
   rw[seqIndex_of h0 h5] at h1;exact Option.some.inj h1
  exact item_listR pl.isList h0 (by omega) (by rw[hj];simpa using ew) fin hs
 ·have hj:(i + (ag.toArray.size:Int)).toNat=j:=by
   rw[seqIndex_neg (by omega) h4] at h1;rw[Rc,<- hl];exact Option.some.inj h1
  exact subscriptTail_builtinR (x:=w) pl.isList.typeIs slot_list_getitem.lookup
   (wpAny_getItem_list_neg (Q:=fun r s'=>r=w/\EP X aa σ Q r s') pl.isList (by omega) (by rw[Rc] <;> omega) (by omega) (by rw[hj];simpa using ew) ⟨O,fin⟩) hs
theorem cf:IxR X (rIxT X.K):=by
 intro value slice aa s σ H x y v u Q I rx ry h hs;obtain⟨p,xs,i,z,rfl,rfl,hq,he,q⟩:=h;cases rx
 obtain⟨t,rfl⟩:=ry;obtain⟨ag,r,pl,hz⟩:=I.tuple hq;obtain⟨j,h1,h2,h3,h4,h5⟩:=Fl he;obtain⟨w,ew,eY⟩:=r.get h2;have hl:=r.length;have hn:=sS;have fin:EP X aa σ Q w s:=⟨z,H,I,eY,q⟩;exact subscriptTail_builtinR (x:=w) pl.typeIs slot_tuple_getitem.lookup
  (getItem_tuple (j:=j) (Q:=fun r s'=>r=w/\EP X aa σ Q r s') pl (by omega) (by omega) (by rw[Rc,<- hl];exact h1) (by simpa using ew) ⟨O,fin⟩) hs
theorem OT (ag:List Value) (n j:Nat) (u:Value):Obj.mapSeq (·.setIfInBounds j u) { cls:=.type "list",data:=.seq ag.toArray n }={ cls:=.type "list",data:=.seq (ag.set j u).toArray n }:=by
 simp[Obj.mapSeq]
theorem Inv.lst {aa:List (Addr×Obj)}{σ:St}{H:Hp}{s:Shared}{p:Addr}{xs:List V} (I:Inv X aa σ H s) (h:H p=some (.lst xs)) :
  ∃ (ag:List Value) (n:Nat),aw xs ag/\s.heap.get? p=some { cls:=.type "list",data:=.seq ag.toArray n }/\xs.length<=sizeLine:=by
 obtain⟨z,ag,n,r,e⟩:=I.hok p _ h;exact⟨ag,n,r,e,z⟩
theorem Inv.lstUpd {xs ys:List V}{n':Nat}{f:Obj->Obj} (I:Inv X aa σ H s) (h:H p=some (.lst xs))
  (ho:s.heap.get? p=some { cls:=.type "list",data:=.seq ag.toArray n }) (hf:f { cls:=.type "list",data:=.seq ag.toArray n }={ cls:=.type "list",data:=.seq its'.toArray n' }) (r:aw ys its') (hz:ys.length<=sizeLine) (t:Nat) :
  Inv X aa σ (upd H p (.lst ys)) { s with heap:=s.heap.update p f,toks:=t }:=by
 have e:(s.heap.update p f).get? p=some { cls:=.type "list",data:=.seq its'.toArray n' }:=by
  rw[Rv f ho (by rw[hf] <;> rfl),hf]
 refine I.write (x:=p) (e:=p) (by rw[h];trivial) (.inl rfl) (fun b u hb q=>(Rh _ _ (Ne.symm hb)).trans q) ⟨_,e⟩ ?_;exact⟨hz,its',n',r,e⟩
def rSetL:V->V->V->Hp->(Hp->Prop)->Prop:=fun o i v H Q=>∃ p xs k j,o=.ref p/\i=.int k/\H p=some (.lst xs)/\ixN xs.length k=some j/\Q (upd H p (.lst (xs.set j v)))
theorem kL:PSet X rSetL:=by
 intro aa s σ H o i v ov iv u Q I ro ri rv h;obtain⟨p,xs,k,j,rfl,rfl,hp,hj,q⟩:=h;cases ro
 obtain⟨t,rfl⟩:=ri;obtain⟨ag,n,r,ho,hz⟩:=I.lst hp;obtain⟨h1,h2,h3,h4⟩:=EY hj;have hl:=r.length;have hn:=sS;have I':Inv X aa σ (upd H p (.lst (xs.set j v))) { s with heap:=s.heap.update p (Obj.mapSeq (·.setIfInBounds j u)) }:=
  I.lstUpd hp ho (OT ag n j u) (r.set rv j) (by rw[RD];exact hz) s.toks
 by_cases h0:0<=k
 ·have hk:k.toNat=j:=by
   rw[seqIndex_of h0 h4] at h1;exact Option.some.inj h1
  exact PySem.W.ki_setAt ho h0 (by omega) (by rw[Rc,<- hl];exact h4) (by rw[hk];exact⟨_,I',q⟩)
 ·have hk:(k + (ag.toArray.size:Int)).toNat=j:=by
   rw[seqIndex_neg (by omega) h3] at h1;rw[Rc,<- hl];exact Option.some.inj h1
  exact PySem.W.ki_setBack ho (by omega) (by rw[Rc,<- hl];exact h3) (by omega) (by rw[hk];exact⟨_,I',q⟩)
theorem NX (lo hi:Option Int) (n:Nat):(sliceBounds lo hi none n).1=((HT.sIx n 0 lo:Nat):Int)/\(sliceBounds lo hi none n).2.1=((HT.sIx n n hi:Nat):Int)/\(sliceBounds lo hi none n).2.2=1:=by
 refine⟨?_,?_,O⟩
 ·cases lo with
  | none=>simp[sliceBounds,HT.sIx]
  | some i=>
   simp only[sliceBounds,HT.sIx,Option.getD_none,show(1:Int) > 0 by decide,if_true]
   by_cases h:i<0
   ·simp only[h,if_true] <;> omega
   ·simp only[h,if_false] <;> omega
 ·cases hi with
  | none=>simp[sliceBounds,HT.sIx]
  | some i=>
   simp only[sliceBounds,HT.sIx,Option.getD_none,show(1:Int) > 0 by decide,if_true]
   by_cases h:i<0
   ·simp only[h,if_true] <;> omega
   ·simp only[h,if_false] <;> omega
theorem K2 (ag:List Value) (lo hi:Option Int):slicePick ag.toArray lo hi none=((ag.drop (HT.sIx ag.length 0 lo)).take (HT.sIx ag.length ag.length hi - HT.sIx ag.length 0 lo)).toArray:=by
 obtain⟨h1,h2,h3⟩:=NX lo hi ag.toArray.size;unfold slicePick;rw[h1,h2,h3];simp only[sliceRange_one,pick_run,Rc] <;> rfl
def rSlL (K:PySem.W.Frag):V->Option Int->Option Int->Hp->VK->Prop:=fun x lo hi H Q=>∃ a xs,x=.ref a/\SqL K H a xs/\∀ p,H p=none->Q (.ref p) (upd H p (.lst (eI xs lo hi)))
theorem z8:SlR X (rSlL X.K):=by
 intro aa s σ H x v vl vu lo hi sl Q I rx hs pl pu h;obtain⟨a,xs,rfl,hx,q⟩:=h;cases rx
 obtain⟨ag,r,ht,hz⟩:=I.list hx;have aj:=r.length;refine⟨"list",_,slot_list_getitem.lookup,ht.isList.typeIs,?_⟩;refine wpAny_getItem_list_slice ht.isList hs pl pu .none (by simp) ?_ (by rw[Rc] <;> omega);rw[K2,<- aj];refine⟨.ref s.heap.objs.size,_,I.laid (t':=s.toks) (o:=.lst (eI xs lo hi)) (fun b ob q=>QU _ q) (QY _) ?_,O,q _ (I.hok.fresh (QY _))⟩;exact⟨Rz (Ew xs lo hi) hz,_,0,(r.drop (HT.sIx xs.length 0 lo)).take (HT.sIx xs.length xs.length hi - HT.sIx xs.length 0 lo),Q1 _ O⟩
def flatV:V->Bool
 | .non=>true
 | .bl _=>true
 | .int _=>true
 | .str _=>true
 | _=>false
def eqV:V->V->Bool
 | .non,.non=>true
 | .bl a,.bl b=>a == b
 | .bl a,.int b=>(if a then 1 else 0) == b
 | .int a,.bl b=>a == (if b then 1 else 0)
 | .int a,.int b=>a == b
 | .str a,.str b=>a == b
 | _,_=>false
theorem fR {x:V} (ry:av y u) (rx:av x v) (fy:flatV y=true) (fx:flatV x=true):SeqAt.EqAt A s u v (eqV y x):=by
 cases y with
 | non=>
  cases ry
  cases x with
  | non=>cases rx;exact SeqAt.EqAt.same _
  | bl b=>cases rx;exact SeqAt.EqAt.none_bool b
  | int b=>obtain⟨t,rfl⟩:=rx;exact SeqAt.EqAt.none_int b t
  | str b=>obtain⟨t,rfl⟩:=rx;exact SeqAt.EqAt.none_str b t
  | _=>exact absurd (show false=true from fx) Ra
 | bl a=>
  cases ry
  cases x with
  | non=>cases rx;exact SeqAt.EqAt.bool_none a
  | bl b=>cases rx;exact SeqAt.EqAt.bool_bool a b
  | int b=>obtain⟨t,rfl⟩:=rx;exact SeqAt.EqAt.bool_int a b t
  | str b=>obtain⟨t,rfl⟩:=rx;exact SeqAt.EqAt.bool_str a b t
  | _=>exact absurd (show false=true from fx) Ra
 | int a=>
  obtain⟨t',rfl⟩:=ry;cases x with
  | non=>cases rx;exact SeqAt.EqAt.int_none a t'
  | bl b=>cases rx;exact SeqAt.EqAt.int_bool a t' b
  | int b=>obtain⟨t,rfl⟩:=rx;exact SeqAt.EqAt.int_int a t' b t
  | str b=>obtain⟨t,rfl⟩:=rx;exact SeqAt.EqAt.int_str a t' b t
  | _=>exact absurd (show false=true from fx) Ra
 | str a=>
  obtain⟨t',rfl⟩:=ry;cases x with
  | non=>cases rx;exact SeqAt.EqAt.str_none a t'
  | bl b=>cases rx;exact SeqAt.EqAt.str_bool a t' b
  | int b=>obtain⟨t,rfl⟩:=rx;exact SeqAt.EqAt.str_int a t' b t
  | str b=>obtain⟨t,rfl⟩:=rx;exact SeqAt.EqAt.str_str a t' b t
  | _=>exact absurd (show false=true from fx) Ra
 | _=>exact absurd (show false=true from fy) Ra
theorem ek:gD X (.builtin "len") (fun xs H Q=>∃ p ys,xs=[.ref p]/\(SqL X.K H p ys\/SqT X.K H p ys)/\Q (.int ys.length) H):=by
 intro aa s σ H xs us Q I r h;obtain⟨p,ys,rfl,hq,q⟩:=h;obtain⟨u,rfl,rx⟩:=gE r;cases rx
 have hn:=sS;rcases hq with hq|hq
 ·obtain⟨ag,r',pl,hz⟩:=I.list hq
  have aj:=r'.length;exact Calls.call_len_list pl.isList (by simp only[Rc] <;> omega) ⟨.int ys.length,H,I.tok _,⟨s.toks + 1,by rw[Rc,aj]⟩,q⟩
 ·obtain⟨ag,r',pl,hz⟩:=I.tuple hq
  have aj:=r'.length;exact len_tuple pl (by simp only[Rc] <;> omega) ⟨.int ys.length,H,I.tok _,⟨s.toks + 1,by rw[Rc,aj]⟩,q⟩
theorem Ex:gD X (.type "list") (fun xs H Q=>∃ p ys,xs=[.ref p]/\(SqL X.K H p ys\/SqT X.K H p ys)/\∀ l,H l=none->Q (.ref l) (upd H l (.lst ys))):=by
 intro aa s σ H xs us Q I r h;obtain⟨p,ys,rfl,hq,q⟩:=h;obtain⟨u,rfl,rx⟩:=gE r;cases rx
 have fin:∀ (ag:List Value),aw ys ag->ys.length<=sizeLine->∀ (h':Heap) (c':Nat),(∀ b o',s.heap.get? b=some o'->h'.get? b=some o') ->
   h'.get? s.heap.objs.size=some { cls:=.type "list",dict:=none,data:=.seq ag.toArray c',slots:=#[] }->EP X aa σ Q (.ref s.heap.objs.size) { s with heap:=h' }:=fun ag r' hz h' c' kp e=>
  ⟨.ref s.heap.objs.size,_,I.laid (t':=s.toks) kp (QY _) (show cu X.prog X.w _ h' _ (.lst ys) from⟨hz,ag,c',r',e⟩),O,q _ (I.hok.fresh (QY _))⟩
 rcases hq with hq|hq
 ·obtain⟨ag,r',pl,hz⟩:=I.list hq
  have aj:=r'.length;obtain⟨o,ho,hc,n,hd⟩:=pl.isList;exact call_list_seq p (.inl O) ho hc hd (fun h' c' kp e=>fin ag r' hz h' c' kp e) (by simp only[Rc] <;> omega)
 ·obtain⟨ag,r',pl,hz⟩:=I.tuple hq
  have aj:=r'.length;obtain⟨o,ho,hc,n,hd⟩:=pl;exact call_list_seq p (.inr O) ho hc hd (fun h' c' kp e=>fin ag r' hz h' c' kp e) (by simp only[Rc] <;> omega)
def tyV (K:PySem.W.Frag) (T:String) (x:V) (H:Hp):Prop:=match x with
 | .str _=>T="str"
 | .int _=>T="int"
 | .ref p=>(T="list"/\∃ xs,SqL K H p xs)\/(T="tuple"/\∃ o,K.lookup p=some o/\o.cls=.type "tuple"/\o.dict=none) \/
   (T="dict"/\((∃ kvs,H p=some (.dK kvs))\/∃ kvs,H p=some (.dT kvs)))\/(T="set"/\∃ S n,H p=some (.set S n))
 | _=>False
theorem Fv {x:V} (I:Inv X aa σ H s) (r:av x v) (ty:tyV X.K T x H) :
  s.TypeIs v T/\∀ a,v=.ref a->∃ ob,s.heap.get? a=some ob/\ob.dict=none:=by
 cases x with
 | str z=>
  obtain⟨t,rfl⟩:=r;cases (show T="str" from ty)
  exact⟨typeIs_str s z t,fun _ e=>nomatch e⟩
 | int i=>
  obtain⟨t,rfl⟩:=r;cases (show T="int" from ty)
  exact⟨typeIs_int s i t,fun _ e=>nomatch e⟩
 | ref p=>
  cases r
  rcases ty with⟨rfl,xs,hq⟩|⟨rfl,o,hk,hc,hd⟩|⟨rfl,hk⟩|⟨rfl,S,n,hk⟩
  ·obtain⟨ag,_,pl,_⟩:=I.list hq
   refine⟨pl.isList.typeIs,fun a e=>?_⟩;cases e
   obtain⟨o,n,e,c,hd,_⟩:=pl;exact⟨o,e,hd⟩
  ·refine⟨⟨o,I.kIn p o hk,hc⟩,fun a e=>?_⟩
   cases e
   exact⟨o,I.kIn _ o hk,hd⟩
  ·have z:∃ o,s.heap.get? p=some o/\o.ExactDict:=by
    rcases hk with⟨kvs,hk⟩|⟨kvs,hk⟩
    ·obtain⟨_,_,_,_,o,_,_,e,ex,_⟩:=I.hok p _ hk
     exact⟨o,e,ex⟩
    ·obtain⟨_,_,_,_,o,_,_,e,ex,_⟩:=I.hok p _ hk
     exact⟨o,e,ex⟩
   obtain⟨o,e,ex⟩:=z;refine⟨⟨o,e,ex.1⟩,fun a e2=>?_⟩;cases e2
   exact⟨o,e,ex.2.1⟩
  ·obtain⟨o,_,_,_,e,ex,_⟩:=I.hok p _ hk
   refine⟨⟨o,e,ex.1⟩,fun a e2=>?_⟩;cases e2
   exact⟨o,e,ex.2.1⟩
 | _=>exact False.elim ty
def tBM0 (K:PySem.W.Frag) (T:String) (r:V->List V->Hp->VK->Prop) (to:TE):TE:=fun σ H Q=>to σ H fun x H1=>tyV K T x H1/\r x [] H1 Q
def tBM (K:PySem.W.Frag) (T:String) (r:V->List V->Hp->VK->Prop) (to:TE) (t:TA):TE:=fun σ H Q=>to σ H fun x H1=>tyV K T x H1/\t σ H1 fun xs H2=>r x xs H2 Q
variable {o:Expr}{es:List Expr}{to:TE}{t:TA}{name:Str}{aX aD:Pos}{r:V->List V->Hp->VK->Prop}
theorem pU (pa:PlainAttrs T) (slot:Slot T name id) (zP:typeOf (.builtin id)=pure (.type "method_descriptor")) (hm:MtR X id r) (ho:PE X o to)
  (jb:attributeBase o name X.env (eval o X.env)=eval o X.env:=by rfl) (iW:(aX.endLine == aD.line)=true:=by rfl):PE X (.Call (.Attribute o name aX) [] [] aD) (tBM0 X.K T r to):=by
 intro aa s σ H Q I h;refine wpAny_Call_method0_late jb iW (thn (ho aa s σ H _ I h) fun v s1=>L2.ex5 fun x H1 I1 r1 a8=>?_);obtain⟨ty,q1⟩:=a8;obtain⟨h1,h2⟩:=Fv I1 r1 ty;exact⟨T,id,pa,slot,zP,h1,h2,Calls.callWith_builtin O (PySem.evalArgs_none (hm aa s1 σ H1 x [] v [] Q I1 r1 .nil q1))⟩
theorem iO (pa:PlainAttrs T) (slot:Slot T name id) (zP:typeOf (.builtin id)=pure (.type "method_descriptor")) (hm:MtR X id r) (ho:PE X o to) (ha:PA X (e::es) t)
  (jb:attributeBase o name X.env (eval o X.env)=eval o X.env:=by rfl)
  (ym:((backTo aD (starEach (e::es) X.env)).all (fun x=>!x.1) && (backToKw aD (keywordEach [] X.env)).all (fun x=>x.1.isSome)
   && decide ((e::es).length + ([]:List Keyword).length + (if ([]:List Keyword).isEmpty then 0 else 1)<30))=true:=by rfl)
  (iW:(aX.endLine == aD.line)=true:=by rfl) (hs:starEach (e::es) X.env=(false,eval e X.env)::starEach es X.env:=by rfl) (mY:(backTo aD (starEach es X.env)).any (·.1)=false:=by rfl) :
  PE X (.Call (.Attribute o name aX) (e::es) [] aD) (tBM X.K T r to t):=by
 intro aa s σ H Q I h;refine wpAny_Call_method_late jb ym iW O (thn (ho aa s σ H _ I h) fun v s1=>L2.ex5 fun x H1 I1 r1 a8=>?_);obtain⟨ty,q1⟩:=a8;obtain⟨h1,h2⟩:=Fv I1 r1 ty;refine⟨T,id,pa,slot,zP,h1,h2,?_⟩;have hA:=ha aD aa s1 σ H1 _ I1 q1;rw[hs] at hA ⊢;refine Calls.callWith_builtin (by show(false || (backTo aD (starEach es X.env)).any (·.1))=false;rw[mY] <;> rfl) (Calls.evalArgs_plain ?_);exact thn hA fun us s2=>L2.ex5 fun vs H2 I2 r2 q2=>hm aa s2 σ H2 x vs v us Q I2 r1 r2 q2
end
def MtM (X:Cx) (id:String) (r:V->List V->Hp->VK->Prop):Prop:=
 ∀ (aa:List (Addr×Obj)) (s:Shared) (σ:St) (H:Hp) (x:V) (xs:List V) (v:Value) (us:List Value) (Q:VK),Inv X aa σ H s->av x v->aw xs us->r x xs H Q ->
  wpAny (model X.prog X.w) X.A (call (.builtin id) (v::us)) (EP X aa σ Q) X.xe s
theorem aw.one:∀ {x:V}{us:List Value},aw [x] us->∃ u,us=[u]/\av x u
 | _,_,.cons r .nil=>⟨_,O,r⟩
theorem aw.zero:∀ {us:List Value},aw [] us->us=[]
 | _,.nil=>rfl
theorem aw.rep {xs:List V}{us:List Value} (h:aw xs us):∀ k:Nat,aw (List.replicate k xs).flatten (List.replicate k us).flatten
 | 0=>.nil
 | k + 1=>by
  rw[Sj,Sj,SD,SD];exact aw.append h (aw.rep h k)
theorem E8 (ag:List Value):∀ (k:Nat) (acc:List Value),
  List.foldl (fun x1 x2=>x1++x2) acc.toArray (List.replicate k ag.toArray)=(acc++(List.replicate k ag).flatten).toArray
 | 0,acc=>by simp
 | k + 1,acc=>by
  have e:acc.toArray++ag.toArray=(acc++ag).toArray:=by simp
  have e2:(acc++ag)++(List.replicate k ag).flatten=acc++(List.replicate (k + 1) ag).flatten:=by
   rw[Sj,SD,R6]
  rw[<- e2,<- E8 ag k (acc++ag),<- e,Sj,List.foldl_cons]
section
variable {l:Addr}{xs ys zs:List V}
theorem Inv.lset {f:Array Value->Array Value} (I:Inv X aa σ H s) (hH:H l=some (.lst xs))
  (e:s.heap.get? l=some { cls:=.type "list",data:=.seq ag.toArray n }) (hf:f ag.toArray=its'.toArray) (hv:aw ys its') (hz:ys.length<=sizeLine) :
  Inv X aa σ (upd H l (.lst ys)) { s with heap:=s.heap.update l (Obj.mapSeq f),toks:=t' }:=by
 have q:=PySem.IsL.update e f;rw[hf] at q;refine I.write (x:=l) (e:=l) (by rw[hH];exact trivial) (.inl O) (fun b' u hb hu=>(Rh s.heap (Obj.mapSeq f) (Ne.symm hb)).trans hu) ⟨_,q⟩ ?_;exact⟨hz,its',_,hv,q⟩
theorem Inv.lnew  (I:Inv X aa σ H s) (hv:aw ys ag) (hz:ys.length<=sizeLine) :
  Inv X aa σ (upd H s.heap.objs.size (.lst ys)) { s with heap:=s.heap.push { cls:=.type "list",data:=.seq ag.toArray },toks:=t' }:=
 I.laid (fun _ _ q=>QU _ q) (QY _) ⟨hz,ag,0,hv,Q1 _ O⟩
theorem Inv.fresh (I:Inv X aa σ H s):H s.heap.objs.size=none:=I.hok.fresh (QY _)
theorem Inv.lstM (I:Inv X aa σ H s) (hH:H l=some (.lst xs)):xs.length<=sizeLine/\∃ (ag:List Value) (n:Nat),aw xs ag/\xs.length=ag.length/\s.heap.get? l=some { cls:=.type "list",data:=.seq ag.toArray n }:=by
 obtain⟨z,ag,n,r,e⟩:=I.hok l _ hH;exact⟨z,ag,n,r,r.length,e⟩
theorem EJ  (h:n<=sizeLine):Builtin.List.listTooLong n=false:=by
 unfold Builtin.List.listTooLong;exact RQ (by omega)
end
def LK:V->List V->Hp->VK->Prop:=fun x vs H Q=>∃ l xs y,x=.ref l/\vs=[y]/\H l=some (.lst xs)/\xs.length<sizeLine/\Q .non (upd H l (.lst (xs++[y])))
theorem mf:MtM X "list.append" LK:=by
 intro aa s σ H x vs v us Q I rx rv h;obtain⟨l,xs,y,rfl,rfl,hH,hz,q⟩:=h;cases rx
 obtain⟨u,rfl,ru⟩:=rv.one;obtain⟨z,ag,n,r,hl,e⟩:=I.lstM hH;refine call_meets F.slot_list_append ⟨_,e,O⟩ F.entry_list_append (F.args_list_append_2 _ _) (PySem.list_append l ag.toArray n u (by rw[Rc];omega)) ⟨e,?_⟩;refine⟨.non,_,I.lset (its':=ag++[u]) hH e (by simp) (r.append (.cons ru .nil)) ?_,O,q⟩;rw[Rm,T9];omega
def MB:V->List V->Hp->VK->Prop:=fun x vs H Q=>∃ l b xs zs,x=.ref l/\vs=[.ref b]/\H l=some (.lst xs)/\H b=some (.lst zs)/\xs.length + zs.length<=sizeLine/\Q .non (upd H l (.lst (xs++zs)))
theorem Ax:MtM X "list.extend" MB:=by
 intro aa s σ H x vs v us Q I rx rv h;obtain⟨l,b,xs,zs,rfl,rfl,hH,hB,hz,q⟩:=h;cases rx
 obtain⟨u,rfl,ru⟩:=rv.one;cases ru
 obtain⟨z,ag,n,r,hl,e⟩:=I.lstM hH;obtain⟨z2,gr,n2,r2,bY,e2⟩:=I.lstM hB;have hsz:ag.toArray.size + gr.toArray.size<=sizeLine:=by rw[Rc,Rc];omega
 have jh:¬ (!ag.toArray.isEmpty && Builtin.List.listTooLong (ag.toArray.size + gr.toArray.size))=true:=by
  rw[EJ hsz,Bool.and_false];exact Ra
 refine call_meets F.slot_list_extend ⟨_,e,O⟩ F.entry_list_extend (F.args_list_extend_2 _ _)
  (AutoSeq1.list_extend_list_list_0 l ag.toArray n b gr.toArray n2 jh (by rw[Rc];omega) (by omega)) ⟨e,e2,?_⟩
 refine⟨.non,_,I.lset (its':=ag++gr) hH e (by simp) (r.append r2) ?_,O,q⟩;rw[Rm];omega
def rClear:V->List V->Hp->VK->Prop:=fun x vs H Q=>∃ l xs,x=.ref l/\vs=[]/\H l=some (.lst xs)/\Q .non (upd H l (.lst []))
theorem Ma:MtM X "list.clear" rClear:=by
 intro aa s σ H x vs v us Q I rx rv h;obtain⟨l,xs,rfl,rfl,hH,q⟩:=h;cases rx
 have zb:=rv.zero;subst zb;obtain⟨z,ag,n,r,hl,e⟩:=I.lstM hH;refine call_meets F.slot_list_clear ⟨_,e,O⟩ F.entry_list_clear (F.args_list_clear_1 _) (AutoSeq1.list_clear_list_0 l ag.toArray n (by rw[Rc];omega)) ⟨e,?_⟩;exact⟨.non,_,I.lset (its':=[]) (ys:=[]) hH e O .nil (R9 _),O,q⟩
def rCat:R2:=fun x y H Q=>∃ l b xs zs,x=.ref l/\y=.ref b/\H l=some (.lst xs)/\H b=some (.lst zs)/\xs.length + zs.length<=sizeLine/\∀ p,H p=none->Q (.ref p) (upd H p (.lst (xs++zs)))
theorem FE:OpR X (binaryOp .Add) rCat:=by
 intro aa s σ H x y v u Q I rx ry h;obtain⟨l,b,xs,zs,rfl,rfl,hH,hB,hz,q⟩:=h;cases rx
 cases ry
 obtain⟨z,ag,n,r,hl,e⟩:=I.lstM hH;obtain⟨z2,gr,n2,r2,bY,e2⟩:=I.lstM hB;refine PySem.P.add_list e e2 ?_ (by rw[Rc,Rc];omega);have ea:ag.toArray++gr.toArray=(ag++gr).toArray:=by simp
 rw[ea];exact⟨.ref _,_,I.lnew (t':=s.toks) (r.append r2) (by rw[Rm];omega),O,q _ I.fresh⟩
def rRep:R2:=fun x y H Q=>∃ l k xs,x=.ref l/\y=.int k/\H l=some (.lst xs)/\-(2 ^ 63)<=k/\k<2 ^ 63/\xs.length * k.toNat<=sizeLine /\
 ∀ p,H p=none->Q (.ref p) (upd H p (.lst (List.replicate k.toNat xs).flatten))
theorem Oi {α:Type} (xs:List α) (k:Nat):(List.replicate k xs).flatten.length=k * xs.length:=by
 induction k with
 | zero=>simp
 | succ k ih=>rw[Sj,SD,Rm,ih,Nat.succ_mul,TL]
theorem vf:OpR X (binaryOp .Mult) rRep:=by
 intro aa s σ H x y v u Q I rx ry h;obtain⟨l,k,xs,rfl,rfl,hH,h1,h2,hz,q⟩:=h;cases rx
 obtain⟨t,rfl⟩:=ry;obtain⟨z,ag,n,r,hl,e⟩:=I.lstM hH;have aj:ag.toArray.size * k.toNat<=sizeLine:=by rw[Rc,<- hl];exact hz
 have eZ:¬ ag.toArray.size * k.toNat > (2 ^ 63 - 1) / 8:=by
  have:(sizeLine:Nat)<=(2 ^ 63 - 1) / 8:=by decide
  omega
 have zF:¬ (!Builtin.List.listFitsIndex k)=true:=by
  rw[fitsIndex_both h1 h2];exact Ra
 have jh:¬ Builtin.List.listTooLong (ag.toArray.size * k.toNat)=true:=by
  rw[EJ aj];exact Ra
 have cC:List.foldl (fun x1 x2=>x1++x2) #[] (List.replicate (if ag.toArray.isEmpty=true then 0 else k.toNat) ag.toArray)=(List.replicate k.toNat ag).flatten.toArray:=by
  have f0:∀ m:Nat,List.foldl (fun x1 x2=>x1++x2) #[] (List.replicate m ag.toArray)=(List.replicate m ag).flatten.toArray:=fun m=>by
   have:=E8 ag m [];rw[Tf] at this;exact this
  rw[f0];cases ag with
  | nil=>simp
  | cons a r'=>rw[if_neg (by simp)]
 refine wpAny_binaryOp_repeat_ref (T:="list") (U:="int") (by decide) ⟨_,e,O⟩ (fun s'=>typeIs_int s' k t) noFill_list_mul F.fills_int_mul F.slot_int_rmul repeat_list F.slot_int_index.lookup
  (call_meets F.slot_int_rmul (typeIs_int s k t) F.entry_int_rmul (F.args_int_rmul_2 _ _) (int___rmul___int_list k t l ag.toArray n)
   ⟨e,rfl,⟨_,e,rfl⟩,call_meets F.slot_list_mul ⟨_,e,rfl⟩ F.entry_list_mul (F.args_list_mul_2 _ _) (AutoListH.list___mul___list_int_3 l ag.toArray n k t zF eZ jh) ⟨e,?_⟩⟩)
 rw[cC];exact⟨.ref _,_,I.lnew (t':=s.toks) (r.rep k.toNat) (by rw[Oi,Nat.mul_comm];exact hz),O,q _ I.fresh⟩
section
variable {κ:Type} [DecidableEq κ]
def aN (kvs:List (κ×V)) (k:κ):Option V:=(kvs.find? fun kv=>decide (kv.1=k)).map (·.2)
def aE (kvs:List (κ×V)) (k:κ) (v:V):List (κ×V):=
 if (kvs.any fun kv=>decide (kv.1=k))=true then kvs.map (fun kv=>if kv.1=k then(kv.1,v) else kv) else kvs++[(k,v)]
def du (kvs:List (κ×V)) (k:κ):List (κ×V):=kvs.filter fun kv=>decide (kv.1≠k)
theorem fU {p:κ×V}{r:List (κ×V)}{k:κ} (e:p.1=k):aN (p::r) k=some p.2:=by simp[aN,SK,e]
theorem eA {p:κ×V}{r:List (κ×V)}{k:κ} (e:¬ p.1=k):aN (p::r) k=aN r k:=by simp[aN,SK,e]
theorem mH (k:κ):∀ kvs:List (κ×V),(kvs.any fun kv=>decide (kv.1=k))=(aN kvs k).isSome
 | []=>rfl
 | p::r=>by
  rw[SQ];by_cases e:p.1=k
  ·simp only[fU e,Ro e,Bool.true_or,Option.isSome_some]
  ·rw[eA e,RQ e,Bool.false_or];exact mH k r
theorem FF (k j:κ) (y:V):∀ kvs:List (κ×V),aN (kvs.map fun kv=>if kv.1=k then(kv.1,y) else kv) j=(aN kvs j).map fun x=>if j=k then y else x
 | []=>rfl
 | p::r=>by
  have ih:=FF k j y r;rw[RN];by_cases h:p.1=k
  ·rw[if_pos h]
   by_cases e:p.1=j
   ·rw[fU (p:=(p.1,y)) e,fU e,Tg,if_pos (e.symm.trans h)]
   ·rw[eA (p:=(p.1,y)) e,eA e,ih]
  ·rw[if_neg h]
   by_cases e:p.1=j
   ·rw[fU (p:=p) e,fU e,Tg,if_neg (fun z=>h (e.trans z))]
   ·rw[eA (p:=p) e,eA e,ih]
theorem Gq (k j:κ) (y:V):∀ kvs:List (κ×V),aN kvs k=none->aN (kvs++[(k,y)]) j=if j=k then some y else aN kvs j
 | [],_=>by
  by_cases e:k=j
  ·rw[if_pos e.symm];exact fU (p:=(k,y)) e
  ·rw[if_neg (fun z=>e z.symm)];exact eA (p:=(k,y)) e
 | p::r,hn=>by
  rw[List.cons_append];have hk:¬ p.1=k:=fun z=>by rw[fU z] at hn;cases hn
  rw[eA hk] at hn;have ih:=Gq k j y r hn;by_cases e:p.1=j
  ·rw[fU e,fU e,if_neg (fun z=>hk (e.trans z))]
  ·rw[eA e,eA e,ih]
theorem kP (kvs:List (κ×V)) (k j:κ) (y:V):aN (aE kvs k y) j=if j=k then some y else aN kvs j:=by
 unfold aE;by_cases a:(kvs.any fun kv=>decide (kv.1=k))=true
 ·rw[if_pos a,FF]
  rw[mH] at a;by_cases e:j=k
  ·obtain⟨x,hx⟩:=Option.isSome_iff_exists.mp a
   rw[if_pos e,e,hx,Tg,if_pos rfl]
  ·rw[if_neg e]
   cases aN kvs j with
   | none=>rfl
   | some x=>rw[Tg,if_neg e]
 ·rw[if_neg a]
  refine Gq k j y kvs ?_;rw[mH] at a;cases q:aN kvs k with
  | none=>rfl
  | some x=>rw[q] at a;exact(a O).elim
theorem vT (kvs:List (κ×V)) (k:κ) (v:V):(aE kvs k v).length<=kvs.length + 1:=by
 unfold aE;split
 ·rw[QT];omega
 ·rw[Rm,Re,List.length_nil];omega
theorem sZ {kvs:List (κ×V)}{k:κ} (v:V) (h:aN kvs k=none):aE kvs k v=kvs++[(k,v)]:=by
 unfold aE;rw[mH,h];exact if_neg (by decide)
theorem dM.isSome_eq {u:Option Value} (r:dM o u):o.isSome=u.isSome:=by
 cases o with
 | none=>cases u with
  | none=>rfl
  | some _=>exact(show False from r).elim
 | some _=>cases u with
  | none=>exact(show False from r).elim
  | some _=>rfl
theorem dM.getD {o:Option V}{u:Option Value}{d:V}{d':Value} (r:dM o u) (rd:av d d'):av (o.getD d) (u.getD d'):=by
 cases o with
 | none=>cases u with
  | none=>exact rd
  | some _=>exact(show False from r).elim
 | some _=>cases u with
  | none=>exact(show False from r).elim
  | some _=>exact r
theorem KV.val {kvs:List (κ×V)}{vs:List (κ×Value)} (r:KV kvs vs) (k:κ):dM (aN kvs k) (valueAt vs k):=by
 unfold KV at r
 induction r with
 | nil=>exact True.intro
 | @cons p q ps qs h t ih=>
  obtain⟨h1,h2⟩:=h;by_cases e:p.1=k
  ·have e':q.1=k:=h1.symm.trans e
   have b:valueAt (q::qs) k=some q.2:=by simp[valueAt,SK,e']
   rw[fU e,b];exact h2
  ·have e':¬ q.1=k:=fun z=>e (h1.trans z)
   have b:valueAt (q::qs) k=valueAt qs k:=by simp[valueAt,SK,e']
   rw[eA e,b];exact ih
theorem KV.any {kvs:List (κ×V)}{vs:List (κ×Value)} (r:KV kvs vs) (k:κ):(kvs.any fun kv=>decide (kv.1=k))=vs.any fun kv=>decide (kv.1=k):=by
 unfold KV at r
 induction r with
 | nil=>rfl
 | cons h t ih=>rw[SQ,SQ,ih,h.1]
theorem KV.repl {kvs:List (κ×V)}{vs:List (κ×Value)} (r:KV kvs vs) (k:κ) (ry:av y u) :
  KV (kvs.map fun kv=>if kv.1=k then(kv.1,y) else kv) (vs.map fun kv=>if kv.1=k then(kv.1,u) else kv):=by
 unfold KV at r ⊢
 induction r with
 | nil=>exact .nil
 | @cons p q ps qs h t ih=>
  rw[RN,RN];refine .cons ?_ ih;obtain⟨h1,h2⟩:=h;by_cases e:p.1=k
  ·rw[if_pos e,if_pos (h1.symm.trans e)];exact⟨h1,ry⟩
  ·rw[if_neg e,if_neg (fun z=>e (h1.trans z))];exact⟨h1,h2⟩
theorem KV.put {kvs:List (κ×V)}{vs:List (κ×Value)} (r:KV kvs vs) (k:κ) (ry:av y u):KV (aE kvs k y) (stored vs k u):=by
 unfold aE stored;rw[r.any k];by_cases e:(vs.any fun kv=>decide (kv.1=k))=true
 ·rw[if_pos e,if_pos e];exact r.repl k ry
 ·rw[if_neg e,if_neg e];exact Paired.snoc r ⟨O,ry⟩
theorem KV.drop {kvs:List (κ×V)}{vs:List (κ×Value)} (r:KV kvs vs) (k:κ):KV (du kvs k) (without vs k):=by
 unfold KV at r ⊢;unfold du without
 induction r with
 | nil=>exact .nil
 | @cons p q ps qs h t ih=>
  obtain⟨h1,h2⟩:=h;rw[RX,RX];by_cases e:p.1=k
  ·have a:¬ decide (p.1≠k)=true:=by simp[e]
   have b:¬ decide (q.1≠k)=true:=by simp[h1.symm.trans e]
   rw[if_neg a,if_neg b];exact ih
  ·have e':¬ q.1=k:=fun z=>e (h1.trans z)
   have a:decide (p.1≠k)=true:=by simp[e]
   have b:decide (q.1≠k)=true:=by simp[e']
   rw[if_pos a,if_pos b];exact .cons ⟨h1,h2⟩ ih
theorem KV.keys {kvs:List (κ×V)}{vs:List (κ×Value)} (r:KV kvs vs):kvs.map (·.1)=vs.map (·.1):=by
 unfold KV at r
 induction r with
 | nil=>rfl
 | cons h t ih=>rw[RN,RN,ih,h.1]
theorem KV.length {kvs:List (κ×V)}{vs:List (κ×Value)} (r:KV kvs vs):kvs.length=vs.length:=Paired.length r
theorem NJ (kvs:List (κ×V)) (k:κ):(du kvs k).length<=kvs.length:=RI _ _
end
theorem kM {k:Key} (r:av (kV k) u):(bJ P w).is k u=true:=by
 cases k with
 | inl i=>obtain⟨t,e⟩:=(show ∃ t,u=Value.int i t from r);subst e;exact Nh P w i t
 | inr x=>obtain⟨t,e⟩:=(show ∃ t,u=Value.str x t from r);subst e;exact OJ P w x t
theorem EG {P:Program}{w:World}:∀ {ks:List Key}{us:List Value},aw (ks.map kV) us->ItemsAre (bJ P w) ks us
 | [],_,r=>by rw[List.map_nil] at r;cases r;exact .nil
 | k::ks,_,r=>by
  rw[RN] at r;cases r with
  | cons h t=>exact .cons (kM h) (EG t)
abbrev KT (H:Hp):List (List Key×V)->List (List Key×Addr×Value)->Prop:=Paired fun p q=>p.1=q.1/\H q.2.1=some (.tup (p.1.map kV))/\av p.2 q.2.2
theorem KT.val  (r:KT H kvs xs) (k:List Key):dM (aN kvs k) ((atKey xs k).map (·.2)):=by
 induction r with
 | nil=>exact True.intro
 | @cons p q ps qs h t ih=>
  obtain⟨h1,_,h2⟩:=h;by_cases e:p.1=k
  ·have e':q.1=k:=h1.symm.trans e
   have b:atKey (q::qs) k=some q.2:=by simp[atKey,SK,e']
   rw[fU e,b];exact h2
  ·have e':¬ q.1=k:=fun z=>e (h1.trans z)
   have b:atKey (q::qs) k=atKey qs k:=by simp[atKey,SK,e']
   rw[eA e,b];exact ih
theorem KT.repl  (r:KT H kvs xs) (k:List Key) (ry:av y u) :
  KT H (kvs.map fun kv=>if kv.1=k then(kv.1,y) else kv) (xs.map (putAt k u)):=by
 induction r with
 | nil=>exact .nil
 | @cons p q ps qs h t ih=>
  rw[RN,RN];refine .cons ?_ ih;obtain⟨h1,h2,h3⟩:=h;unfold putAt;by_cases e:p.1=k
  ·rw[if_pos e,if_pos (h1.symm.trans e)];exact⟨h1,h2,ry⟩
  ·rw[if_neg e,if_neg (fun z=>e (h1.trans z))];exact⟨h1,h2,h3⟩
theorem KT.put  (r:KT H kvs xs) (k:List Key) (hb:H b=some (.tup (k.map kV))) (ry:av y u) :
  KT H (aE kvs k y) (storedH xs k b u):=by
 have e:(kvs.any fun kv=>decide (kv.1=k))=(atKey xs k).isSome:=by
  rw[mH,(r.val k).isSome_eq,TB]
 unfold aE storedH;rw[e];by_cases q:(atKey xs k).isSome=true
 ·rw[if_pos q,if_pos q];exact r.repl k ry
 ·rw[if_neg q,if_neg q];exact Paired.snoc r ⟨O,hb,ry⟩
theorem KT.keeps  (r:KT H kvs xs) (ht:∀ b ys,H b=some (.tup ys)->H' b=some (.tup ys)):KT H' kvs xs:=
 Paired.mapP r fun _ _ z=>⟨z.1,ht _ _ z.2.1,z.2.2⟩
section
variable {h:Heap}
theorem rd_of {u:HO} (ok:HOk P w H h) (e:Rd H a u):cu P w H h a u:=e.ok ok
theorem oM {kvs:List (Key×V)} (ok:HOk P w H h) (e:Rd H a (.dK kvs)):kvs.length<=sizeLine/\(a == sysModules)=false/\∃ vs,KV kvs vs/\h.DictOf (bJ P w) a vs:=
 show cu P w H h a (.dK kvs) from rd_of ok e
theorem iT {kvs:List (Key×V)} (ok:HOk P w H h) (e:H a=some (.dK kvs)):kvs.length<=sizeLine/\(a == sysModules)=false/\∃ vs,KV kvs vs/\h.DictOf (bJ P w) a vs:=oM ok (.inl e)
theorem qi {ks:List Key} (ok:HOk P w H h) (e:H a=some (.tup (ks.map kV))):(tupleKind (bJ P w)).is h ks a:=by
 obtain⟨_,ag,r,o,h1,h2,n,h3⟩:=(show cu P w H h a (.tup (ks.map kV)) from ok a _ e);exact⟨o,ag.toArray,n,h1,h2,h3,by simpa using EG r⟩
theorem oZ  (ok:HOk P w H h) (e:Rd H a (.dT kvs)):kvs.length<=sizeLine/\(a == sysModules)=false /\
  ∃ xs,KT H kvs xs/\h.DictOfH (tupleKind (bJ P w)) a xs:=by
 obtain⟨z,y,xs,r,o,es,ep,h1,h2,h3,h4,h5⟩:=(show cu P w H h a (.dT kvs) from rd_of ok e);refine⟨z,y,xs,r,o,es,ep,h1,h2,h3,h4,fun x hx=>?_,h5⟩;have all:∀ {l:List (List Key×V)}{m:List (List Key×Addr×Value)},KT H l m->∀ x∈m,(tupleKind (bJ P w)).is h x.1 x.2.1:=by
  intro l m q
  induction q with
  | nil=>intro x hx;exact nomatch hx
  | @cons p q ps qs hq t ih=>
   intro x hx;rcases Rp.mp hx with e|hx
   ·subst e
    exact qi ok (by rw[<- hq.1];exact hq.2.1)
   ·exact ih x hx
 exact all r x hx
theorem dt_of  (ok:HOk P w H h) (e:H a=some (.dT kvs)):kvs.length<=sizeLine/\(a == sysModules)=false /\
  ∃ xs,KT H kvs xs/\h.DictOfH (tupleKind (bJ P w)) a xs:=oZ ok (.inl e)
end
variable {Q:Value->Shared->Prop}{h':Heap}{kvs:List (Key×V)}
def fB (H:Hp) (a:Addr) (y:V) (r:Option V):Prop:=
 (∃ kvs k,Rd H a (.dK kvs)/\y=kV k/\r=aN kvs k)\/∃ kvs k b,Rd H a (.dT kvs)/\y=.ref b/\H b=some (.tup (k.map kV))/\r=aN kvs k
def kQ (H:Hp) (a:Addr) (y v:V) (H':Hp):Prop:=
 (∃ kvs k,H a=some (.dK kvs)/\y=kV k/\kvs.length<sizeLine/\H'=upd H a (.dK (aE kvs k v))) \/
 ∃ kvs k b,H a=some (.dT kvs)/\y=.ref b/\H b=some (.tup (k.map kV))/\kvs.length<sizeLine/\H'=upd H a (.dT (aE kvs k v))
theorem fB.k {H:Hp}{a:Addr}{kvs:List (Key×V)}{k:Key} (e:H a=some (.dK kvs)):fB H a (kV k) (aN kvs k):=.inl ⟨kvs,k,.inl e,O,O⟩
theorem kQ.k {H:Hp}{a:Addr}{kvs:List (Key×V)}{k:Key}{v:V} (e:H a=some (.dK kvs)) (hl:kvs.length<sizeLine):kQ H a (kV k) v (upd H a (.dK (aE kvs k v))):=.inl ⟨kvs,k,e,O,hl,O⟩
section
variable {v:V}{r:Value}
theorem Inv.big (I:Inv X aa σ H s):sysModules<s.heap.objs.size:=by
 have h:mainGlobals<s.heap.objs.size:=(I.mod.glob.keeps I.bk).lt;exact Th (by decide) h
theorem Mf  (hu:A.units + 1<cLine) (I:Inv X aa σ H s) (g:fB H a y (some v)) (ry:av y u) (h:∀ w' s',Inv X aa σ H s'->av v w'->Q w' s') :
  wpAny (model X.prog X.w) A (getItem (.ref a) u) Q E s:=by
 rcases g with⟨kvs,k,e,ey,l⟩|⟨kvs,k,b,e,ey,eb,l⟩
 ·subst ey
  obtain⟨z,hd,vs,rel,dd⟩:=oM I.hok e;obtain⟨w',hw,eY⟩:=dM.some_of (v:=v) (o:=valueAt vs k) (by rw[l];exact rel.val k);exact wpAny_getItem_of (kM ry) dd.mapOf hw (h w' _ (I.tok _) eY)
 ·subst ey
  cases (show u=Value.ref b from ry)
  obtain⟨z,hd,xs,rel,dd⟩:=oZ I.hok e;obtain⟨w',hw,eY⟩:=dM.some_of (v:=v) (o:=(atKey xs k).map (·.2)) (by rw[l];exact rel.val k);obtain⟨p,hp,gR⟩:=Option.map_eq_some_iff.mp hw;refine wpAny_getItem_heap (tupleKind_room_in1 hu) (qi I.hok eb) dd hp ?_;rw[gR];exact h w' _ (I.tok _) eY
theorem d_in  (hu:A.units + 1<cLine) (I:Inv X aa σ H s) (g:fB H a y o) (ry:av y u) (h:∀ s',Inv X aa σ H s'->Q (.bool o.isSome) s') :
  wpAny (model X.prog X.w) A (compareOp .In u (.ref a)) Q E s:=by
 rcases g with⟨kvs,k,e,ey,l⟩|⟨kvs,k,b,e,ey,eb,l⟩
 ·subst ey
  obtain⟨z,hd,vs,rel,dd⟩:=oM I.hok e;refine wpAny_in_of (kM ry) hd dd.mapOf ?_;rw[<- (rel.val k).isSome_eq,<- l];exact h _ (I.tok _)
 ·subst ey
  cases (show u=Value.ref b from ry)
  obtain⟨z,hd,xs,rel,dd⟩:=oZ I.hok e;refine wpAny_in_heap (tupleKind_room_in1 hu) (qi I.hok eb) hd dd ?_;have q:=(rel.val k).isSome_eq;rw[TB] at q;rw[<- q,<- l];exact h _ (I.tok _)
theorem L6  (hu:A.units + 1<cLine) (I:Inv X aa σ H s) (g:fB H a y o) (ry:av y u) (h:∀ s',Inv X aa σ H s'->Q (.bool (!o.isSome)) s') :
  wpAny (model X.prog X.w) A (compareOp .NotIn u (.ref a)) Q E s:=by
 rcases g with⟨kvs,k,e,ey,l⟩|⟨kvs,k,b,e,ey,eb,l⟩
 ·subst ey
  obtain⟨z,hd,vs,rel,dd⟩:=oM I.hok e;refine wpAny_notIn_of (kM ry) hd dd.mapOf ?_;rw[<- (rel.val k).isSome_eq,<- l];exact h _ (I.tok _)
 ·subst ey
  cases (show u=Value.ref b from ry)
  obtain⟨z,hd,xs,rel,dd⟩:=oZ I.hok e;refine wpAny_notIn_heap (tupleKind_room_in1 hu) (qi I.hok eb) hd dd ?_;have q:=(rel.val k).isSome_eq;rw[TB] at q;rw[<- q,<- l];exact h _ (I.tok _)
theorem vh {ob:HO} (I:Inv X aa σ H s) (mu:Mut (H a)) (hs:Heap.SameBut a s.heap h') (he:∃ q,h'.get? a=some q) (new:cu X.prog X.w (upd H a ob) h' a ob) :
  Inv X aa σ (upd H a ob) { s with heap:=h',toks:=t' }:=
 I.write (x:=a) (e:=a) mu (.inl O) (fun b q hb z=>(hs.2 b hb).trans z) he new
theorem Ai {vs:List (Key×Value)} (z:kvs.length<=sizeLine) (hd:(a == sysModules)=false) (rel:KV kvs vs) (dd:h'.DictOf (bJ P w) a vs) :
  cu P w H' h' a (.dK kvs):=⟨z,hd,vs,rel,dd⟩
theorem MV {Q:Unit->Shared->Prop} (hu:A.units + 1<cLine) (I:Inv X aa σ H s) (g:kQ H a y v H') (ry:av y u) (rv:av v r) (h:∀ s',Inv X aa σ H' s'->Q () s') :
  wpAny (model X.prog X.w) A (setItem (.ref a) u r) Q E s:=by
 rcases g with⟨kvs,k,e,ey,l,eH⟩|⟨kvs,k,b,e,ey,eb,l,eH⟩
 ·subst ey eH
  obtain⟨z,hd,vs,rel,dd⟩:=iT I.hok e;have hz:vs.length<=sizeLine:=by rw[<- rel.length];exact z
  have hl:(aE kvs k v).length<=sizeLine:=by have:=vT kvs k v;omega
  refine wpAny_setItem_pairs (hsz:=hz) (kM ry) dd fun h' jA hs=>h _ ?_
  have he:∃ q,h'.get? a=some q:=let ⟨q,_,_,hq,_⟩:=jA;⟨q,hq⟩
  exact vh I (by rw[e];exact True.intro) hs he (Ai hl hd (rel.put k rv) jA)
 ·subst ey eH
  cases (show u=Value.ref b from ry)
  obtain⟨z,hd,xs,rel,dd⟩:=dt_of I.hok e;have hz:xs.length<=sizeLine:=by rw[<- Paired.length rel];exact z
  have hl:(aE kvs k v).length<=sizeLine:=by have:=vT kvs k v;omega
  refine wpAny_setItem_heap (hsz:=hz) (tupleKind_room_in1 hu) (qi I.hok eb) dd fun h' jA hs=>h _ ?_
  obtain⟨q,es,ep,hq,h2,h3,h4,_,h5⟩:=jA;refine vh I (by rw[e];exact True.intro) hs ⟨q,hq⟩ ⟨hl,hd,_,(rel.put k eb rv).keeps fun c ys ec=>?_,q,es,ep,hq,h2,h3,h4,h5⟩;rw[ai (kU ec e (fun z=>nomatch z))];exact ec
end
section
variable {k:Key}
theorem d_pop {v:V}{more:List Value} (I:Inv X aa σ H s) (e:H a=some (.dK kvs)) (ry:av (kV k) u) (l:aN kvs k=some v) (hm:more=[]\/∃ x,more=[x])
  (h:∀ w' s',Inv X aa σ (upd H a (.dK (du kvs k))) s'->av v w'->Q w' s'):wpAny (model X.prog X.w) A (call (.builtin "dict.pop") (.ref a::u::more)) Q E s:=by
 obtain⟨z,hd,vs,rel,dd⟩:=iT I.hok e;obtain⟨w',hw,eY⟩:=dM.some_of (v:=v) (o:=valueAt vs k) (by rw[<- l];exact rel.val k);have hp:(keyPart u).isSome=true:=by
  cases k with
  | inl i=>obtain⟨t,q⟩:=(show ∃ t,u=Value.int i t from ry);subst q;rfl
  | inr x=>obtain⟨t,q⟩:=(show ∃ t,u=Value.str x t from ry);subst q;rfl
 have ha:argsOk "dict.pop" ⟨.ref a::u::more,[]⟩:=by
  rcases hm with q|⟨x,q⟩
  ·subst q;exact PySem.F.args_dict_pop_2 _ _
  ·subst q;exact PySem.F.args_dict_pop_3 _ _ _
 refine call_meetsIn PySem.F.slot_dict_pop dd.typeIs PySem.F.entry_dict_pop ha (meets_dict_pop_there (bJ X.prog X.w) a (kM ry) more hm hp)
  ⟨vs,w',dd,by rw[<- rel.length];exact z,hw,fun h' jA hs=>h w' _ ?_ eY⟩
 have he:∃ q,h'.get? a=some q:=let ⟨q,_,_,hq,_⟩:=jA;⟨q,hq⟩
 exact vh I (by rw[e];exact True.intro) hs he (Ai (Rz (NJ kvs k) z) hd (rel.drop k) jA)
theorem Ly  (I:Inv X aa σ H s) (e:H a=some (.dK kvs)) (h:∀ s',Inv X aa σ (upd H a (.dK [])) s'->Q .none s'):wpAny (model X.prog X.w) A (call (.builtin "dict.clear") [.ref a]) Q E s:=by
 obtain⟨z,hd,vs,rel,dd⟩:=iT I.hok e;refine call_meetsIn PySem.F.slot_dict_clear dd.typeIs PySem.F.entry_dict_clear (PySem.F.args_dict_clear_1 _) (meets_dict_clear (bJ X.prog X.w) a) ⟨vs,dd,by rw[<- rel.length];exact z,fun h' jA hs=>h _ ?_⟩;have he:∃ q,h'.get? a=some q:=let ⟨q,_,_,hq,_⟩:=jA;⟨q,hq⟩
 exact vh (t':=s.toks) I (by rw[e];exact True.intro) hs he (Ai (R9 _) hd .nil jA)
end
def NoSl (i:Expr):Prop:=∀ ov iv,subscripted i false ov iv=operate [ov,iv] (getItem ov iv)
theorem Ng {env:Env}{value slice:Expr}{pos:Pos}
  (hl:typeLookup (.type T) "__getitem__"=pure (some (.builtin id))) (hs:NoSl slice)
  (h:wpAny (model prog w) A (eval value env) (fun o s₁=>wpAny (model prog w) A (eval slice env) (fun i s₂=>s₂.TypeIs o T/\wpAny (model prog w) A (getItem o i) Q E s₂) E s₁) E s) :
  wpAny (model prog w) A (eval (.Subscript value slice pos) env) Q E s:=by
 refine Subscript_ (RJ h (fun o s₁ h₁=>RJ h₁ (fun i s₂ h₂=>?_) fun _ _ x=>x) fun _ _ x=>x);obtain⟨hT,h₂⟩:=h₂;unfold subscriptTail;refine mJ ?_;rw[getitemInPython_of_ne hT.not_modules];refine mJ (TY hT hl ?_);have fin:wpAny (model prog w) A (subscripted slice false o i) (fun r s₃=>wpAny (model prog w) A (letTemporaryGo value o r >>= fun _=>pure r) Q E s₃) E s₂:=by
  rw[hs o i];exact wpAny_operating (RJ h₂ (fun r s₃ h₃=>mJ (wpAny_letTemporaryGo (QW h₃))) fun _ _ x=>x)
 first
  | exact QW (mJ fin)
  | exact mJ (QW (mJ fin))
  | exact mJ fin
theorem Nv  (I:Inv X aa σ H s) (g:fB H a y o):s.TypeIs (.ref a) "dict":=by
 rcases g with⟨kvs,k,e,_,_⟩|⟨kvs,k,b,e,_,_,_⟩
 ·obtain⟨_,_,vs,_,dd⟩:=oM I.hok e
  exact dd.typeIs
 ·obtain⟨_,_,xs,_,dd⟩:=oZ I.hok e
  exact dd.typeIs
def tDGet (td ty:TE):TE:=fun σ H Q=>td σ H fun x H1=>ty σ H1 fun y H2=>∃ a v,x=.ref a/\fB H2 a y (some v)/\Q v H2
def tDIn (ty td:TE):TE:=fun σ H Q=>ty σ H fun y H1=>td σ H1 fun x H2=>∃ a o,x=.ref a/\fB H2 a y o/\Q (.bl o.isSome) H2
def NG (ty td:TE):TE:=fun σ H Q=>ty σ H fun y H1=>td σ H1 fun x H2=>∃ a o,x=.ref a/\fB H2 a y o/\Q (.bl (!o.isSome)) H2
def sDPut (td ty tv:TE):TS:=fun D σ H=>tv σ H fun v H1=>td σ H1 fun x H2=>ty σ H2 fun y H3=>∃ a H4,x=.ref a/\kQ H3 a y v H4/\D.nx σ H4
section
variable {o i value:Expr}{pos aU tpos:Pos}{td ty tv:TE}
theorem cH (hu:X.A.units + 1<cLine) (ho:PE X o td) (hi:PE X i ty) (hs:NoSl i):PE X (.Subscript o i pos) (tDGet td ty):=by
 intro aa s σ H Q I h;refine Ng PySem.F.slot_dict_getitem.lookup hs (thn (ho aa s σ H _ I h) fun u s1=>L2.ex5 fun x H1 I1 rx q1=>thn (hi aa s1 σ H1 _ I1 q1) fun iv s2=>L2.ex5 fun y H2 I2 ry a8=>?_);obtain⟨a,v,ex,g,q2⟩:=a8;subst ex;obtain rfl:u=Value.ref a:=rx;exact⟨Nv I2 g,Mf hu I2 g ry fun w' s3 I3 eY=>⟨v,H2,I3,eY,q2⟩⟩
theorem pc_din (hu:X.A.units + 1<cLine) (hi:PE X i ty) (ho:PE X o td):PC X .In i o (tDIn ty td):=by
 intro aa s σ H Q I h;refine thn (hi aa s σ H _ I h) fun iv s1=>L2.ex5 fun y H1 I1 ry q1=>thn (ho aa s1 σ H1 _ I1 q1) fun u s2=>L2.ex5 fun x H2 I2 rx a8=>?_
 obtain⟨a,ov,ex,g,q2⟩:=a8;subst ex;obtain rfl:u=Value.ref a:=rx;exact d_in hu I2 g ry fun s3 I3=>⟨.bl ov.isSome,H2,I3,O,q2⟩
theorem Fy (hu:X.A.units + 1<cLine) (hi:PE X i ty) (ho:PE X o td):PC X .NotIn i o (NG ty td):=by
 intro aa s σ H Q I h;refine thn (hi aa s σ H _ I h) fun iv s1=>L2.ex5 fun y H1 I1 ry q1=>thn (ho aa s1 σ H1 _ I1 q1) fun u s2=>L2.ex5 fun x H2 I2 rx a8=>?_
 obtain⟨a,ov,ex,g,q2⟩:=a8;subst ex;obtain rfl:u=Value.ref a:=rx;exact L6 hu I2 g ry fun s3 I3=>⟨.bl (!ov.isSome),H2,I3,O,q2⟩
theorem jH (hu:X.A.units + 1<cLine) (ho:PE X o td) (hi:PE X i ty) (hv:PE X value tv) (hs:swapsWith value (some (.Subscript o i aU)) pos.line X.env=pure false) :
  PS X (.Assign [.Subscript o i aU] value pos) (sDPut td ty tv):=by
 intro aa s σ H D I h;refine wpAny_Assign_Subscript (thn (hv aa s σ H _ I h) fun r s1=>L2.ex5 fun v H1 I1 rv q1=>thn (ho aa s1 σ H1 _ I1 q1) fun u s2=>L2.ex5 fun x H2 I2 rx q2=>thn (hi aa s2 σ H2 _ I2 q2) fun iv s3=>L2.ex5 fun y H3 I3 ry a8=>?_) hs;obtain⟨a,H4,ex,g,q3⟩:=a8;subst ex;obtain rfl:u=Value.ref a:=rx;exact MV hu I3 g ry rv fun s4 I4=>⟨σ,H4,I4,q3⟩
end
theorem vt  (h:Heap) (hb:sysModules<h.objs.size):cu P w H (h.push { cls:=.type "dict",data:=.dict #[] }) h.objs.size (.dK []):=
 ⟨R9 _,beq_eq_false_iff_ne.mpr (Ne.symm (Q5 hb)),[],.nil,Heap.DictOf.new h⟩
def tDNewK:TE:=fun _ H Q=>∀ p,H p=none->Q (.ref p) (upd H p (.dK []))
section
variable {pos:Pos}
theorem mC:PE X (.Dict [] [] pos) tDNewK:=fun aa s σ H Q I h=>
 wpAny_Dict_empty ⟨.ref s.heap.objs.size,_,I.laid (a:=s.heap.objs.size) (o:=.dK []) (t':=s.toks) (fun _ _ q=>QU _ q) (QY _) (vt s.heap I.big),O,h _ (I.hok.fresh (QY _))⟩
end
structure M1 (X:Cx) (o:Expr) (m:Str) (aX:Pos) (e:Expr) (aD:Pos):Prop where
 base:attributeBase o m X.env (eval o X.env)=eval o X.env
 few:((backTo aD (starEach [e] X.env)).all (fun x=>!x.1) && (backToKw aD (keywordEach [] X.env)).all (fun x=>x.1.isSome)
  && decide (([e]:List Expr).length + ([]:List Keyword).length + (if ([]:List Keyword).isEmpty then 0 else 1)<30))=true
 line:(aX.endLine == aD.line)=true
 trees:backTo aD (starEach [e] X.env)=[(false,eval e X.env)]
structure M2 (X:Cx) (o:Expr) (m:Str) (aX:Pos) (e f:Expr) (aD:Pos):Prop where
 base:attributeBase o m X.env (eval o X.env)=eval o X.env
 few:((backTo aD (starEach [e,f] X.env)).all (fun x=>!x.1) && (backToKw aD (keywordEach [] X.env)).all (fun x=>x.1.isSome)
  && decide (([e,f]:List Expr).length + ([]:List Keyword).length + (if ([]:List Keyword).isEmpty then 0 else 1)<30))=true
 line:(aX.endLine == aD.line)=true
 trees:backTo aD (starEach [e,f] X.env)=[(false,eval e X.env),(false,eval f X.env)]
def IsD (H:Hp) (a:Addr):Prop:=(∃ kvs,Rd H a (.dK kvs))\/∃ kvs,Rd H a (.dT kvs)
theorem GN  (I:Inv X aa σ H s) (d:IsD H a) :
  s.TypeIs (.ref a) "dict"/\(∀ b,Value.ref a=.ref b->∃ ob,s.heap.get? b=some ob/\ob.dict=none)/\(a == sysModules)=false:=by
 rcases d with⟨kvs,e⟩|⟨kvs,e⟩
 ·obtain⟨_,hd,vs,_,dd⟩:=oM I.hok e
  refine⟨dd.typeIs,fun b q=>?_,hd⟩;cases q
  obtain⟨ob,_,_,h1,h2,_⟩:=dd;exact⟨ob,h1,h2.2.1⟩
 ·obtain⟨_,hd,xs,_,dd⟩:=oZ I.hok e
  refine⟨dd.typeIs,fun b q=>?_,hd⟩;cases q
  obtain⟨ob,_,_,h1,h2,_⟩:=dd;exact⟨ob,h1,h2.2.1⟩
section
variable {d:V}{r:Value}
theorem d_get2  (hu:A.units + 1<cLine) (I:Inv X aa σ H s) (g:fB H a y o) (ry:av y u) (rd:av d r) (h:∀ w' s',Inv X aa σ H s'->av (o.getD d) w'->Q w' s') :
  wpAny (model X.prog X.w) A (call (.builtin "dict.get") [.ref a,u,r]) Q E s:=by
 rcases g with⟨kvs,k,e,ey,l⟩|⟨kvs,k,b,e,ey,eb,l⟩
 ·subst ey
  obtain⟨z,hd,vs,rel,dd⟩:=oM I.hok e;refine call_meetsIn PySem.F.slot_dict_get dd.typeIs PySem.F.entry_dict_get (PySem.F.args_dict_get_3 _ _ _) (meets_dict_get_default (bJ X.prog X.w) a (kM ry) hd r) ⟨_,dd.mapOf,h _ _ (I.tok _) ?_⟩;rw[l];exact(rel.val k).getD rd
 ·subst ey
  cases (show u=Value.ref b from ry)
  obtain⟨z,hd,xs,rel,dd⟩:=oZ I.hok e;refine call_meetsIn PySem.F.slot_dict_get dd.typeIs PySem.F.entry_dict_get (PySem.F.args_dict_get_3 _ _ _) (meetsH_dict_get_default (tupleKind (bJ X.prog X.w)) a b hd r) ⟨tupleKind_room_in1 hu,k,xs,qi I.hok eb,dd,h _ _ (I.tok _) ?_⟩;rw[l];exact(rel.val k).getD rd
end
def tDGet2 (td ty tx:TE):TE:=fun σ H Q=>td σ H fun x H1=>∃ a,x=.ref a/\IsD H1 a/\ty σ H1 fun y H2=>tx σ H2 fun z H3=>∃ o,fB H3 a y o/\Q (o.getD z) H3
def tDPop1 (td ty:TE):TE:=fun σ H Q=>td σ H fun x H1=>∃ a,x=.ref a/\IsD H1 a/\ty σ H1 fun y H2=>∃ kvs k v,H2 a=some (.dK kvs)/\y=kV k/\aN kvs k=some v/\Q v (upd H2 a (.dK (du kvs k)))
section
variable {o f:Expr}{aX aD:Pos}{td ty tx:TE}
theorem E5 (hu:X.A.units + 1<cLine) (ho:PE X o td) (he:PE X e ty) (hf:PE X f tx) (m:M2 X o "get" aX e f aD):PE X (.Call (.Attribute o "get" aX) [e,f] [] aD) (tDGet2 td ty tx):=by
 intro aa s σ H Q I h;refine Ux m.base m.few m.line PySem.F.plainAttrs_dict PySem.F.slot_dict_get PySem.F.type_dict_get (thn (ho aa s σ H _ I h) fun u s1=>L2.ex5 fun x H1 I1 rx a8=>?_);obtain⟨a,ex,d,q1⟩:=a8;subst ex;obtain rfl:u=Value.ref a:=rx;obtain⟨t1,t2,_⟩:=GN I1 d;refine⟨t1,t2,?_⟩;rw[m.trees];refine Calls.callWith_builtin O (Calls.evalArgs_plain (Calls.spliced_cons (thn (he aa s1 σ H1 _ I1 q1) fun iv s2=>L2.ex5 fun y H2 I2 ry q2=>
  Calls.spliced_cons (thn (hf aa s2 σ H2 _ I2 q2) fun fv s3 ⟨z,H3,I3,rz,ov,g,q3⟩=>Calls.spliced_nil ?_))))
 exact d_get2 hu I3 g ry rz fun w' s4 I4 eY=>⟨_,H3,I4,eY,q3⟩
theorem Oz (ho:PE X o td) (he:PE X e ty) (m:M1 X o "pop" aX e aD):PE X (.Call (.Attribute o "pop" aX) [e] [] aD) (tDPop1 td ty):=by
 intro aa s σ H Q I h;refine Ux m.base m.few m.line PySem.F.plainAttrs_dict PySem.F.slot_dict_pop PySem.F.type_dict_pop (thn (ho aa s σ H _ I h) fun u s1=>L2.ex5 fun x H1 I1 rx a8=>?_);obtain⟨a,ex,d,q1⟩:=a8;subst ex;obtain rfl:u=Value.ref a:=rx;obtain⟨t1,t2,_⟩:=GN I1 d;refine⟨t1,t2,?_⟩;rw[m.trees];refine Calls.callWith_builtin O (Calls.evalArgs_plain (Calls.spliced_cons (thn (he aa s1 σ H1 _ I1 q1) fun iv s2 ⟨y,H2,I2,ry,kvs,k,v,ea,ey,l,q2⟩=>Calls.spliced_nil ?_)));subst ey;exact d_pop I2 ea ry l (.inl O) fun w' s3 I3 eY=>⟨v,_,I3,eY,q2⟩
end
end L2
namespace Att
variable {P:Params}{h:Heap}{l:OpenLaw}{n:Nat}
open PySem PySem.W PySem.Calls PyProof.Rows
theorem MX:∀ (ns:List Int) (vs:List Value),WellAll P h vs (ns.map WData.int)->IntsAre vs ns:=by
 intro ns
 induction ns with
 | nil=>
  intro vs w;rw[List.map_nil] at w;cases w
  exact .nil
 | cons n ns ih=>
  intro vs w;rw[List.map_cons] at w;cases w with
  | cons a b=>
   cases a
   exact .cons _ _ (ih _ b)
theorem MM  (hn:l.most=some n){args:List WData}{nk:List Value}
  (kj:l.row.toRowW.claim.pre args=true) (b9:WellAll P h nk args) :
  ∃ a vs ns,nk=[Value.ref a]/\args=[WData.list (ns.map WData.int)]/\h.get? a=some { cls:=.type "list",data:=.seq vs.toArray }/\IntsAre vs ns/\ns.length<=n:=by
 have IP:WShape.hasAll [] args [.list .int]=true:=(pre_splitW kj).1;have hc:l.pre.holds [] { args:=args }=true:=(pre_splitW kj).2;obtain⟨d,r,rfl,h1,h2⟩:=hasAllW_cons IP;obtain rfl:=hasAllW_nil h2;obtain⟨xs,rfl,h3⟩:=hasW_list h1;obtain⟨ns,rfl⟩:=items_int h3;have aj:ns.length<=n:=by
  unfold OpenLaw.pre at hc;have h4:(WTm.not (.lt (.lit (.int (n:Int))) (.len (.arg 0)))).holds [] { args:=[.list (ns.map .int)] }=true:=by
   have h4:=(holds_andW hc).1;rw[hn] at h4;exact h4
  have h5:=condW_of h4 (w_not (w_lt w_lit (w_len_list (w_arg O))));rw[List.length_map] at h5;refine Nat.le_of_not_lt fun q=>?_
  have q':(n:Int)<((ns.length:Nat):Int):=by omega
  first
   | (rw[decide_eq_true q'] at h5;exact absurd h5 (by decide))
   | (simp at h5;omega)
 cases b9 with
 | cons w1 w2=>
  cases w2
  cases w1 with
  | list ho yu=>exact⟨_,_,ns,O,O,ho,MX ns _ yu,aj⟩
theorem NY (l:OpenLaw) (args:List WData):l.row.toRowW.claim.post args (.bool true) args=true:=
 postW_of (r:=l.row.toRowW) (X:=(true == true))
  (show WShape.has [] (.bool true) .bool=true by first|rfl|decide|simp[WShape.has,WShape.arms,WShape.armsAll])
  (show(WTm.eq .res (.lit (.bool true))).value [] { args:=args,res:=some (.bool true),after:=args }=some (.bool (true == true)) from w_eq_bool (w_res O) w_lit) rfl
theorem zgZ {q:Program}{dB:List Str}{XP:(Str->Option Value)->Heap->Prop}{YP:World->Heap->Prop}{d:DefRec}
  (hn:l.most=some n) (lU:d.params.defaults=[])
  (call:∀ (w:World) (s₀ s₁:Shared) (mg mb:Str->Option Value) (fa:Addr) (o:Obj) (pm cd bL:Value) (a:Addr) (vs:List Value) (ns:List Int),
   Ground q dB [] XP w s₀ mg mb s₁.heap->YP w s₁.heap ->
   s₁.heap.get? fa=some o->o.data=.func (docDef d.name d.params d.body d.scope pm cd bL)->s₁.heap.CodeRec cd d.name->mg d.name=some (.ref fa) ->
   s₁.heap.get? a=some { cls:=.type "list",data:=.seq vs.toArray }->IntsAre vs ns->ns.length<=n->s₁.gens=#[] ->
   codeAny (model l.prog w) callerA (.call (.ref fa) ⟨[.ref a],[]⟩) (fun r s'=>r=.ok (.ret (.bool true))/\OldK s₁.heap s'.heap/\s'.os=s₁.os/\AllBare s'.gens) s₁) :
  WalkO q dB XP YP l.row.toRowW d [] (fun f vs=>PySem.call f vs):=by
 intro w s₀ s₁ mg mb G Y fa o pm cd bL dV kV ho hd eS hD qH hg args nk as kj Jc Qt b9 P8;obtain rfl:dV=.none:=Dflts.none hD lU;obtain rfl:kV=.none:=Dflts.noKw hD;obtain⟨a,vs,ns,rfl,rfl,oq,i0,aj⟩:=MM hn kj b9;refine enter_call (codeAny_mono (call w s₀ s₁ mg mb fa o pm cd bL a vs ns G Y ho (fd_plain hd) eS qH oq i0 aj hg) fun r s' hq=>?_);obtain⟨rfl,h2,h3,h4⟩:=hq;exact⟨.inl ⟨.bool true,.bool true,[],O,fun _=>O,.bool true,NY l _,fun _=>⟨List.Pairwise.nil,fun _ hm=>(nomatch hm)⟩⟩,h2,h3,h4⟩
section
variable {prog:Program}{w:World}{A:Around}{E:Value->Shared->Prop}{s:Shared}{K:Frag}
end
end Att
namespace L2
variable {A:Around}{C D T a b f fI it p:Addr}{CX:CXT}{E:Value->Shared->Prop}{H H' H1 H2:Hp}{M:Model}{N XN ps sn ys:List Str}{P prog:Program}{Q:Unit->Shared->Prop}{R:Result->Shared->Prop}{X:Cx}{aP xs:List V}{aU np:Pos}{aa:List (Addr×Obj)}{base h h' h₁:Heap}{bm ds iV sub us:List Value}{c cd ct fl oc pm qI u v:Value}{cap:List (Option Nat)}{ch cs fp:List Addr}{dI:Array (Option Value)}{dd dx:Option Addr}{e gi iter tg:Expr}{env:Env}{es gb:List Expr}{fd:FuncData}{i j n:Nat}{mg:Str->Option Value}{name nm qual x:Str}{newId:String}{o oI ox:Obj}{r:List (Str×NameKind)}{s:Shared}{scope:Scope}{sp:Sp}{st:Stmt}{t:TA}{ta te:TE}{tb:Option (Addr×Value)}{tt:TT}{vs:Array Value}{w:World}{wi:TI}{σ τ:St}
open PySem PySem.Spec PyProof.Rows
theorem Fm:∀ {vs:List Value}{ns:List Int},IntsAre vs ns->aw (ns.map V.int) vs
 | _,_,.nil=>.nil
 | _,_,.cons n t h=>.cons ⟨t,O⟩ (Fm h)
def vi (s:Stmt) (j:Nat):Stmt:=match s with
 | .ClassDef _ _ _ body _ _ _ _ _ _ _=>body.getD j (.Pass ⟨0,0,0,0⟩)
 | _=>.Pass ⟨0,0,0,0⟩
def tE (s:Stmt):Arguments:=match s with
 | .FunctionDef _ a _ _ _ _ _ _ _ _=>a
 | _=>{ posonlyargs:=[],args:=[],vararg:=none,kwonlyargs:=[],kw_defaults:=[],kwarg:=none,defaults:=[] }
def md (s:Stmt):List Stmt:=match s with
 | .FunctionDef _ _ b _ _ _ _ _ _ _=>b
 | _=>[]
def aC (s:Stmt):Scope:=match s with
 | .FunctionDef _ _ _ _ _ _ sc _ _ _=>sc
 | _=>{ kind:=.function,names:=[],isGenerator:=false,isCoroutine:=false }
abbrev CX0:CXT:=fun _ _ _ _ _ _=>False
abbrev E0:XK:=fun _ _ _=>False
theorem AJ:o0 CX0 X E0:=fun _ _ _ _ _ _ _ h=>h.elim
structure Fun (K:PySem.W.Frag) (x qual:Str) (st:Stmt) (f:Addr) (fd:FuncData):Prop where
 ex:∃ (oc:Value) (od:Option Addr) (kV bL pm:Value) (an:Option Addr) (aA ct:Value) (dI:Array (Option Value)),
  fd=PySem.W.fnOf x qual (tE st) (md st) (aC st) .none kV bL pm an aA ct/\K.lookup f=some ⟨oc,od,.func fd,dI⟩/\PySem.W.codeIn K aA qual=true
 kp:PySem.W.keepIn K (.ref f)=true
section
variable {K:PySem.W.Frag}
end
theorem bb {k:Nat} (hr:bj k A):A.units + 1<cLine:=Sk (Nat.add_le_add_left (by decide:1<=64) _) hr.units
theorem pv (i:Nat){pos:Pos} (hN:X.N[i]?=some x:=by rfl) (hv:Vis X.env.scope x:=by first|exact Or.inl rfl|exact Or.inr (Or.inl O)|exact Or.inr (Or.inr O)) (hd:(x == ("__debug__":Str))=false:=by decide)
  (eS:(x == ("__classdict__":Str))=false:=by decide):PE X (.Name x pos) (tVar i):=pe_var hN hv hd eS
theorem mi {A B:Prop} (h:B):if false=true then A else B:=by
 rw[if_neg Ra];exact h
theorem eK {A B:Prop} (h:A):if true=true then A else B:=by
 rw[if_pos rfl];exact h
def ae (H H':Hp):Prop:=∀ b o,H b=some o->H' b=some o
theorem ae.refl (H:Hp):ae H H:=fun _ _ h=>h
theorem ae.trans  (a:ae H H1) (b:ae H1 H2):ae H H2:=fun c o h=>b c o (a c o h)
theorem ae.seq {K:PySem.W.Frag} (e:ae H H') (h:SqL K H a xs):SqL K H' a xs:=by
 rcases h with(h|⟨o,h⟩)|h
 ·exact .inl (.inl (e _ _ h))
 ·exact .inl (.inr ⟨o,e _ _ h⟩)
 ·exact .inr h
section
variable {κ:Type} [DecidableEq κ]
end
def dz (cells:List (Str×Addr)):List (Str×NameKind)->List (Str×Addr)->List (Str×Addr)
 | [],acc=>acc
 | (n,k)::r,acc=>dz cells r (if (k == NameKind.free)=true then(n,(cells.lookup n).getD 0)::acc else acc)
theorem Ah  (h:∀ y∈scope.names,y.2=.free->(env.cells.lookup y.1).isSome=true) :
  closureFor scope env=pure (dz env.cells scope.names []):=by
 simp only[closureFor]
 generalize scope.names=l at h ⊢;generalize ([]:List (Str×Addr))=acc
 induction l generalizing acc with
 | nil=>rfl
 | cons x r ih=>
  obtain⟨n,k⟩:=x;have hr:=fun y hy=>h y (Q6 _ hy)
  by_cases hk:k=.free
  ·subst hk
   obtain⟨c,hc⟩:=Option.isSome_iff_exists.mp (h (n,.free) Q9 O);have rJ:=ih hr ((n,c)::acc);simp only[SW,cellOf,hc,dz,beq_self_eq_true,if_true,Option.getD_some] at rJ ⊢
   exact rJ
  ·have hb:(k == NameKind.free)=false:=by simpa using hk
   have rJ:=ih hr acc;simp only[SW,dz,hb,RE,if_false] at rJ ⊢
   exact rJ
theorem ub {cells:List (Str×Addr)}{x:Str}{c:Addr}:∀ {l:List (Str×NameKind)}{acc:List (Str×Addr)},(∀ y∈l,y.2=.free->(cells.lookup y.1).isSome=true) ->
  (dz cells l acc).lookup x=some c->acc.lookup x=some c\/cells.lookup x=some c
 | [],_,_,h=>.inl h
 | (n,k)::r,acc,hf,h=>by
  have hr:∀ y∈r,y.2=.free->(cells.lookup y.1).isSome=true:=fun y hy=>hf y (Q6 _ hy)
  by_cases hk:k=.free
  ·subst hk
   rcases ub (l:=r) hr (show(dz cells r ((n,(cells.lookup n).getD 0)::acc)).lookup x=some c from h) with q|q
   ·rw[Sf] at q
    by_cases hx:x=n
    ·subst hx
     rw[beq_self_eq_true] at q;obtain⟨c',hc⟩:=Option.isSome_iff_exists.mp (hf (x,.free) Q9 O);have hc:cells.lookup x=some c':=hc;rw[hc] at q ⊢;exact .inr q
    ·rw[beq_eq_false_iff_ne.mpr hx] at q
     exact .inl q
   ·exact .inr q
  ·have hb:¬ (k == NameKind.free)=true:=by simpa using hk
   have h':(dz cells r (if (k == NameKind.free)=true then(n,(cells.lookup n).getD 0)::acc else acc)).lookup x=some c:=h;rw[if_neg hb] at h';exact ub hr h'
theorem tQ {cells:List (Str×Addr)}{x:Str}:∀ {l:List (Str×NameKind)}{acc:List (Str×Addr)},((x,NameKind.free)∈l\/(acc.lookup x).isSome=true)->((dz cells l acc).lookup x).isSome=true
 | [],_,h=>by
  rcases h with h|h
  ·cases h
  ·exact h
 | (n,k)::r,acc,h=>by
  show((dz cells r (if (k == NameKind.free)=true then(n,(cells.lookup n).getD 0)::acc else acc)).lookup x).isSome=true;refine tQ ?_;rcases h with h|h
  ·rcases Rp.mp h with e|e
   ·cases e
    right
    rw[if_pos (by rfl),Sf,beq_self_eq_true];rfl
   ·exact .inl e
  ·right
   by_cases hb:(k == NameKind.free)=true
   ·rw[if_pos hb,Sf]
    cases hx:x == n with
    | true=>rfl
    | false=>exact h
   ·rw[if_neg hb]
    exact h
theorem D7 (c:Bool){n:Str}{k:NameKind} (hx:(x == n)=true):((if c=true then(n,NameKind.cell) else(n,k))::r).lookup x=some (if c=true then .cell else k):=by
 cases c <;> simp[Sf,hx]
theorem FZ (c:Bool){n:Str}{k:NameKind} (hx:(x == n)=false):((if c=true then(n,NameKind.cell) else(n,k))::r).lookup x=r.lookup x:=by
 cases c <;> simp[Sf,hx]
theorem Eo {env:Env}:∀ {names:List (Str×NameKind)}{x:Str},names.lookup x=some .free ->
  (names.map fun(n,k)=>if (k == NameKind.free && env.scope.kind == .function && env.kindOf n == some .cell) then(n,NameKind.cell) else(n,k)).lookup x=some .cell \/
  (names.map fun(n,k)=>if (k == NameKind.free && env.scope.kind == .function && env.kindOf n == some .cell) then(n,NameKind.cell) else(n,k)).lookup x=some .free
 | [],_,h=>by simp at h
 | (n,k)::r,x,h=>by
  have ih:=@Eo env r x;rw[Sf] at h;rw[RN];cases hx:x == n with
  | true=>
   rw[hx] at h;cases h
   dsimp only;rw[D7 _ hx];cases (NameKind.free == NameKind.free && env.scope.kind == .function && env.kindOf n == some .cell) with
   | true=>exact .inl rfl
   | false=>exact .inr rfl
  | false=>
   rw[hx] at h;dsimp only;rw[FZ _ hx];exact ih h
theorem Bd {env:Env}:∀ {names:List (Str×NameKind)}{x:Str}{k':NameKind},(k'=.cell\/k'=.free) ->
  (names.map fun(n,k)=>if (k == NameKind.free && env.scope.kind == .function && env.kindOf n == some .cell) then(n,NameKind.cell) else(n,k)).lookup x=some k' ->
  ∃ k,(k=.free\/k=.cell)/\(x,k)∈names
 | [],_,_,_,h=>by simp at h
 | (n,k)::r,x,k',hk,h=>by
  have ih:=@Bd env r x k' hk;rw[RN] at h;dsimp only at h;cases hx:x == n with
  | true=>
   have e:x=n:=eq_of_beq hx;subst e;rw[D7 _ hx] at h;cases hc:(k == NameKind.free && env.scope.kind == .function && env.kindOf x == some .cell) with
   | true=>
    simp only[RC,beq_iff_eq] at hc
    obtain⟨⟨rfl,_⟩,_⟩:=hc;exact⟨.free,.inl O,Q9⟩
   | false=>
    rw[hc] at h;have h:some k=some k':=h;cases h
    rcases hk with rfl|rfl
    ·exact⟨_,.inr O,Q9⟩
    ·exact⟨_,.inl O,Q9⟩
  | false=>
   rw[FZ _ hx] at h;obtain⟨k2,h1,h2⟩:=ih h;exact⟨k2,h1,Q6 _ h2⟩
def ig (X:Cx) (scope:Scope) (cl:List (Str×Addr)) (C:Addr) (N:List Str) (s:Shared) (H:Hp) (fp:List Addr) (aa:List (Addr×Obj)):Cx:=
 { X with N:=N,s₀:=s,H₀:=H,env:=compEnvC scope cl C X.env,outer:=X.stack,stack:=X.stack,ex:=fp,fn:=fun _=>false,pn:=X.pn++aa,xe:=fun _ _=>False }
def gZ (cap:List (Option Nat)) (σ:St):St:=cap.map fun o=>o.bind fun j=>(σ[j]?).join
def isCF:Option NameKind->Bool
 | some .cell=>true
 | some .free=>true
 | _=>false
def gB (sc:Scope) (XN:List Str):List (Option Nat)->List Str->Bool
 | [],[]=>true
 | some j::r,x::xs=>(XN[j]? == some x) && (sc.names.lookup x == some NameKind.free) && gB sc XN r xs
 | none::r,_::xs=>gB sc XN r xs
 | _,_=>false
def dL (osc sc:Scope) (XN N:List Str) (cap:List (Option Nat)):Bool:=
 (sc.kind == ScopeKind.function) && sc.names.all (fun y=>y.2 != NameKind.cell) && sc.names.all (fun y=>y.2 != NameKind.local || sc.names.lookup y.1 == some NameKind.local) &&
 sc.names.all (fun y=>y.2 != NameKind.free || isCF (osc.names.lookup y.1)) && gB sc XN cap N
theorem wd {sc:Scope}{XN:List Str}:∀ {cap:List (Option Nat)}{N:List Str},gB sc XN cap N=true->cap.length=N.length
 | [],[],_=>rfl
 | some _::r,_::xs,h=>by
  simp only[gB,RC] at h
  simp[wd h.2]
 | none::r,_::xs,h=>by
  simp only[gB] at h
  simp[wd h]
 | [],_::_,h=>by simp[gB] at h
 | some _::_,[],h=>by simp[gB] at h
 | none::_,[],h=>by simp[gB] at h
theorem wb {sc:Scope}{XN:List Str}:∀ {cap:List (Option Nat)}{N:List Str}{i j:Nat}{x:Str},gB sc XN cap N=true->cap[i]?=some (some j)->N[i]?=some x->XN[j]?=some x/\sc.names.lookup x=some .free
 | [],_,i,_,_,_,h,_=>by simp at h
 | some _::r,y::xs,0,j,x,h,h1,h2=>by
  simp only[gB,RC,beq_iff_eq] at h
  simp at h1 h2
  subst h1;subst h2
  exact⟨h.1.1,h.1.2⟩
 | some _::r,y::xs,i + 1,j,x,h,h1,h2=>by
  simp only[gB,RC] at h
  exact wb (i:=i) h.2 (by simpa using h1) (by simpa using h2)
 | none::r,y::xs,0,j,x,h,h1,h2=>by simp at h1
 | none::r,y::xs,i + 1,j,x,h,h1,h2=>by
  simp only[gB] at h
  exact wb (i:=i) h (by simpa using h1) (by simpa using h2)
 | some _::_,[],_,_,_,h,_,_=>by simp[gB] at h
 | none::_,[],_,_,_,h,_,_=>by simp[gB] at h
theorem Inv.clos (I:Inv X aa σ H s) (ok:dL X.env.scope scope X.N N cap=true):∀ y∈scope.names,y.2=.free->(X.env.cells.lookup y.1).isSome=true:=fun y hy hf=>by
 simp only[dL,RC,Sg] at ok
 have h:=ok.1.2 y hy;rw[hf] at h;have h':isCF (X.env.scope.names.lookup y.1)=true:=by simpa using h
 have hk:X.env.kindOf y.1=some .cell\/X.env.kindOf y.1=some .free:=by
  show X.env.scope.names.lookup y.1=_\/X.env.scope.names.lookup y.1=_;cases e:X.env.scope.names.lookup y.1 with
  | none=>rw[e] at h';cases h'
  | some k=>
   rw[e] at h';cases k <;> first|exact .inl rfl|exact .inr rfl|cases h'
 obtain⟨c,e⟩:=I.ok.has y.1 hk;rw[e];rfl
theorem Inv.comp (I:Inv X aa σ H s) (ok:dL X.env.scope scope X.N N cap=true) (f:∀ b∈fp,bw X aa H b) (fo:∀ b∈fp,∃ o,s.heap.get? b=some o){tk:Nat}{J5:Obj}
  (hn:h₁.Ns (s.heap.push { cls:=.type "list",data:=.seq #[] }).objs.size (fun _=>none))
  (hs:Heap.SameBut (s.heap.push { cls:=.type "list",data:=.seq #[] }).objs.size ((s.heap.push { cls:=.type "list",data:=.seq #[] }).push J5) h₁) :
  Inv (ig X scope (dz X.env.cells scope.names []) (s.heap.push { cls:=.type "list",data:=.seq #[] }).objs.size N { s with heap:=s.heap.push { cls:=.type "list",data:=.seq #[] } } (upd H s.heap.objs.size (.lst [])) fp aa)
   [] (gZ cap σ) (upd H s.heap.objs.size (.lst [])) { s with heap:=h₁,toks:=tk }:=by
 have ly:=ok;simp only[dL,RC,Sg,beq_iff_eq] at ok
 obtain⟨⟨⟨⟨a9,bu⟩,_⟩,_⟩,eZ⟩:=ok;have cl:=I.clos ly;have hC:(s.heap.push { cls:=.type "list",data:=.seq #[] }).objs.size=s.heap.objs.size + 1:=Rr ..;generalize BE:(s.heap.push { cls:=.type "list",data:=.seq #[] }).objs.size=C at hn hs hC ⊢;have below:∀ b o,s.heap.get? b=some o->b≠C/\b≠s.heap.objs.size:=fun b o e=>by
  have:=QZ e;exact⟨by rw[hC];exact Q5 (RM this),Q5 this⟩
 have old:∀ b o,s.heap.get? b=some o->h₁.get? b=some o:=fun b o e=>hs.extBut b o (below b o e).1 (QU _ (QU _ e))
 have BD:∀ b o,s.heap.get? b=some o->(s.heap.push { cls:=.type "list",data:=.seq #[] }).get? b=some o:=fun b o e=>QU _ e
 have rW:∀ b o,(s.heap.push { cls:=.type "list",data:=.seq #[] }).get? b=some o->h₁.get? b=some o:=fun b o e=>by
  have:b<C:=by rw[<- BE];exact QZ e
  exact hs.extBut b o (Q5 this) (QU _ e)
 have hD:H s.heap.objs.size=none:=I.hok.fresh (QY _);have gN:∀ b o,s.heap.get? b=some o->H b=none->upd H s.heap.objs.size (.lst []) b=none:=fun b o e n=>by rw[ai (below b o e).2];exact n
 have JO:upd H s.heap.objs.size (.lst []) C=none:=by
  rw[ai (by rw[hC];exact RV (RW _))];exact I.hok.fresh (by rw[hC];exact RO _)
 have aL:∀ x c,(dz X.env.cells scope.names []).lookup x=some c->X.env.cells.lookup x=some c:=fun x c e=>by
  rcases ub cl e with q|q
  ·simp at q
  ·exact q
 have l9:∀ x c,(dz X.env.cells scope.names []).lookup x=some c->∃ v o,s.heap.IsCell c v/\s.heap.get? c=some o:=fun x c e=>by
  obtain⟨v,q⟩:=I.cell x c (aL x c e);obtain⟨o,ho,_⟩:=id q;exact⟨v,o,q,ho⟩
 have xL:HOk X.prog X.w (upd H s.heap.objs.size (.lst [])) h₁:=I.hok.laid old (QY _) (show cu X.prog X.w _ h₁ s.heap.objs.size (.lst []) from⟨R9 _,[],0,.nil,rW _ _ (Q1 _ O)⟩);have zx:∀ b∈frs X.stack,∃ o,s.heap.get? b=some o:=fun b hb=>by
  obtain⟨_,o,ho,_⟩:=I.stack.mem hb;exact⟨o,ho⟩
 refine⟨⟨I.ok.mod,a9,I.ok.glob,I.ok.blt,S0 BE,fun y z c h1 h2=>I.ok.inj y z c (aL y c h1) (aL z c h2),fun y hy=>?_,fun y c hf _=>Bool.noConfusion hf,I.hdAt.new hD,I.ok.frames,.inl O,fun b hb=>?_,
   fun b o e=>⟨BD b o (I.bs b o e).1,gN b o (I.bs b o e).1 (I.bs b o e).2⟩,?_,fun b o e hb=>?_,fun b hb Hh=>?_,?_,fun b hb=>?_⟩,
  rfl,I.bare,Un.kept rW,⟨_,hn,fun i x v h1 h2 h3=>?_⟩,fun x c e=>?_,JO,fun x c e=>?_,fun p hp=>?_,xL,?_⟩
 ·-- has
  have hy:(relabel scope X.env).names.lookup y=some .cell\/(relabel scope X.env).names.lookup y=some .free:=hy;have:(y,NameKind.free)∈scope.names:=by
   rcases hy with q|q
   ·obtain⟨k,hk,hm⟩:=Bd (.inl O) q
    rcases hk with rfl|rfl
    ·exact hm
    ·exact absurd (show(NameKind.cell != NameKind.cell)=true from bu _ hm) (by decide)
   ·obtain⟨k,hk,hm⟩:=Bd (.inr O) q
    rcases hk with rfl|rfl
    ·exact hm
    ·exact absurd (show(NameKind.cell != NameKind.cell)=true from bu _ hm) (by decide)
  exact Option.isSome_iff_exists.mp (tQ (.inl this))
 ·-- exf
  obtain⟨o,e⟩:=fo b hb;exact⟨(below b o e).1,fun x c q=>(f b hb).2.2.2.2.1 x c (aL x c q)⟩
 ·-- bsz
  show X.base.objs.size<=(s.heap.push { cls:=.type "list",data:=.seq #[] }).objs.size;rw[Rr];exact Uy (Rz I.ok.bsz I.sz)
 ·-- noex
  rcases(f b hb).2.2.2.1 with q|q
  ·exact I.ok.noex b o e q
  ·exact absurd (Ri (QZ (I.ok.bs b o e).1) q) (Rl _)
 ·-- exfs
  rcases Rp.mp (I.stkSub b Hh) with q|q
  ·exact(f b hb).2.1 q
  ·exact(f b hb).2.2.1 q
 ·-- funs
  exact I.stack.of_keeps fun b o e _=>⟨o,BD b o e,O⟩
 ·-- frf
  obtain⟨o,e⟩:=zx b hb;exact gN b o e (I.stkFree b hb)
 ·-- loc
  have hi:∃ j,cap[i]?=some (some j)/\σ[j]?=some (some v):=by
   unfold gZ at h2;rw[Q4] at h2;cases e:cap[i]? with
   | none=>rw[e] at h2;cases h2
   | some o=>
    rw[e] at h2;cases o with
    | none=>cases h2
    | some j=>
     refine⟨j,O,?_⟩;have fH:(σ[j]?).join=some v:=Option.some.inj h2;cases e2:σ[j]? with
     | none=>rw[e2] at fH;cases fH
     | some o2=>rw[e2] at fH;rw[show o2=some v from fH]
  obtain⟨j,hj,hv⟩:=hi;obtain⟨hX,m9⟩:=wb eZ hj h1;have i6:(x,NameKind.free)∈scope.names:=PySem.mem_of_lookup m9;have rZ:=ly;simp only[dL,RC,Sg] at rZ
  have h':isCF (X.env.scope.names.lookup x)=true:=by simpa using rZ.1.2 _ i6
  have hk:X.env.scope.names.lookup x=some .cell\/X.env.scope.names.lookup x=some .free:=by
   cases e:X.env.scope.names.lookup x with
   | none=>rw[e] at h';cases h'
   | some k=>
    rw[e] at h';cases k <;> first|exact .inl rfl|exact .inr rfl|cases h'
  obtain⟨m,_,hl⟩:=I.loc;obtain⟨u,ru,lk⟩:=hl j x v hX hv (hk.elim (fun q=>.inr (.inl q)) fun q=>.inr (.inr q));refine⟨u,ru,.inr ⟨Eo m9,?_⟩⟩;rcases lk with⟨q,_⟩|⟨_,c,hc,mP⟩
  ·have q':X.env.scope.names.lookup x=some .local:=q
   rcases hk with z|z
   ·rw[z] at q';cases q'
   ·rw[z] at q';cases q'
  ·obtain⟨c',j7⟩:=Option.isSome_iff_exists.mp (tQ (cells:=X.env.cells) (acc:=[]) (.inl i6))
   have:c'=c:=by
    have:=aL x c' j7;rw[hc] at this;exact(Option.some.inj this).symm
   subst this;obtain⟨o,ho,hd⟩:=mP;exact⟨c',j7,o,old c' o ho,hd⟩
 ·-- cell
  obtain⟨v,o,⟨o',ho,hd⟩,_⟩:=l9 x c e;exact⟨v,o',old c o' ho,hd⟩
 ·-- freeC
  obtain⟨v,o,_,ho⟩:=l9 x c e;exact gN c o ho (I.freeC x c (aL x c e))
 ·-- aa
  have Hu:p∈X.pn++aa:=by simpa [ig] using hp
  obtain⟨e,n,ne,nf,d⟩:=I.pin p Hu;refine⟨old _ _ e,gN _ _ e n,(below _ _ e).1,fun z=>?_,d⟩;rcases Rp.mp (I.stkSub p.1 z) with q|q
  ·exact ne q
  ·exact nf q
 ·-- len
  show(gZ cap σ).length=N.length;unfold gZ;rw[QT];exact wd eZ
theorem Le {cq:Expr}{pos:Pos}{it acc:Value} (J:Nat->Shared->Prop)
  (turn:∀ n s,J n s->wpAny (model prog w) A (pyNext it) (fun r s₁=>match r with
   | none=>R (.ok .next) s₁
   | some v=>wpAny (model prog w) A (letOwnedTupleGo cq it v) (fun _ s₂=>wpAny (model prog w) A (assign cq env v) (fun _ s₃=>
     wpAny (model prog w) A (forIn gb true fun c r=>if r=true then do let ok <- isTrue c env (eval c env);pure (ForInStep.yield ok) else pure (ForInStep.yield r)) (fun ok s₄=>
      if ok=true then wpAny (model prog w) A (eval gi env) (fun x s₅=>
       wpAny (model prog w) A (call (.builtin "list.append") [acc,x]) (fun _ s₆=>∃ m,m<n/\J m s₆) (fun _ _=>False) s₅) (fun _ _=>False) s₄
      else ∃ m,m<n/\J m s₄) (fun _ _=>False) s₃) (fun _ _=>False) s₂) (fun _ _=>False) s₁) (fun _ _=>False) s)
  (n:Nat) (h:J n s):codeAny (model prog w) A (.compLoop (.ListComp gi [⟨cq,iter,gb,0⟩] scope pos) 0 it acc env) R s:=by
 have no:∀ {E:Value->Shared->Prop} (e:Value) (s':Shared),(fun(_:Value) (_:Shared)=>False) e s'->E e s':=fun _ _ z=>z.elim
 refine codeAny_loop O J (fun n s hI=>?_) n h;show wpAny _ A ((compTurn (.ListComp gi [⟨cq,iter,gb,0⟩] scope pos) 0 it acc env).onRaise (fun x=>do noteFrame x env;theTreesLotGoes x)) _ _ s;refine wpAny_noted ?_;rw[compTurn_list];refine mJ (SI (mJ (RJ (turn n s hI) (fun r s₁ h₁=>?_) no)));cases r with
 | none=>exact QW h₁
 | some v=>
  refine mJ (RJ h₁ (fun _ s₂ h₂=>mJ (RJ h₂ (fun _ s₃ h₃=>mJ (RJ h₃ (fun ok s₄ h₄=>?_) no)) no)) no);cases ok with
  | false=>exact QW ⟨O,h₄⟩
  | true=>
   exact mJ (mJ (RJ h₄ (fun x s₅ h₅=>mJ (RJ h₅ (fun _ s₆ h₆=>QW (QW ⟨O,h₆⟩)) no)) no))
def PIf (X:Cx) (cs:List Expr) (t:TT):Prop:=
 ∀ (aa:List (Addr×Obj)) (s:Shared) (σ:St) (H:Hp) (Q:Bool->Hp->Prop),Inv X aa σ H s->t σ H Q ->
  wpAny (model X.prog X.w) X.A (forIn cs true fun c r=>if r=true then do let ok <- isTrue c X.env (eval c X.env);pure (ForInStep.yield ok) else pure (ForInStep.yield r)) (TP X aa σ Q) X.xe s
def cK:TT:=fun _ H Q=>Q true H
theorem cy:PIf X [] cK:=fun _ _ _ H _ I h=>wpAny_tests_nil ⟨H,I,h⟩
theorem vM {c:Expr}{t:TT} (h:PT X c t):PIf X [c] t:=fun aa s σ H Q I hq=>wpAny_tests_one (h aa s σ H Q I hq)
def jK (J:It) (D:Addr) (τ:St) (H:Hp) (g:TG) (tt:TT) (te:TE) (Q:VK):Prop:=
 ∃ W:Nat->Nat->St->Hp->Prop,(∃ m,W 0 m τ H)/\∀ i m τ H,W i m τ H ->
  (J.stop i H/\Q (.ref D) H)\/(J.go i H/\∃ M:St->Hp->Prop,(∀ τ' H',M τ' H'->∃ m',m'<m/\W (i + 1) m' τ' H')/\∀ x H',J.yld i H x H'->g x τ H' fun τ2 H2=>tt τ2 H2 fun b H3=>
   if b=true then te τ2 H3 fun y H4=>∃ ys,H4 D=some (.lst ys)/\ys.length<sizeLine/\M τ2 (upd H4 D (.lst (ys++[y]))) else M τ2 H3)
def tComp (wi:TI) (cap:List (Option Nat)) (g:TG) (tt:TT) (te:TE):TE:=fun σ H Q=>wi σ H fun J H1=>∀ D,H1 D=none->jK J D (gZ cap σ) (upd H1 D (.lst [])) g tt te Q
section
variable {pos:Pos}{g:TG}
theorem Fg {J:It}{tn:Nat->Heap->Prop}{Q:VK}{RR:Value->Addr->Result->Shared->Prop}
  (hc:X.calm=true) (ok:dL X.env.scope scope X.N N cap=true)
  (hg:∀ cl C s H fp aa,PG (ig X scope cl C N s H fp aa) tg g) (hf:∀ cl C s H fp aa,PIf (ig X scope cl C N s H fp aa) gb tt) (he:∀ cl C s H fp aa,PE (ig X scope cl C N s H fp aa) gi te)
  (I:Inv X aa σ H s) (T:k9 X.prog X.w X.K tg J fp it tn) (st:tn 0 s.heap) (f:∀ b∈fp,bw X aa H b)
  (q:∀ D,H D=none->jK J D (gZ cap σ) (upd H D (.lst [])) g tt te Q)
  (fin:∀ D C H' s' m,Inv X aa σ H' s'->bw X aa H' C->s'.heap.Ns C m->Q (.ref D) H'->RR (.ref D) C (.ok .next) s') :
  wpAny (model X.prog X.w) X.A (newList []) (fun acc s₃=>wpAny (model X.prog X.w) X.A (newFunctionEnv scope X.env.globals (dz X.env.cells scope.names []) [] X.env.qual none .none (some X.env)) (fun qQ s₄=>
   codeAny (model X.prog X.w) X.A (.compStart (.ListComp gi [⟨tg,iter,gb,0⟩] scope pos) 0 (.ref it) acc { qQ with scope:=relabel scope X.env }) (RR acc qQ.locals) s₄) E s₃) E s:=by
 have lI:=ok;simp only[dL,RC,Sg,beq_iff_eq] at lI
 obtain⟨⟨⟨⟨a9,bu⟩,_⟩,_⟩,eZ⟩:=lI;refine Su (Uf (fun y hy=>by simpa using bu y hy) (by intro y hy;simp at hy) (fun h₁ rg m4=>?_) a9);dsimp only at rg m4 ⊢;have fo:∀ b∈fp,∃ o,s.heap.get? b=some o:=fun b hb=>let ⟨o,e,_⟩:=T.obj _ _ st b hb;⟨o,e⟩
 have J0:=I.comp (h₁:=h₁) (tk:=s.toks + ([]:List (Str×Value)).length) ok f fo rg m4;have i9:H s.heap.objs.size=none:=I.hok.fresh (QY _);obtain⟨W,⟨m0,w0⟩,turn⟩:=q _ i9;generalize hY:ig X scope (dz X.env.cells scope.names []) (s.heap.push { cls:=.type "list",data:=.seq #[] }).objs.size N { s with heap:=s.heap.push { cls:=.type "list",data:=.seq #[] } } (upd H s.heap.objs.size (.lst [])) fp aa=Y at J0;have below:∀ b∈fp,b<s.heap.objs.size:=fun b hb=>let ⟨o,e⟩:=fo b hb;QZ e
 have cl:=I.clos ok;have gj:∀ {H':Hp},(∀ b∈fp,H' b=none)->∀ b∈fp,bw Y [] H' b:=fun {H'} hn b hb=>by
  subst hY;refine⟨hn b hb,?_,fun z=>?_,.inl hb,fun x c e=>?_,fun p hp=>?_⟩
  ·show b≠(s.heap.push { cls:=.type "list",data:=.seq #[] }).objs.size
   rw[Rr];exact Q5 (RM (below b hb))
  ·rcases Rp.mp (I.stkSub b z) with q|q
   ·exact(f b hb).2.1 q
   ·exact(f b hb).2.2.1 q
  ·refine(f b hb).2.2.2.2.1 x c ?_
   rcases ub cl e with z|z
   ·simp at z
   ·exact z
  ·exact(f b hb).2.2.2.2.2 p (by simpa [ig] using hp)
 have Kg:PG Y tg g:=hY ▸ hg _ _ _ _ _ _;have HJ:PIf Y gb tt:=hY ▸ hf _ _ _ _ _ _;have Ij:PE Y gi te:=hY ▸ he _ _ _ _ _ _;have e1:Y.prog=X.prog:=by subst hY;rfl
 have e2:Y.w=X.w:=by subst hY;rfl
 have e3:Y.K=X.K:=by subst hY;rfl
 have e4:Y.calm=true:=by subst hY;exact hc
 have e5:Y.A=X.A:=by subst hY;rfl
 have e6:Y.env=compEnvC scope (dz X.env.cells scope.names []) (s.heap.push { cls:=.type "list",data:=.seq #[] }).objs.size X.env:=by subst hY;rfl
 have e7:Y.xe=fun _ _=>False:=by subst hY;rfl
 have xz:∀ b∈fp,upd H s.heap.objs.size (.lst []) b=none:=fun b hb=>by rw[ai (Q5 (below b hb))];exact(f b hb).1
 have st0:tn 0 h₁:=T.keep _ _ _ st fun b hb o e=>m4.extBut b o (by
  have:=below b hb;rw[Rr];exact Q5 (RM this)) (QU _ (QU _ e))
 have loop:∀ s₃:Shared,s₃={ s with heap:=h₁,toks:=s.toks + ([]:List (Str×Value)).length } ->
   codeAny (model X.prog X.w) X.A (.compLoop (.ListComp gi [⟨tg,iter,gb,0⟩] scope pos) 0 (.ref it) (.ref s.heap.objs.size)
    (compEnvC scope (dz X.env.cells scope.names []) (s.heap.push { cls:=.type "list",data:=.seq #[] }).objs.size X.env)) (RR (.ref s.heap.objs.size) (s.heap.push { cls:=.type "list",data:=.seq #[] }).objs.size) s₃:=by
  rintro s₃ rfl
  refine Le (fun n s'=>∃ i τ H',Inv Y [] τ H' s'/\tn i s'.heap/\(∀ b∈fp,H' b=none)/\W i n τ H') ?_ m0 ⟨0,_,_,J0,st0,xz,w0⟩;rintro n s' ⟨i,τ,H',I',c5,BU,w'⟩
  rcases turn i n τ H' w' with⟨stop,qn⟩|⟨go,M,hM,step⟩
  ·have z:=T.done Y e1 e2 e3 e4 i [] s' τ H' (fun _ _=>False) I' (gj BU) c5 stop
   rw[e5] at z;refine thn z fun r s4 ⟨hr,I4⟩=>?_
   subst hr;subst hY;obtain⟨m,lC,_⟩:=I4.loc;have ho:s4.os=s.os:=I4.os;have un:Un (frs X.stack) fp H H' s.heap s4.heap:=by
    have u1:Un (frs X.stack) fp H (upd H s.heap.objs.size (.lst [])) s.heap (s.heap.push { cls:=.type "list",data:=.seq #[] }):=Un.laid (fun b u e=>QU _ e) (QY _) i9;exact u1.trans I4.base
   have IX:Inv X aa σ H' s4:=I.call' ho un I4.hok I4.bare fun b hb=>⟨(f b hb).2.2.2.1,(f b hb).2.1,(f b hb).2.2.2.2.1,(f b hb).2.2.2.2.2⟩
   exact fin _ _ H' s4 m IX (I.fpOk (by rw[Rr];exact RO _) I4.free) lC qn
  ·have z:=T.item Y e1 e2 e3 e4 i [] s' τ H' (fun _ _=>False) I' (gj BU) c5 go
   rw[e5] at z;refine thn z fun r s4 ⟨u,hr,h4⟩=>?_
   subst hr;refine thn h4 fun _ s5=>L2.ex5 fun x H5 I5 r5 a8=>?_
   obtain⟨y5,eW,wX⟩:=a8;have yJ:=I5.pinned (gj wX) (T.obj _ _ eW);have zg:=Kg _ s5 τ H5 x u _ yJ r5 (step x H5 y5);rw[e1,e2,e5,e6,e7] at zg;refine thn zg fun _ s6 ⟨τ6,H6,I6,q6⟩=>?_
   have zf:=HJ _ s6 τ6 H6 _ I6 q6;rw[e1,e2,e5,e6,e7] at zf;refine thn zf fun b s7=>L2.ex3 fun H7 I7 q7=>?_
   have again:∀ {H8:Hp}{s8:Shared},Inv Y ([]++tX fp s5.heap) τ6 H8 s8->M τ6 H8->∃ m,m<n/\∃ i τ H',Inv Y [] τ H' s8/\tn i s8.heap/\(∀ b∈fp,H' b=none)/\W i m τ H':=fun {H8 s8} I8 w8=>by
    obtain⟨m',hm,w8⟩:=hM _ _ w8;refine⟨m',hm,i + 1,τ6,H8,I8.unpinned,T.keep _ _ _ eW fun b hb o e=>(I8.pin (b,o) (Q8 _ (Q8 _ (vR hb e)))).1,fun b hb=>?_,w8⟩;obtain⟨o,e,d⟩:=T.obj _ _ eW b hb;exact(I8.pin (b,o) (Q8 _ (Q8 _ (vR hb e)))).2.1
   cases b with
   | false=>exact again I7 q7
   | true=>
    have ze:=Ij _ s7 τ6 H7 _ I7 q7;rw[e1,e2,e5,e6,e7] at ze;refine thn ze fun v s8=>L2.ex5 fun y H8 I8 r8 a8=>?_
    obtain⟨ys,hD,hz,q8⟩:=a8;have za:=mf (X:=Y) _ s8 τ6 H8 (.ref s.heap.objs.size) [y] (.ref s.heap.objs.size) [v] (fun _ H9=>H9=upd H8 s.heap.objs.size (.lst (ys++[y]))) I8 O (.cons r8 .nil) ⟨_,ys,y,O,O,hD,hz,O⟩;rw[e1,e2,e5,e7] at za;refine thn za fun _ s9 ⟨_,H9,I9,_,e9⟩=>?_
    subst e9;exact again I9 q8
 exact codeAny_compStart_list (loop _ O) (T.self X.A 0 _ _ _ st0 (loop _ O))
theorem bM {osc:Scope} (h1:X.env.scope=osc) (h2:X.N=XN) (ok:dL osc scope XN N cap=true):dL X.env.scope scope X.N N cap=true:=by
 rw[h1,h2];exact ok
theorem cY (hc:X.calm=true) (ok:dL X.env.scope scope X.N N cap=true) (hi:PI X tg iter wi)
  (hg:∀ cl C s H fp aa,PG (ig X scope cl C N s H fp aa) tg g) (hf:∀ cl C s H fp aa,PIf (ig X scope cl C N s H fp aa) gb tt) (he:∀ cl C s H fp aa,PE (ig X scope cl C N s H fp aa) gi te)
  (hs:∀ x,foldedSetIterable iter X.env x=pure x:=by intro _;rfl):PE X (.ListComp gi [⟨tg,iter,gb,0⟩] scope pos) (tComp wi cap g tt te):=by
 intro aa s σ H Q I h;have lI:=ok;simp only[dL,RC,Sg,beq_iff_eq] at lI
 obtain⟨⟨⟨⟨a9,_⟩,gu⟩,_⟩,_⟩:=lI;rw[eval_ListComp];refine TM (use:=none) O hs (Ah (I.clos ok)) a9 (fun y hy hl=>by simpa [hl] using gu y hy) (thn (hi aa s σ H _ I h) fun xv s1 h1=>thn h1 fun uJ s2 h2=>?_);obtain⟨it,fp,tn,J,H2,e,I2,T,iH,f2,q⟩:=h2;subst e;refine Fg (RR:=fun acc C=>compPost (model X.prog X.w) X.A X.xe none (EP X aa σ Q) acc C) hc ok hg hf he I2 T iH f2 q ?_;intro D C H' s' m I' fC hn qn;obtain⟨f0,f1,Hf,f3,f4,f5⟩:=fC;exact⟨m,hn,fun h' sb=>⟨.ref D,H',I'.turned (t':=s'.toks) (fun b o hb e=>sb.extBut b o hb e) f0 f1 f3 f4 f5,O,qn⟩⟩
theorem pb {rB:Pos} (hN:X.N.Nodup) (qE:X.N[i]?=some x) (hx:X.env.scope.names.lookup x=some .local) (hc:X.calm=true) (ok:dL X.env.scope scope X.N N cap=true) (hi:PI X tg iter wi)
  (hg:∀ cl C s H fp aa,PG (ig X scope cl C N s H fp aa) tg g) (hf:∀ cl C s H fp aa,PIf (ig X scope cl C N s H fp aa) gb tt) (he:∀ cl C s H fp aa,PE (ig X scope cl C N s H fp aa) gi te)
  (hsw:swapsWith (.ListComp gi [⟨tg,iter,gb,0⟩] scope pos) (some (.Name x aU)) rB.line X.env=pure true)
  (hs:∀ x,foldedSetIterable iter X.env x=pure x:=by intro _;rfl) :
  PS X (.Assign [.Name x aU] (.ListComp gi [⟨tg,iter,gb,0⟩] scope pos) rB) (tAsg (tComp wi cap g tt te) (bA i)):=by
 intro aa s σ H D I h;have lI:=ok;simp only[dL,RC,Sg,beq_iff_eq] at lI
 obtain⟨⟨⟨⟨a9,_⟩,gu⟩,_⟩,_⟩:=lI;rw[exec_Assign_Name_used _ _ _ _ hsw];refine mJ (SI (mJ ?_));show wpAny _ X.A (do let _ <- comprehension (.ListComp gi [⟨tg,iter,gb,0⟩] scope pos) scope X.env _ (newList []) false (eval iter X.env) (some (assign (.Name x aU) X.env))) _ _ s;refine mJ (RJ (TM (use:=some (assign (.Name x aU) X.env)) (Q:=fun _ s'=>SP X aa D .next s') O hs (Ah (I.clos ok)) a9 (fun y hy hl=>by simpa [hl] using gu y hy)
  (thn (hi aa s σ H _ I h) fun xv s1 h1=>thn h1 fun uJ s2 h2=>?_)) (fun _ s' hq=>QW (QW hq)) fun _ _ e=>e)
 obtain⟨it,fp,tn,J,H2,e,I2,T,iH,f2,q⟩:=h2;subst e;refine Fg (RR:=fun acc C=>compPost (model X.prog X.w) X.A X.xe (some (assign (.Name x aU) X.env)) (fun _ s'=>SP X aa D .next s') acc C) hc ok hg hf he I2 T iH f2 q ?_;intro Dd C H' s' m I' fC hn qn;obtain⟨f0,f1,Hf,f3,f4,f5⟩:=fC;show wpAny _ X.A (assign (.Name x aU) X.env (.ref Dd)) _ _ _;refine Uu (E6 I' hN qE (.inl hx) (v:=.ref Dd) O (fun s3 I3 ⟨a,sb,ha⟩=>?_) (.inr hx));have JI:C≠a:=by
  rcases ha with z|z
  ·rw[z];exact f1
  ·exact fun w=>f4 x a z w.symm
 refine⟨m,hn.sameBut sb JI,fun h' JL=>?_⟩;exact⟨_,H',I3.turned (t':=s3.toks) (fun b o hb e=>JL.extBut b o hb e) f0 f1 f3 f4 f5,qn⟩
theorem fW {K:PySem.W.Frag}{Q:VK} (Pv:Nat->St->Hp->Prop) (h0:Pv 0 τ H) (hl:∀ i τ H,i<=xs.length->Pv i τ H->SqL K H a xs)
  (hs:∀ i x τ H,xs[i]?=some x->Pv i τ H->g x τ H fun τ2 H2=>tt τ2 H2 fun b H3=>
   if b=true then te τ2 H3 fun y H4=>∃ ys,H4 D=some (.lst ys)/\ys.length<sizeLine/\Pv (i + 1) τ2 (upd H4 D (.lst (ys++[y]))) else Pv (i + 1) τ2 H3)
  (hd:∀ τ H,Pv xs.length τ H->Q (.ref D) H):jK (Itl K a) D τ H g tt te Q:=
 wk_ (n:=xs.length) Pv h0 (fun i σ H hi p=>⟨fun h=>⟨xs,xs[i],hl i σ H hi p,by simp[h]⟩,fun h=>⟨xs,hl i σ H hi p,h⟩⟩) (fun i x σ H H' hi p y=>by
 obtain⟨rfl,y⟩:=y;exact hs i x σ _ (y xs (hl i σ _ (RS hi) p)) p) hd
theorem wg {lo:Int}{Q:VK} (Pv:Nat->St->Hp->Prop) (h0:Pv 0 τ H)
  (hs:∀ i τ H,i<n->Pv i τ H->g (.int (lo + i)) τ H fun τ2 H2=>tt τ2 H2 fun b H3=>
   if b=true then te τ2 H3 fun y H4=>∃ ys,H4 D=some (.lst ys)/\ys.length<sizeLine/\Pv (i + 1) τ2 (upd H4 D (.lst (ys++[y]))) else Pv (i + 1) τ2 H3)
  (hd:∀ τ H,Pv n τ H->Q (.ref D) H):jK (Itr lo n) D τ H g tt te Q:=
 wk_ (n:=n) Pv h0 (fun _ _ _ _ _=>⟨id,id⟩) (fun i x σ H H' hi p y=>by
 obtain⟨rfl,rfl⟩:=y;exact hs i σ _ hi p) hd
end
section
open PySem.SeqAt
inductive Dt where
 | non | bl (b:Bool) | int (i:Int) | str (x:Str) | lst (xs:List Dt) | tup (xs:List Dt)
mutual
def DtV (K:PySem.W.Frag) (H:Hp):Dt->V->Prop
 | .non,x=>x=.non
 | .bl b,x=>x=.bl b
 | .int i,x=>x=.int i
 | .str z,x=>x=.str z
 | .lst ds,x=>∃ a xs,x=.ref a/\SqL K H a xs/\aJ K H ds xs
 | .tup ds,x=>∃ a xs,x=.ref a/\SqT K H a xs/\aJ K H ds xs
def aJ (K:PySem.W.Frag) (H:Hp):List Dt->List V->Prop
 | [],xs=>xs=[]
 | d::ds,xs=>∃ y ys,xs=y::ys/\DtV K H d y/\aJ K H ds ys
end
mutual
def jP:Nat->Dt->Prop
 | n + 1,.lst ds=>fE n ds
 | n + 1,.tup ds=>fE n ds
 | 0,.lst _=>False
 | 0,.tup _=>False
 | _,.non=>True
 | _,.bl _=>True
 | _,.int _=>True
 | _,.str _=>True
def fE:Nat->List Dt->Prop
 | _,[]=>True
 | n,d::ds=>jP n d/\fE n ds
end
mutual
def eqD:Dt->Dt->Bool
 | .non,.non=>true
 | .bl a,.bl b=>a == b
 | .bl a,.int b=>(if a then 1 else 0) == b
 | .int a,.bl b=>a == (if b then 1 else 0)
 | .int a,.int b=>a == b
 | .str a,.str b=>a == b
 | .lst xs,.lst ys=>dm xs ys
 | .tup xs,.tup ys=>dm xs ys
 | _,_=>false
def dm:List Dt->List Dt->Bool
 | [],[]=>true
 | x::xs,y::ys=>eqD x y && dm xs ys
 | _,_=>false
end
mutual
theorem vZ:∀ d:Dt,eqD d d=true
 | .non=>rfl
 | .bl b=>by simp[eqD]
 | .int i=>by simp[eqD]
 | .str x=>by simp[eqD]
 | .lst xs=>by
  rw[eqD];exact ud xs
 | .tup xs=>by
  rw[eqD];exact ud xs
theorem ud:∀ ds:List Dt,dm ds ds=true
 | []=>rfl
 | d::ds=>by rw[dm,vZ d,ud ds];rfl
end
theorem aJ.length {K:PySem.W.Frag}{H:Hp}:∀ {ds:List Dt}{xs:List V},aJ K H ds xs->ds.length=xs.length
 | [],xs,h=>by
  have e:xs=[]:=h;subst e;rfl
 | d::ds,xs,h=>by
  obtain⟨y,ys,e,_,h2⟩:=h;subst e;simp[aJ.length h2]
theorem aJ.get {K:PySem.W.Frag}{H:Hp}:∀ {ds:List Dt}{xs:List V}{j:Nat}{d:Dt},aJ K H ds xs->ds[j]?=some d->∃ x,xs[j]?=some x/\DtV K H d x
 | [],_,_,_,_,e=>by simp at e
 | d::ds,xs,j,d',h,e=>by
  obtain⟨y,ys,e2,h1,h2⟩:=h;subst e2;cases j with
  | zero=>
   simp at e
   subst e;exact⟨y,O,h1⟩
  | succ j=>
   obtain⟨x,hx,hd⟩:=aJ.get (j:=j) h2 (by simpa using e);exact⟨x,by simpa using hx,hd⟩
theorem aJ.snoc {K:PySem.W.Frag}{H:Hp}{d:Dt}{x:V} (hd:DtV K H d x):∀ {ds:List Dt}{xs:List V},aJ K H ds xs->aJ K H (ds++[d]) (xs++[x])
 | [],xs,h=>by
  have e:xs=[]:=h;subst e;exact⟨x,[],O,hd,O⟩
 | e::ds,xs,h=>by
  obtain⟨y,ys,e2,h1,h2⟩:=h;subst e2;exact⟨y,ys++[x],O,h1,h2.snoc hd⟩
theorem aJ.append {K:PySem.W.Frag}{H:Hp}{es:List Dt}{zs:List V} (hd:aJ K H es zs):∀ {ds:List Dt}{xs:List V},aJ K H ds xs->aJ K H (ds++es) (xs++zs)
 | [],xs,h=>by
  have e:xs=[]:=h;subst e;exact hd
 | e::ds,xs,h=>by
  obtain⟨y,ys,e2,h1,h2⟩:=h;subst e2;exact⟨y,ys++zs,O,h1,aJ.append hd h2⟩
theorem fE.get {n:Nat}:∀ {ds:List Dt}{j:Nat}{d:Dt},fE n ds->ds[j]?=some d->jP n d
 | [],_,_,_,e=>by simp at e
 | d::ds,j,d',h,e=>by
  cases j with
  | zero=>
   simp at e
   subst e;exact h.1
  | succ j=>exact fE.get (j:=j) h.2 (by simpa using e)
theorem fE.of {n:Nat}:∀ {ds:List Dt},(∀ d∈ds,jP n d)->fE n ds
 | [],_=>trivial
 | d::ds,h=>⟨h d Q9,fE.of fun e he=>h e (Q6 _ he)⟩
theorem ae.sqL {K:PySem.W.Frag} (e:ae H H') (h:SqL K H a xs):SqL K H' a xs:=e.seq h
theorem ae.sqT {K:PySem.W.Frag} (e:ae H H') (h:SqT K H a xs):SqT K H' a xs:=by
 rcases h with(h|⟨o,h⟩)|h
 ·exact .inl (.inl (e _ _ h))
 ·exact .inl (.inr ⟨o,e _ _ h⟩)
 ·exact .inr h
mutual
theorem ae.dt {K:PySem.W.Frag}{H H':Hp} (e:ae H H'):∀ {d:Dt}{x:V},DtV K H d x->DtV K H' d x
 | .non,_,h=>h
 | .bl _,_,h=>h
 | .int _,_,h=>h
 | .str _,_,h=>h
 | .lst ds,_,h=>by
  obtain⟨a,xs,e1,h1,h2⟩:=h;exact⟨a,xs,e1,e.sqL h1,e.dts h2⟩
 | .tup ds,_,h=>by
  obtain⟨a,xs,e1,h1,h2⟩:=h;exact⟨a,xs,e1,e.sqT h1,e.dts h2⟩
theorem ae.dts {K:PySem.W.Frag}{H H':Hp} (e:ae H H'):∀ {ds:List Dt}{xs:List V},aJ K H ds xs->aJ K H' ds xs
 | [],_,h=>h
 | d::ds,_,h=>by
  obtain⟨y,ys,e1,h1,h2⟩:=h;exact⟨y,ys,e1,e.dt h1,e.dts h2⟩
end
theorem ae.new {o:HO} (h:H p=none):ae H (upd H p o):=fun b u e=>by
 rw[ai (ap e h)];exact e
theorem Inv.notBoth (I:Inv X aa σ H s){ys:List V} (h:SqL X.K H a xs) (h':SqT X.K H a ys):False:=by
 obtain⟨ag,_,pl,_⟩:=I.list h;obtain⟨its',_,pt,_⟩:=I.tuple h';obtain⟨o,n,e,c,_⟩:=pl;obtain⟨o',e',c',_⟩:=pt;rw[e] at e';cases e'
 rw[c] at c';exact absurd c' (by simp)
mutual
theorem Inv.dtUniq (I:Inv X aa σ H s):∀ {d e:Dt}{x:V},DtV X.K H d x->DtV X.K H e x->d=e
 | .non,e,_,h,h'=>by
  have h:_=V.non:=h;subst h;cases e with
  | non=>rfl
  | bl _=>exact nomatch (show V.non=_ from h')
  | int _=>exact nomatch (show V.non=_ from h')
  | str _=>exact nomatch (show V.non=_ from h')
  | lst _=>obtain⟨_,_,q,_⟩:=h';cases q
  | tup _=>obtain⟨_,_,q,_⟩:=h';cases q
 | .bl b,e,_,h,h'=>by
  have h:_=V.bl b:=h;subst h;cases e with
  | non=>exact nomatch (show V.bl b=_ from h')
  | bl c=>
   have q:V.bl b=V.bl c:=h';cases q
   rfl
  | int _=>exact nomatch (show V.bl b=_ from h')
  | str _=>exact nomatch (show V.bl b=_ from h')
  | lst _=>obtain⟨_,_,q,_⟩:=h';cases q
  | tup _=>obtain⟨_,_,q,_⟩:=h';cases q
 | .int b,e,_,h,h'=>by
  have h:_=V.int b:=h;subst h;cases e with
  | non=>exact nomatch (show V.int b=_ from h')
  | bl c=>exact nomatch (show V.int b=_ from h')
  | int c=>
   have q:V.int b=V.int c:=h';cases q
   rfl
  | str _=>exact nomatch (show V.int b=_ from h')
  | lst _=>obtain⟨_,_,q,_⟩:=h';cases q
  | tup _=>obtain⟨_,_,q,_⟩:=h';cases q
 | .str b,e,_,h,h'=>by
  have h:_=V.str b:=h;subst h;cases e with
  | non=>exact nomatch (show V.str b=_ from h')
  | bl c=>exact nomatch (show V.str b=_ from h')
  | int _=>exact nomatch (show V.str b=_ from h')
  | str c=>
   have q:V.str b=V.str c:=h';cases q
   rfl
  | lst _=>obtain⟨_,_,q,_⟩:=h';cases q
  | tup _=>obtain⟨_,_,q,_⟩:=h';cases q
 | .lst ds,e,_,h,h'=>by
  obtain⟨a,xs,e1,h1,h2⟩:=h;subst e1;cases e with
  | non=>exact nomatch (show V.ref a=_ from h')
  | bl c=>exact nomatch (show V.ref a=_ from h')
  | int _=>exact nomatch (show V.ref a=_ from h')
  | str _=>exact nomatch (show V.ref a=_ from h')
  | lst es=>
   obtain⟨b,ys,e2,h3,h4⟩:=h';cases e2
   have q:=I.list_inj h1 h3;subst q;rw[I.dtsUniq h2 h4]
  | tup es=>
   obtain⟨b,ys,e2,h3,h4⟩:=h';cases e2
   exact(I.notBoth h1 h3).elim
 | .tup ds,e,_,h,h'=>by
  obtain⟨a,xs,e1,h1,h2⟩:=h;subst e1;cases e with
  | non=>exact nomatch (show V.ref a=_ from h')
  | bl c=>exact nomatch (show V.ref a=_ from h')
  | int _=>exact nomatch (show V.ref a=_ from h')
  | str _=>exact nomatch (show V.ref a=_ from h')
  | lst es=>
   obtain⟨b,ys,e2,h3,h4⟩:=h';cases e2
   exact(I.notBoth h3 h1).elim
  | tup es=>
   obtain⟨b,ys,e2,h3,h4⟩:=h';cases e2
   have q:=I.tuple_inj h1 h3;subst q;rw[I.dtsUniq h2 h4]
theorem Inv.dtsUniq (I:Inv X aa σ H s):∀ {ds es:List Dt}{xs:List V},aJ X.K H ds xs->aJ X.K H es xs->ds=es
 | [],es,_,h,h'=>by
  have h:_=[]:=h;subst h;cases es with
  | nil=>rfl
  | cons e es=>obtain⟨_,_,q,_⟩:=h';cases q
 | d::ds,es,_,h,h'=>by
  obtain⟨y,ys,e1,h1,h2⟩:=h;subst e1;cases es with
  | nil=>exact nomatch (show y::ys=[] from h')
  | cons e es=>
   obtain⟨z,zs,q,h3,h4⟩:=h';cases q
   rw[I.dtUniq h1 h3,I.dtsUniq h2 h4]
end
def kX (ds es:List Dt) (j:Nat):Bool:=eqD (ds.getD j .non) (es.getD j .non)
theorem tw:∀ ds es:List Dt,((List.range (min ds.length es.length)).all (kX ds es) && ds.length == es.length)=dm ds es
 | [],[]=>rfl
 | [],_::_=>by simp[dm]
 | _::_,[]=>by simp[dm]
 | d::ds,e::es=>by
  have ih:=tw ds es;have e1:min (d::ds).length (e::es).length=min ds.length es.length + 1:=by simp only[Re];omega
  have e2:((d::ds).length == (e::es).length)=(ds.length == es.length):=by simp
  have e3:(List.range (min ds.length es.length + 1)).all (kX (d::ds) (e::es))=(eqD d e && (List.range (min ds.length es.length)).all (kX ds es)):=by
   rw[S9,Tw,Uo];rfl
  rw[e1,e2,e3,dm,<- ih,Bool.and_assoc]
theorem GQ {ds es:List Dt} (h:ds.length=es.length):(List.range ds.length).all (kX ds es)=dm ds es:=by
 have:=tw ds es;rw[<- h,Nat.min_self] at this
 simpa using this
theorem E9 {ds es:List Dt} (h:ds.length≠es.length):dm ds es=false:=by
 rw[<- tw ds es];simp[h]
theorem Inv.isL (I:Inv X aa σ H s) (h:SqL X.K H a xs):∃ ag:List Value,aw xs ag/\s.heap.IsList a ag.toArray:=
 let ⟨ag,r,pl,_⟩:=I.list h
 ⟨ag,r,pl.isList⟩
theorem Inv.isT (I:Inv X aa σ H s) (h:SqT X.K H a xs):∃ ag:List Value,aw xs ag/\s.heap.IsTuple a ag.toArray:=
 let ⟨ag,r,pt,_⟩:=I.tuple h
 ⟨ag,r,pt⟩
theorem zX {ds es:List Dt}{d e:Dt} (h1:ds[j]?=some d) (h2:es[j]?=some e):kX ds es j=eqD d e:=by
 unfold kX;rw[QV,QV,h1,h2];rfl
theorem eB {α:Type}{l:List α} (h:j<l.length):∃ x,l[j]?=some x:=⟨l[j],by simp[h]⟩
mutual
theorem Inv.eqAt (I:Inv X aa σ H s):∀ {d e:Dt}{x y:V}{u v:Value}{n:Nat}{A:Around},DtV X.K H d x->DtV X.K H e y->av x u->av y v->jP n d->A.units + n<cLine->EqAt A s u v (eqD d e)
 | .non,e,x,y,u,v,n,A,h,h',rx,ry,_,hu=>by
  have hu:A.units<cLine:=Sk (RA _ _) hu;have h:x=V.non:=h;subst h;cases e with
  | non=>
   have h':y=V.non:=h';subst h';exact fR rx ry O rfl
  | bl c=>
   have h':y=V.bl c:=h';subst h';exact fR rx ry O rfl
  | int c=>
   have h':y=V.int c:=h';subst h';exact fR rx ry O rfl
  | str c=>
   have h':y=V.str c:=h';subst h';exact fR rx ry O rfl
  | lst es=>
   obtain⟨a,ys,rfl,h1,_⟩:=h';obtain rfl:v=Value.ref a:=ry;obtain⟨ag,_,hl⟩:=I.isL h1;obtain rfl:u=Value.none:=rx;exact EqAt.none_list hl hu
  | tup es=>
   obtain⟨a,ys,rfl,h1,_⟩:=h';obtain rfl:v=Value.ref a:=ry;obtain⟨ag,_,hl⟩:=I.isT h1;obtain rfl:u=Value.none:=rx;exact EqAt.none_tuple hl hu
 | .bl b,e,x,y,u,v,n,A,h,h',rx,ry,_,hu=>by
  have hu:A.units<cLine:=Sk (RA _ _) hu;have h:x=V.bl b:=h;subst h;cases e with
  | non=>
   have h':y=V.non:=h';subst h';exact fR rx ry O rfl
  | bl c=>
   have h':y=V.bl c:=h';subst h';exact fR rx ry O rfl
  | int c=>
   have h':y=V.int c:=h';subst h';exact fR rx ry O rfl
  | str c=>
   have h':y=V.str c:=h';subst h';exact fR rx ry O rfl
  | lst es=>
   obtain⟨a,ys,rfl,h1,_⟩:=h';obtain rfl:v=Value.ref a:=ry;obtain⟨ag,_,hl⟩:=I.isL h1;obtain rfl:u=Value.bool b:=rx;exact EqAt.bool_list b hl hu
  | tup es=>
   obtain⟨a,ys,rfl,h1,_⟩:=h';obtain rfl:v=Value.ref a:=ry;obtain⟨ag,_,hl⟩:=I.isT h1;obtain rfl:u=Value.bool b:=rx;exact EqAt.bool_tuple b hl hu
 | .int b,e,x,y,u,v,n,A,h,h',rx,ry,_,hu=>by
  have hu:A.units<cLine:=Sk (RA _ _) hu;have h:x=V.int b:=h;subst h;cases e with
  | non=>
   have h':y=V.non:=h';subst h';exact fR rx ry O rfl
  | bl c=>
   have h':y=V.bl c:=h';subst h';exact fR rx ry O rfl
  | int c=>
   have h':y=V.int c:=h';subst h';exact fR rx ry O rfl
  | str c=>
   have h':y=V.str c:=h';subst h';exact fR rx ry O rfl
  | lst es=>
   obtain⟨a,ys,rfl,h1,_⟩:=h';obtain rfl:v=Value.ref a:=ry;obtain⟨ag,_,hl⟩:=I.isL h1;obtain⟨t,rfl⟩:=rx;exact EqAt.int_list b t hl hu
  | tup es=>
   obtain⟨a,ys,rfl,h1,_⟩:=h';obtain rfl:v=Value.ref a:=ry;obtain⟨ag,_,hl⟩:=I.isT h1;obtain⟨t,rfl⟩:=rx;exact EqAt.int_tuple b t hl hu
 | .str b,e,x,y,u,v,n,A,h,h',rx,ry,_,hu=>by
  have hu:A.units<cLine:=Sk (RA _ _) hu;have h:x=V.str b:=h;subst h;cases e with
  | non=>
   have h':y=V.non:=h';subst h';exact fR rx ry O rfl
  | bl c=>
   have h':y=V.bl c:=h';subst h';exact fR rx ry O rfl
  | int c=>
   have h':y=V.int c:=h';subst h';exact fR rx ry O rfl
  | str c=>
   have h':y=V.str c:=h';subst h';exact fR rx ry O rfl
  | lst es=>
   obtain⟨a,ys,rfl,h1,_⟩:=h';obtain rfl:v=Value.ref a:=ry;obtain⟨ag,_,hl⟩:=I.isL h1;obtain⟨t,rfl⟩:=rx;exact EqAt.str_list b t hl hu
  | tup es=>
   obtain⟨a,ys,rfl,h1,_⟩:=h';obtain rfl:v=Value.ref a:=ry;obtain⟨ag,_,hl⟩:=I.isT h1;obtain⟨t,rfl⟩:=rx;exact EqAt.str_tuple b t hl hu
 | .lst ds,e,x,y,u,v,n,A,h,h',rx,ry,hd,hu=>by
  obtain⟨a,xs,rfl,g1,g2⟩:=h;obtain rfl:u=Value.ref a:=rx;obtain⟨ag,rv,hl⟩:=I.isL g1;cases n with
  | zero=>exact False.elim hd
  | succ n=>
  have cB:A.units<cLine:=Sk (RA _ _) hu;cases e with
  | non=>
   have h':y=V.non:=h';subst h';obtain rfl:v=Value.none:=ry;exact EqAt.list_none hl cB
  | bl c=>
   have h':y=V.bl c:=h';subst h';obtain rfl:v=Value.bool c:=ry;exact EqAt.list_bool c hl cB
  | int c=>
   have h':y=V.int c:=h';subst h';obtain⟨t,rfl⟩:=ry;exact EqAt.list_int c t hl cB
  | str c=>
   have h':y=V.str c:=h';subst h';obtain⟨t,rfl⟩:=ry;exact EqAt.list_str c t hl cB
  | tup es=>
   obtain⟨b,ys,rfl,h1,_⟩:=h';obtain rfl:v=Value.ref b:=ry;obtain⟨its',_,cP⟩:=I.isT h1;exact EqAt.list_tuple hl cP cB
  | lst es=>
   obtain⟨b,ys,rfl,h1,h2⟩:=h';obtain rfl:v=Value.ref b:=ry;obtain⟨its',cg,cP⟩:=I.isL h1;show EqAt A s (.ref a) (.ref b) (dm ds es);by_cases pj:a=b
   ·subst pj
    have e:Dt.lst ds=Dt.lst es:=I.dtUniq ⟨a,xs,O,g1,g2⟩ ⟨a,ys,O,h1,h2⟩;injection e with e
    subst e;rw[ud];exact EqAt.same _
   ·have n1:ds.length=ag.length:=g2.length.trans rv.length
    have n2:es.length=its'.length:=h2.length.trans cg.length;have items:∀ j (h1:j<ag.toArray.size) (h2:j<its'.toArray.size),EqAt A.in1 s ag.toArray[j] its'.toArray[j] (kX ds es j):=fun j j1 j2=>by
     have j1:j<ag.length:=by simpa using j1
     have j2:j<its'.length:=by simpa using j2
     obtain⟨d',bD⟩:=eB (l:=ds) (j:=j) (by omega);obtain⟨e',dE⟩:=eB (l:=es) (j:=j) (by omega);obtain⟨x',dC,kx⟩:=g2.get bD;obtain⟨y',bT,ky⟩:=h2.get dE;obtain⟨u',hu',ru⟩:=rv.get dC;obtain⟨v',c6,sF⟩:=cg.get bT;have q1:ag.toArray[j]=u':=by
      have:=List.getElem?_eq_some_iff.mp hu'
      simpa using this.2
     have q2:its'.toArray[j]=v':=by
      have:=List.getElem?_eq_some_iff.mp c6
      simpa using this.2
     rw[q1,q2,zX bD dE];exact Inv.eqAtI I ds j bD kx ky ru sF (fE.get hd bD) (show A.units + 1 + n<cLine by omega)
    by_cases hsz:ag.toArray.size=its'.toArray.size
    ·have nW:ds.length=es.length:=by simpa [n1,n2] using hsz
     rw[<- GQ nW,n1,<- Rc];exact EqAt.of_refs pj (RcAt.lists hl cP hsz cB items)
    ·rw[E9 (by simpa [n1,n2] using hsz)]
     exact EqAt.of_refs pj (RcAt.lists_lengths hl cP (by simpa using hsz) cB)
 | .tup ds,e,x,y,u,v,n,A,h,h',rx,ry,hd,hu=>by
  obtain⟨a,xs,rfl,g1,g2⟩:=h;obtain rfl:u=Value.ref a:=rx;obtain⟨ag,rv,hl⟩:=I.isT g1;cases n with
  | zero=>exact False.elim hd
  | succ n=>
  have cB:A.units<cLine:=Sk (RA _ _) hu;cases e with
  | non=>
   have h':y=V.non:=h';subst h';obtain rfl:v=Value.none:=ry;exact EqAt.tuple_none hl cB
  | bl c=>
   have h':y=V.bl c:=h';subst h';obtain rfl:v=Value.bool c:=ry;exact EqAt.tuple_bool c hl cB
  | int c=>
   have h':y=V.int c:=h';subst h';obtain⟨t,rfl⟩:=ry;exact EqAt.tuple_int c t hl cB
  | str c=>
   have h':y=V.str c:=h';subst h';obtain⟨t,rfl⟩:=ry;exact EqAt.tuple_str c t hl cB
  | lst es=>
   obtain⟨b,ys,rfl,h1,_⟩:=h';obtain rfl:v=Value.ref b:=ry;obtain⟨its',_,cP⟩:=I.isL h1;exact EqAt.tuple_list hl cP cB
  | tup es=>
   obtain⟨b,ys,rfl,h1,h2⟩:=h';obtain rfl:v=Value.ref b:=ry;obtain⟨its',cg,cP⟩:=I.isT h1;show EqAt A s (.ref a) (.ref b) (dm ds es);by_cases pj:a=b
   ·subst pj
    have e:Dt.tup ds=Dt.tup es:=I.dtUniq ⟨a,xs,O,g1,g2⟩ ⟨a,ys,O,h1,h2⟩;injection e with e
    subst e;rw[ud];exact EqAt.same _
   ·have n1:ds.length=ag.length:=g2.length.trans rv.length
    have n2:es.length=its'.length:=h2.length.trans cg.length;have items:∀ j (h1:j<ag.toArray.size) (h2:j<its'.toArray.size),EqAt A.in1 s ag.toArray[j] its'.toArray[j] (kX ds es j):=fun j j1 j2=>by
     have j1:j<ag.length:=by simpa using j1
     have j2:j<its'.length:=by simpa using j2
     obtain⟨d',bD⟩:=eB (l:=ds) (j:=j) (by omega);obtain⟨e',dE⟩:=eB (l:=es) (j:=j) (by omega);obtain⟨x',dC,kx⟩:=g2.get bD;obtain⟨y',bT,ky⟩:=h2.get dE;obtain⟨u',hu',ru⟩:=rv.get dC;obtain⟨v',c6,sF⟩:=cg.get bT;have q1:ag.toArray[j]=u':=by
      have:=List.getElem?_eq_some_iff.mp hu'
      simpa using this.2
     have q2:its'.toArray[j]=v':=by
      have:=List.getElem?_eq_some_iff.mp c6
      simpa using this.2
     rw[q1,q2,zX bD dE];exact Inv.eqAtI I ds j bD kx ky ru sF (fE.get hd bD) (show A.units + 1 + n<cLine by omega)
    have q:=EqAt.of_refs pj (RcAt.tuples hl cP cB items);rw[<- tw ds es,n1,n2]
    simpa using q
theorem Inv.eqAtI (I:Inv X aa σ H s):∀ (ds:List Dt) (j:Nat){d e:Dt}{x y:V}{u v:Value}{n:Nat}{A:Around},ds[j]?=some d->DtV X.K H d x->DtV X.K H e y->av x u->av y v->jP n d->A.units + n<cLine->EqAt A s u v (eqD d e)
 | [],j,_,_,_,_,_,_,_,_,h,_,_,_,_,_,_=>by simp at h
 | c::_,0,d,e,x,y,u,v,n,A,h,hx,hy,ru,rv,hd,hu=>by
  simp at h
  subst h;exact Inv.eqAt I hx hy ru rv hd hu
 | _::cs,j + 1,d,e,x,y,u,v,n,A,h,hx,hy,ru,rv,hd,hu=>Inv.eqAtI I cs j (by simpa using h) hx hy ru rv hd hu
end
theorem Inv.items (I:Inv X aa σ H s){ds es:List Dt}{ys:List V}{ag its':List Value} (g2:aJ X.K H ds xs) (h2:aJ X.K H es ys) (rv:aw xs ag) (cg:aw ys its') (hd:fE n ds)
  (hu:A.units + 1 + n<cLine):∀ j (h1:j<ag.toArray.size) (h2:j<its'.toArray.size),EqAt A.in1 s ag.toArray[j] its'.toArray[j] (kX ds es j):=fun j j1 j2=>by
 have n1:ds.length=ag.length:=g2.length.trans rv.length;have n2:es.length=its'.length:=h2.length.trans cg.length;have j1:j<ag.length:=by simpa using j1
 have j2:j<its'.length:=by simpa using j2
 obtain⟨d',bD⟩:=eB (l:=ds) (j:=j) (by omega);obtain⟨e',dE⟩:=eB (l:=es) (j:=j) (by omega);obtain⟨x',dC,kx⟩:=g2.get bD;obtain⟨y',bT,ky⟩:=h2.get dE;obtain⟨u',hu',ru⟩:=rv.get dC;obtain⟨v',c6,sF⟩:=cg.get bT;have q1:ag.toArray[j]=u':=by
  have:=List.getElem?_eq_some_iff.mp hu'
  simpa using this.2
 have q2:its'.toArray[j]=v':=by
  have:=List.getElem?_eq_some_iff.mp c6
  simpa using this.2
 rw[q1,q2,zX bD dE];exact I.eqAt kx ky ru sF (fE.get hd bD) hu
def vd:Dt->Bool
 | .lst _=>true
 | .tup _=>true
 | _=>false
theorem Inv.rcAt (I:Inv X aa σ H s){d e:Dt}{x y:V} (bd:vd d=true) (be:vd e=true) (h:DtV X.K H d x) (h':DtV X.K H e y) (rx:av x u) (ry:av y v) (hd:jP n d) (hu:A.units + n<cLine) :
  RcAt A s u v (eqD d e)/\RcNeAt A s u v (!eqD d e):=by
 cases n with
 | zero=>cases d <;> first | exact False.elim hd | cases bd
 | succ n=>
 have cB:A.units<cLine:=Sk (RA _ _) hu;have px:A.units + 1 + n<cLine:=by omega
 cases d with
 | lst ds=>
  obtain⟨a,xs,rfl,g1,g2⟩:=h;obtain rfl:u=Value.ref a:=rx;obtain⟨ag,rv,hl⟩:=I.isL g1;cases e with
  | lst es=>
   obtain⟨b,ys,rfl,h1,h2⟩:=h';obtain rfl:v=Value.ref b:=ry;obtain⟨its',cg,cP⟩:=I.isL h1;have n1:ds.length=ag.length:=g2.length.trans rv.length;have n2:es.length=its'.length:=h2.length.trans cg.length;show RcAt A s (.ref a) (.ref b) (dm ds es)/\RcNeAt A s (.ref a) (.ref b) (!dm ds es);by_cases hsz:ag.toArray.size=its'.toArray.size
   ·have nW:ds.length=es.length:=by simpa [n1,n2] using hsz
    rw[<- GQ nW,n1,<- Rc];exact⟨RcAt.lists hl cP hsz cB (I.items g2 h2 rv cg hd px),RcNeAt.lists hl cP hsz cB (I.items g2 h2 rv cg hd px)⟩
   ·rw[E9 (by simpa [n1,n2] using hsz)]
    exact⟨RcAt.lists_lengths hl cP (by simpa using hsz) cB,RcNeAt.lists_lengths hl cP (by simpa using hsz) cB⟩
  | tup es=>
   obtain⟨b,ys,rfl,h1,_⟩:=h';obtain rfl:v=Value.ref b:=ry;obtain⟨its',_,cP⟩:=I.isT h1;exact⟨RcAt.list_tuple hl cP cB,RcNeAt.list_tuple hl cP cB⟩
  | _=>cases be
 | tup ds=>
  obtain⟨a,xs,rfl,g1,g2⟩:=h;obtain rfl:u=Value.ref a:=rx;obtain⟨ag,rv,hl⟩:=I.isT g1;cases e with
  | tup es=>
   obtain⟨b,ys,rfl,h1,h2⟩:=h';obtain rfl:v=Value.ref b:=ry;obtain⟨its',cg,cP⟩:=I.isT h1;have n1:ds.length=ag.length:=g2.length.trans rv.length;have n2:es.length=its'.length:=h2.length.trans cg.length;have q:=RcAt.tuples hl cP cB (I.items g2 h2 rv cg hd px);have q':=RcNeAt.tuples hl cP cB (I.items g2 h2 rv cg hd px);show RcAt A s (.ref a) (.ref b) (dm ds es)/\RcNeAt A s (.ref a) (.ref b) (!dm ds es);rw[<- tw ds es,n1,n2];exact⟨by simpa using q,by simpa using q'⟩
  | lst es=>
   obtain⟨b,ys,rfl,h1,_⟩:=h';obtain rfl:v=Value.ref b:=ry;obtain⟨its',_,cP⟩:=I.isL h1;exact⟨RcAt.tuple_list hl cP cB,RcNeAt.tuple_list hl cP cB⟩
  | _=>cases be
 | _=>cases bd
def rEqD (K:PySem.W.Frag) (rY:Bool):R2:=fun x y H Q=>∃ d e,vd d=true/\vd e=true/\DtV K H d x/\DtV K H e y/\jP 60 d/\Q (.bl (if rY then !eqD d e else eqD d e)) H
theorem Fn (hu:X.A.units + 64<cLine):OpR X (compareOp .Eq) (rEqD X.K false):=by
 intro aa s σ H x y v u Q I rx ry h;obtain⟨d,e,bd,be,h1,h2,hd,q⟩:=h;exact(I.rcAt bd be h1 h2 rx ry hd (by omega)).1 X.prog X.w _ _ ⟨.bl _,H,I,O,q⟩
theorem Fu (hu:X.A.units + 64<cLine):OpR X (compareOp .NotEq) (rEqD X.K true):=by
 intro aa s σ H x y v u Q I rx ry h;obtain⟨d,e,bd,be,h1,h2,hd,q⟩:=h;exact(I.rcAt bd be h1 h2 rx ry hd (by omega)).2 X.prog X.w _ _ ⟨.bl _,H,I,O,q⟩
end
def clsOf:V->Option Value
 | .ref a=>some (.ref a)
 | .ty n=>some (.type n)
 | _=>none
theorem Oa {c:V}{k:Value} (r:av c u) (e:clsOf c=some k):u=k:=by
 cases c with
 | ref a=>
  cases e
  exact r
 | ty n=>
  cases e
  exact r
 | _=>cases e
theorem sY:gD X (.builtin "isinstance") (fun xs H Q=>∃ x c k t b,xs=[x,c]/\clsOf c=some k/\ii X.K H x t/\PySem.W.kitOne X.K t k=some b/\Q (.bl b) H):=by
 intro aa s σ H xs us Q I r h;obtain⟨x,c,k,t,b,rfl,ec,ty,eb,q⟩:=h;obtain⟨u,v,rfl,rx,rc⟩:=pY r;have e:=Oa rc ec;subst e;exact ME I rx ty eb fun tk=>⟨.bl b,H,I.tok tk,O,q⟩
theorem EQ:∀ {us:List Value},aw (ys.map V.str) us->StrsAre us ys:=by
 induction ys with
 | nil=>
  intro us r;cases r
  exact .nil
 | cons y ys ih=>
  intro us r;cases r with
  | cons r1 r2=>
   obtain⟨t,rfl⟩:=r1;exact .cons _ _ (ih r2)
structure ExcAt (H:Hp) (h:Heap) (a:Addr) (c:Value) (dd:Option Addr) (tb:Option (Addr×Value)):Prop where
 ob:∃ o vs,h.get? a=some o/\o.cls=c/\o.dict=dd/\o.data=.fields vs/\vs.size=6/\(∃ cs,jo H cs/\vs[2]?=some (nxt cs 0))/\vs[1]?=some (match tb with|none=>.none|some p=>.ref p.1)
 tr:∀ p,tb=some p->p.1≠a/\∃ oT ts,h.get? p.1=some oT/\oT.data=.fields ts/\ts[3]?=some p.2
structure Exc (X:Cx) (aa:List (Addr×Obj)) (H:Hp) (h:Heap) (a:Addr) (c:Value) (dd:Option Addr) (tb:Option (Addr×Value)):Prop where
 fp:bw X aa H a
 fpT:∀ p,tb=some p->bw X aa H p.1
 at_:ExcAt H h a c dd tb
theorem Oy (o:Obj) (f:Array Value->Array Value):(o.mapFields f).dict=o.dict:=by
 obtain⟨c,d,dt,sl⟩:=o;cases dt <;> rfl
theorem Inv.slot0 {tk:Nat} (I:Inv X aa σ H s) (fM:∀ b∈ch,bw X aa H b) (keep:∀ b o,b∉frs X.stack->b∉ch->s.heap.get? b=some o->h'.get? b=some o)
  (slot:∀ b o,b∈frs X.stack->s.heap.get? b=some o->∃ sl,h'.get? b=some { o with slots:=sl }):Inv X aa σ H { s with heap:=h',toks:=tk }:=by
 have any:∀ b o,b∉ch->s.heap.get? b=some o->∃ sl,h'.get? b=some { o with slots:=sl }:=fun b o hc e=>by
  by_cases hb:b∈frs X.stack
  ·exact slot b o hb e
  ·exact⟨o.slots,keep b o hb hc e⟩
 have sub:∀ b,b∈frs X.stack->b=X.env.locals\/b∈X.fs:=fun b hb=>Rp.mp (I.stkSub b hb)
 refine I.step (g':=s.gens) (d':=s.drawn) (ch:=ch) (fun b hb=>?_) (fun b o hL hf hc e _=>keep b o (fun z=>(sub b z).elim hL hf) hc e) (fun b o _ _ hc e _=>any b o hc e) (fun _ _ _ _ n=>n) (fun b o hc e=>?_)
  (fun _ _ e=>e) (fun _ _ _ e=>e) (fun _ _ _ e=>e) (fun m hm=>?_) (fun b u e=>?_) I.bare
 ·obtain⟨_,f1,_,f3,f4,f5⟩:=fM b hb
  exact⟨f3,f1,f4,f5⟩
 ·obtain⟨sl,q⟩:=any b o hc e
  exact⟨_,q⟩
 ·obtain⟨o,es,ep,ho,r⟩:=hm
  obtain⟨sl,q⟩:=any _ o (fun z=>(fM _ z).2.1 O) ho;exact⟨_,es,ep,q,r⟩
 ·have nf:∀ d v,H d=some v->d∉frs X.stack/\d∉ch:=fun d v q=>⟨fun z=>(by rw[I.stkFree d z] at q;cases q),fun z=>(by rw[(fM d z).1] at q;cases q)⟩
  refine(I.hok b u e).stay (fun d v hd q=>?_) (fun _ q=>q) fun _ _ q=>q
  rcases hd with z|z
  ·subst z
   exact keep d v (nf d _ e).1 (nf d _ e).2 q
  ·exact keep d v (nf d _ z).1 (nf d _ z).2 q
theorem Inv.slots {tk:Nat} (I:Inv X aa σ H s) (fM:∀ b∈ch,bw X aa H b) (keep:∀ b o,b∉frs X.stack->b∉ch->s.heap.get? b=some o->h'.get? b=some o)
  (slot:∀ b o,b∈frs X.stack->s.heap.get? b=some o->∃ sl,h'.get? b=some { o with slots:=sl }) (_:∀ b∈ch,∀ o,s.heap.get? b=some o->∃ o',h'.get? b=some o'):Inv X aa σ H { s with heap:=h',toks:=tk }:=I.slot0 fM keep slot
def Body (X:Cx):Prop:=X.stack=X.env::X.outer/\X.env.frame=some X.env.locals
theorem Ek {jV:Bool} (B:Body X) (I:Inv X aa σ H s) (fp:bw X aa H a) (he:s.heap.get? a=some o) (hd:o.data=.fields vs) (hz:vs.size=6)
  (hQ:∀ s' T,Inv X aa σ H s'->s.heap.objs.size<=T->bw X aa H T->T≠a->s'.heap.get? a=some (o.mapFields (·.setIfInBounds 1 (.ref T)))->(∃ oT ts,s'.heap.get? T=some oT/\oT.data=.fields ts/\ts[3]?=some (rawInt X.env.locals))->Q () s') :
  wpAny M X.A (do let f <- frameOf X.env;let pl <- entryPlaceOf X.env.locals jV;let b <- EntryCells.newEntry qI f .none (rawInt X.env.locals) .none pl;setField (.ref a) 1 b) Q E s:=by
 have hl:=I.stack;rw[B.1] at hl;have m9:X.A.frames=some (X.env::X.outer):=by rw[I.ok.frames,B.1]
 have kI:∀ b,bw X aa H b->b∉frs X.stack:=fun b f z=>(Rp.mp (I.stkSub b z)).elim f.2.1 f.2.2.1
 refine mJ (wpAny_frameOf_fun m9 hl B.2 fun h₁ bq=>?_);rw[<- B.1] at bq;refine mJ (wpAny_entryPlaceOf fun pl bU=>?_);simp only[EntryCells.newEntry,newFields]
 refine mJ (Su ?_ (bU.sizeOk5 _ _ _ _ _));generalize CM:({ cls:=.type "traceback",dict:=none,data:=.fields ([qI,.ref X.env.locals,.none,rawInt X.env.locals,.none]++(if pl.isEmpty then List.replicate 6 Value.none else pl)).toArray }:Obj)=oT;have e1:h₁.get? a=some o:=(bq.2.1 a (kI a fp)).trans he;have e2:(h₁.push oT).get? a=some o:=QU _ e1;have hsz:s.heap.objs.size=h₁.objs.size:=bq.1.symm;have Dz:h₁.objs.size≠a:=RV (QZ e1);have jW:=Obj.data_mapFields hd (·.setIfInBounds 1 (Value.ref h₁.objs.size));have e3:=Rv (Obj.mapFields (·.setIfInBounds 1 (Value.ref h₁.objs.size))) e2 (Obj.isFreed_of_fields jW);have eT:((h₁.push oT).update a (Obj.mapFields (·.setIfInBounds 1 (Value.ref h₁.objs.size)))).get? h₁.objs.size=some oT:=
  (Rh _ _ (Ne.symm Dz)).trans (Q1 h₁ (by rw[<- CM];rfl))
 have kp:∀ b q,b≠a->h₁.get? b=some q->((h₁.push oT).update a (Obj.mapFields (·.setIfInBounds 1 (Value.ref h₁.objs.size)))).get? b=some q:=fun b q hb e=>
  (Rh _ _ (Ne.symm hb)).trans (QU _ e)
 refine Sl e2 hd (by rw[hz];decide) ?_;refine hQ _ h₁.objs.size (I.slots (ch:=[a]) (tk:=s.toks) (fun b hb=>?_) (fun b q hb hc e=>?_) (fun b q hb e=>?_) (fun b hb q e=>?_)) (S0 hsz) (I.fpOk (S0 hsz) (I.hok.fresh (S0 hsz))) Dz e3 ⟨oT,_,eT,by rw[<- CM],?_⟩
 ·rw[S1.mp hb];exact fp
 ·exact kp b q (fun z=>hc (by simp[z])) ((bq.2.1 b hb).trans e)
 ·obtain⟨sl,q'⟩:=bq.2.2 b q e
  refine⟨sl,kp b _ (fun z=>?_) q'⟩;subst z;exact kI b fp hb
 ·rw[S1.mp hb];exact⟨_,e3⟩
 ·first|(simp;done)|(rcases bU with rfl|⟨_,_,_,_,_,_,_,rfl⟩ <;> simp)
theorem vs_set  (hz:vs.size=6) (h2:∃ cs,jo H cs/\vs[2]?=some (nxt cs 0)):(vs.setIfInBounds 1 v).size=6/\(∃ cs,jo H cs/\(vs.setIfInBounds 1 v)[2]?=some (nxt cs 0))/\(vs.setIfInBounds 1 v)[1]?=some v:=by
 refine⟨by simpa using hz,?_,?_⟩
 ·obtain⟨cs,hc,h2⟩:=h2
  exact⟨cs,hc,by rw[Tb (by decide)];exact h2⟩
 ·simp[hz]
theorem Inv.note  (B:Body X) (I:Inv X aa σ H s) (x:Exc X aa H s.heap a c dd tb) (iI:∀ p,tb=some p->p.2=.none\/p.2=rawInt X.env.locals)
  (hQ:∀ s' T,Inv X aa σ H s'->Exc X aa H s'.heap a c dd (some (T,rawInt X.env.locals))->Q () s'):wpAny M X.A (noteFrame (.ref a) X.env) Q E s:=by
 obtain⟨o,vs,h1,hc,fK,hd,hz,h2,mW⟩:=x.at_.ob;have fin:∀ s' T,Inv X aa σ H s'->bw X aa H T->T≠a->s'.heap.get? a=some (o.mapFields (·.setIfInBounds 1 (.ref T)))->(∃ oT ts,s'.heap.get? T=some oT/\oT.data=.fields ts/\ts[3]?=some (rawInt X.env.locals))->Q () s':=fun s' T I' fT ne e' tr=>by
  obtain⟨z1,z2,z3⟩:=vs_set (v:=.ref T) hz h2;refine hQ s' T I' ⟨x.fp,fun p q=>?_,⟨_,_,e',(Obj.cls_mapFields _ _).trans hc,(Oy _ _).trans fK,Obj.data_mapFields hd _,z1,z2,z3⟩,fun p q=>?_⟩
  ·cases q;exact fT
  ·cases q;exact⟨ne,tr⟩
 unfold noteFrame;simp only[B.2]
 cases tb with
 | none=>
  refine mJ (Rq h1 hd mW ?_);rw[if_neg (by decide)];exact Ek B I x.fp h1 hd hz fun s' T I' _ fT ne e' tr=>fin s' T I' fT ne e' tr
 | some p=>
  obtain⟨T,fl⟩:=p;obtain⟨ne,oT,ts,hT,nB,h3⟩:=x.at_.tr _ rfl;refine mJ (Rq h1 hd mW ?_);rw[if_pos (show(Value.ref T != Value.none)=true from by simp)];refine mJ (Rq hT nB h3 ?_);rcases iI _ rfl with z|z
  ·have z:fl=.none:=z
   subst z;rw[if_neg (show ¬ ((Value.none == rawInt X.env.locals)=true) from by simp[rawInt])];refine mJ (Sl hT nB (Array.getElem?_eq_some_iff.mp h3).1 ?_);have other:∀ b,b≠T->(s.heap.update T (Obj.mapFields (·.setIfInBounds 3 Value.none))).get? b=s.heap.get? b:=fun b hb=>Rh _ _ (Ne.symm hb)
   have kI:T∉frs X.stack:=fun z=>(Rp.mp (I.stkSub T z)).elim (x.fpT _ O).2.1 (x.fpT _ O).2.2.1
   have I1:Inv X aa σ H { s with heap:=s.heap.update T (Obj.mapFields (·.setIfInBounds 3 Value.none)) }:=I.slots (ch:=[T]) (tk:=s.toks) (fun b hb=>by rw[S1.mp hb];exact x.fpT _ O)
    (fun b q _ hc e=>(other b fun z=>hc (by simp[z])).trans e) (fun b q hb e=>⟨q.slots,(other b fun z=>kI (z ▸ hb)).trans e⟩)
    (fun b hb q e=>(by obtain rfl:=S1.mp hb;exact⟨_,Rv _ hT (Obj.isFreed_of_fields (Obj.data_mapFields nB _))⟩))
   exact Ek B I1 x.fp ((other a (Ne.symm ne)).trans h1) hd hz fun s' T' I' _ IF KL e' tr=>fin s' T' I' IF KL e' tr
  ·have z:fl=rawInt X.env.locals:=z
   subst z;rw[if_pos (show(rawInt X.env.locals == rawInt X.env.locals)=true from beq_self_eq_true _)];exact QW (hQ s T I x)
theorem Inv.land  (I:Inv X aa σ H s) (x:Exc X aa H s.heap a c dd (some (T,fl)))
  (hQ:∀ s',Inv X aa σ H s'->Exc X aa H s'.heap a c dd (some (T,.none))->Q () s'):wpAny M A (setFlight (.ref a) none) Q E s:=by
 obtain⟨o,vs,h1,hc,fK,hd,hz,h2,mW⟩:=x.at_.ob;obtain⟨ne,oT,ts,hT,nB,h3⟩:=x.at_.tr _ rfl;have BH:3<ts.size:=(Array.getElem?_eq_some_iff.mp h3).1;unfold setFlight;refine mJ (Rq h1 hd mW ?_);rw[if_pos (show(Value.ref T != Value.none)=true from by simp)];refine Sl hT nB BH ?_;have other:∀ b,b≠T->(s.heap.update T (Obj.mapFields (·.setIfInBounds 3 ((none:Option Addr).elim Value.none fun f=>rawInt f)))).get? b=s.heap.get? b:=fun b hb=>Rh _ _ (Ne.symm hb)
 have self:=Rv (Obj.mapFields (·.setIfInBounds 3 ((none:Option Addr).elim Value.none fun f=>rawInt f))) hT (Obj.isFreed_of_fields (Obj.data_mapFields nB _));have kI:T∉frs X.stack:=fun z=>(Rp.mp (I.stkSub T z)).elim (x.fpT _ O).2.1 (x.fpT _ O).2.2.1
 refine hQ _ (I.slots (ch:=[T]) (tk:=s.toks) (fun b hb=>by rw[S1.mp hb];exact x.fpT _ O) (fun b q _ hc e=>(other b fun z=>hc (by simp[z])).trans e)
  (fun b q hb e=>⟨q.slots,(other b fun z=>kI (z ▸ hb)).trans e⟩) (fun b hb q e=>(by obtain rfl:=S1.mp hb;exact⟨_,self⟩))) ⟨x.fp,fun p q=>?_,⟨o,vs,(other a (Ne.symm ne)).trans h1,hc,fK,hd,hz,h2,mW⟩,fun p q=>?_⟩
 ·cases q;exact x.fpT (T,fl) rfl
 ·cases q;exact⟨ne,_,_,self,Obj.data_mapFields nB _,by simp[BH]⟩
def CXe (P:Program) (w:World):CXT:=fun outer H s E e s'=>∃ a c dd T H',e=.ref a/\s'.os=s.os/\AllBare s'.gens/\Un (frs outer) [] H H' s.heap s'.heap/\HOk P w H' s'.heap /\
 (s.heap.objs.size<=a/\H' a=none)/\(s.heap.objs.size<=T/\H' T=none)/\ExcAt H' s'.heap a c dd (some (T,.none))/\E c dd H'
abbrev RK:=St->XK
def PX (X:Cx) (R:RK):Prop:=∀ (aa:List (Addr×Obj)) (σ:St) (H:Hp) (s:Shared) (a:Addr) (c:Value) (dd:Option Addr) (tb:Option Addr),Inv X aa σ H s->Exc X aa H s.heap a c dd (tb.map fun T=>(T,Value.none))->R σ c dd H->X.xe (.ref a) s
theorem map_tb {tb:Option Addr}:∀ p,(tb.map fun T=>(T,Value.none))=some p->p.2=Value.none\/p.2=v:=fun p e=>by
 cases tb with
 | none=>cases e
 | some T=>cases e;exact .inl rfl
theorem oG {K:PySem.W.Frag}{outer:List Env}{E:XK} :
  PX (jn (CXe P w) P w K mg base N qual scope f cd A outer s H E) (fun _=>E):=by
 intro aa σ H' s1 a c dd tb I x hE;have B:Body (jn (CXe P w) P w K mg base N qual scope f cd A outer s H E):=⟨O,O⟩;show wpAny _ _ (leaving _ (.ref a)) _ _ s1;unfold leaving;refine mJ (I.note B x map_tb fun s2 T I2 x2=>?_);refine I2.land x2 fun s3 I3 x3=>?_
 have sz:∀ b,bw (jn (CXe P w) P w K mg base N qual scope f cd A outer s H E) aa H' b->s.heap.objs.size<=b/\H' b=none:=fun b fb=>by
  refine⟨?_,fb.1⟩;rcases fb.2.2.2.1 with z|z
  ·exact absurd (show b∈([]:List Addr) from z) (by simp)
  ·exact z
 exact⟨a,c,dd,T,H',O,I3.os,I3.bare,I3.base,I3.hok,sz a x3.fp,sz T (x3.fpT _ O),x3.at_,hE⟩
theorem N0 {R:RK} (hp:PX X R):∀ (aa:List (Addr×Obj)) (σ:St) (H:Hp) (s:Shared) (e:Value) (s':Shared),Inv X aa σ H s->CXe X.prog X.w X.stack H s (R σ) e s'->X.xe e s':=by
 intro aa σ H s e s' I h;obtain⟨a,c,dd,T,H',rfl,os,bare,un,hok,ha,hT,x,hE⟩:=h;have I':Inv X aa σ H' s':=I.call' os un hok bare fun b z=>absurd z (by simp)
 refine hp aa σ H' s' a c dd (some T) I' ⟨I.fpOk ha.1 ha.2,fun p q=>?_,x⟩ hE;cases q
 exact I.fpOk hT.1 hT.2
section
variable {g:Array GenState}{d:Drawn}{t:Nat}{os:OsState}
variable {q:Str}{N:Addr}{bs:List Value}{hdct:Bool}{ab:Bool}{col:Option Bool}{k0 k1 k2 k3 k5:Option Value}{B gh:String}
abbrev kZ (C t:Addr):Obj:={ cls:=.ref C,data:=.fields #[.ref t,.none,.none,.none,.bool false,.none] }
abbrev mE (aT:List Value):Obj:={ cls:=.type "tuple",data:=.seq aT.toArray }
theorem Ps (F:ExcBaseFacts B newId gh iV) (T:OwnTail h iV bm){aT:List Value}{Q:Value->Shared->Prop}
  (oC:h.get? C=some (excClassObj nm q C N bs bm hdct sn sub ab col dd k0 k1 k2 k3 k5 newId)) (lk:PySem.W.Looks (model prog w) h (typeLookup (.ref C) "__init__") (some (.builtin gh))) (few:aT.length<=sizeLine)
  (fin:∀ h',(∀ b o,h.get? b=some o->h'.get? b=some o)->h'.get? (h.objs.size + 1)=some (kZ C (h.objs.size + 2))->Q (.ref (h.objs.size + 1)) ⟨h',g,d,t,os⟩) :
  wpAny (model prog w) A (call (.ref C) aT) Q E ⟨h,g,d,t,os⟩:=by
 have l1:=tc_lookup;have l2:=tc_bind (.ref C);have Hw:(⟨h,g,d,t,os⟩:Shared).TypeIs (.ref C) "type":=⟨_,oC,O⟩;refine SJ (codeAny_of_tree ?_);show wpAny _ _ (callAny (.ref C) _) _ _ _
 repeat (any_goals (first|assumption|(with_reducible refine Sn oC ?_)|wp_step))
 refine⟨O,codeAny_call_builtin_at (Code.quiet_builtin _ (by decide +kernel)) entry_typeCall (TH oC ?_)⟩;show wpAny _ (A.under (.builtin "type.__call__" ⟨.ref C::aT,[]⟩)) (Builtin.«type.__call__» ⟨.ref C::aT,[]⟩) _ _ _
 repeat (first|(with_reducible refine Sn oC ?_)|(with_reducible refine wpAny_madeBy_exc oC ?_)|wp_step)
 refine codeAny_call_builtin_code (Code.quiet_builtin _ F.quiet) (Ug F T oC (codeAny_exc_new_subT F T oC ?_ few));show wpAny _ _ _ _ _ _;have kk:∀ b o,h.get? b=some o->((h.push (mE aT)).push (kZ C h.objs.size)).get? b=some o:=fun b o e=>QU _ (QU _ e)
 have uV:=kk _ _ oC;have oX:((h.push (mE aT)).push (kZ C h.objs.size)).get? (h.objs.size + 1)=some { cls:=.ref C,data:=.fields #[.ref h.objs.size,.none,.none,.none,.bool false,.none] }:=by heap_get
 have zw:(Value.ref C::bm).contains (.ref C)=true:=by simp
 have T1:=T.keeps kk;unfold isInstance
 repeat (first|(with_reducible refine Sn oX ?_)|(with_reducible refine Ts uV ?_;rw[zw])|wp_step)
 show wpAny _ _ (typeLookup (.ref C) _) _ _ _;refine lk _ _ _ _ kk ?_;refine Rn (mJ (R8 (F.init.bind _) (mJ (SJ (codeAny_call_builtin F.init.plain F.initEntry (wpAny_check_init_subT F T1 uV oX O ?_))))))
 wp_walk
 refine fin _ (fun b o hb=>?_) ?_
 ·rw[Rh _ _ (RV (RM (QZ hb)))]
  exact QU _ (kk b o hb)
 ·rw[Rv _ (QU _ oX) rfl]
  simp only[Rr];rfl
theorem OK (F:ExcBaseFacts B newId gh iV) (T:OwnTail h iV bm){aT:List Value}{Q:Value->Shared->Prop}
  (oC:h.get? C=some (excClassObj nm q C N bs bm hdct sn sub ab col dd k0 k1 k2 k3 k5 newId)) (lk:PySem.W.Looks (model prog w) h (typeLookup (.ref C) "__init__") (some (.ref fI))) (oF:h.get? fI=some oI) (fF:oI.cls=.type "function") (few:aT.length<=sizeLine)
  (fin:wpAny (model prog w) (A.under (.builtin "type.__call__" ⟨.ref C::aT,[]⟩)) (call (.ref fI) (.ref (h.objs.size + 1)::aT)) (fun r s'=>r=.none/\Q (.ref (h.objs.size + 1)) s') E ⟨(h.push (mE aT)).push (kZ C h.objs.size),g,d,t,os⟩) :
  wpAny (model prog w) A (call (.ref C) aT) Q E ⟨h,g,d,t,os⟩:=by
 have l1:=tc_lookup;have l2:=tc_bind (.ref C);have Hw:(⟨h,g,d,t,os⟩:Shared).TypeIs (.ref C) "type":=⟨_,oC,O⟩;refine SJ (codeAny_of_tree ?_);show wpAny _ _ (callAny (.ref C) _) _ _ _
 repeat (any_goals (first|assumption|(with_reducible refine Sn oC ?_)|wp_step))
 refine⟨O,codeAny_call_builtin_at (Code.quiet_builtin _ (by decide +kernel)) entry_typeCall (TH oC ?_)⟩;show wpAny _ (A.under (.builtin "type.__call__" ⟨.ref C::aT,[]⟩)) (Builtin.«type.__call__» ⟨.ref C::aT,[]⟩) _ _ _
 repeat (first|(with_reducible refine Sn oC ?_)|(with_reducible refine wpAny_madeBy_exc oC ?_)|wp_step)
 refine codeAny_call_builtin_code (Code.quiet_builtin _ F.quiet) (Ug F T oC (codeAny_exc_new_subT F T oC ?_ few));show wpAny _ _ _ _ _ _;have kk:∀ b o,h.get? b=some o->((h.push (mE aT)).push (kZ C h.objs.size)).get? b=some o:=fun b o e=>QU _ (QU _ e)
 have uV:=kk _ _ oC;have KA:=kk _ _ oF;have oX:((h.push (mE aT)).push (kZ C h.objs.size)).get? (h.objs.size + 1)=some { cls:=.ref C,data:=.fields #[.ref h.objs.size,.none,.none,.none,.bool false,.none] }:=by heap_get
 have zw:(Value.ref C::bm).contains (.ref C)=true:=by simp
 unfold isInstance
 repeat (first|(with_reducible refine Sn oX ?_)|(with_reducible refine Ts uV ?_;rw[zw])|wp_step)
 show wpAny _ _ (typeLookup (.ref C) _) _ _ _;refine lk _ _ _ _ kk ?_;refine Rn (mJ ?_);unfold bindSpecial;refine mJ (SE (T:="function") ⟨_,KA,fF⟩ ?_);rw[if_pos (by decide)];refine QW (mJ (RJ fin (fun r s' z=>?_) fun _ _ x=>x));obtain⟨rfl,z⟩:=z
 wp_walk
 exact z
theorem LY {x:Sem Value}{Q:Flow->Shared->Prop} (hb:bm.contains (.type "BaseException")=true)
  (hx:wpAny M A x (fun v s₁=>∃ e t dx,v=.ref e/\s₁.heap.get? C=some (excClassObj nm q C N bs bm hdct sn sub ab col dd k0 k1 k2 k3 k5 newId)/\s₁.heap.get? e=some { cls:=.ref C,dict:=dx,data:=.fields #[.ref t,.none,.none,.none,.bool false,.none] }/\wpAny M A (raiseNew (.ref e):Sem Flow) Q E s₁) E s) :
  wpAny M A (raiseStmt env (some x) none) Q E s:=by
 have Ko:(Value.ref C::bm).contains (.type "BaseException")=true:=by rw[Up,hb,Uq]
 unfold raiseStmt;refine mJ (RJ hx (fun v s₁ z=>?_) fun _ _ y=>y);obtain⟨e,t,dx,rfl,oC,oe,z⟩:=z;obtain⟨hp,g,d,tk,os⟩:=s₁
 repeat (first|exact z|(with_reducible refine Sn oe ?_)|(with_reducible refine Sn oC ?_)|(with_reducible refine Ts oC ?_;rw[Ko])|wp_step)
end
def tS (K:PySem.W.Frag) (C:Addr) (iV:List Value) (newId:String):Bool:=match K.lookup C with
 | some ⟨.type "type",_,.cls cd,sl⟩=>(match cd.mro,sl.toList with
  | .ref C1::bm,[_,_,_,_,some (.builtin n),_]=>C1 == C && n == newId && !cd.hasDel && PySem.W.tailIn K iV bm
  | _,_=>false)
 | _=>false
structure XCls (h:Heap) (C:Addr) (iV bm:List Value) (newId:String):Prop where
 obj:∃ nm q N bs hdct sn sub ab col dd k0 k1 k2 k3 k5,h.get? C=some (excClassObj nm q C N bs bm hdct sn sub ab col dd k0 k1 k2 k3 k5 newId)
 tail:OwnTail h iV bm
theorem tV {K:PySem.W.Frag} (X:K.In h) (e:tS K C iV newId=true):∃ bm,XCls h C iV bm newId:=by
 unfold tS at e;split at e
 ·rename_i d1 c1 s1 at1
  split at e
  ·rename_i C1 bm j0 j1 j2 j3 n1 j5 m1 z1
   simp only[RC,beq_iff_eq,Bool.not_eq_true'] at e
   obtain⟨⟨⟨rfl,rfl⟩,nd⟩,tl⟩:=e;obtain⟨f1,f2,f3,f4,f5,f6,f7,f8,f9,Jl,QK⟩:=c1;dsimp only at m1 nd;subst m1 nd;obtain rfl:s1=#[j0,j1,j2,j3,some (.builtin n1),j5]:=by
    obtain⟨l1⟩:=s1;simp only at z1
    rw[z1]
   exact⟨bm,⟨f1,f5,f4,f2,f6,f7,f8,f9,Jl,d1,j0,j1,j2,j3,j5,X _ _ at1⟩,PySem.W.tail_of_in X tl⟩
  ·cases e
 ·cases e
section
open PySem.Builtin.ObjectAttr
abbrev bmV:List Value:=[.type "ValueError",.type "Exception",.type "BaseException",.type "object"]
theorem passV (self:Value):refuseLoop self "__setattr__" bmV=pure ():=by kernel_rfl
def qq:List Value->Bool
 | .ref _::r=>qq r
 | l=>l == bmV
theorem GP (self:Value):∀ {l:List Value},qq l=true->refuseLoop self "__setattr__" l=pure ()
 | .ref c::r,e=>by rw[refuseLoop_ref];exact GP self (l:=r) (by simpa [qq] using e)
 | [],e=>by cases e
 | .type n::r,e=>by rw[beq_iff_eq.mp (show((Value.type n::r) == bmV)=true from e)];exact passV self
 | .none::r,e=>by cases e
 | .bool _::r,e=>by cases e
 | .int _ _::r,e=>by cases e
 | .str _ _::r,e=>by cases e
 | .bytes _ _::r,e=>by cases e
 | .float _ _::r,e=>by cases e
 | .builtin _::r,e=>by cases e
 | .notImplemented::r,e=>by cases e
 | .ellipsis::r,e=>by cases e
theorem GC:∀ {l:List Value},qq l=true->l.contains (.type "object")=true
 | .ref c::r,e=>by rw[Up,GC (l:=r) (by simpa [qq] using e),Uq]
 | [],e=>by cases e
 | .type n::r,e=>by rw[beq_iff_eq.mp (show((Value.type n::r) == bmV)=true from e)];rfl
 | .none::r,e=>by cases e
 | .bool _::r,e=>by cases e
 | .int _ _::r,e=>by cases e
 | .str _ _::r,e=>by cases e
 | .bytes _ _::r,e=>by cases e
 | .float _ _::r,e=>by cases e
 | .builtin _::r,e=>by cases e
 | .notImplemented::r,e=>by cases e
 | .ellipsis::r,e=>by cases e
def ownVIn (K:PySem.W.Frag) (C:Addr):Bool:=(PySem.W.clsIn K C).any fun cd=>qq cd.mro
structure XSet (K:PySem.W.Frag) (C:Addr) (f:Str):Prop where
 sa:PySem.W.findIn K (.ref C) "__setattr__"=some (some (.builtin "object.__setattr__"))
 ov:ownVIn K C=true
 tk:PySem.W.takerIn K C f=some none
 hd:PySem.W.hasDictIn K C=true
section
variable {K:PySem.W.Frag}{x:Addr}
theorem Na  (X:K.In s.heap) (hx:s.heap.get? x=some { cls:=.ref C,data:=.fields vs }) (Z:XSet K C name)
  (fin:∀ h',(∀ b o,b≠x->s.heap.get? b=some o->h'.get? b=some o)->h'.get? x=some { cls:=.ref C,dict:=some s.heap.objs.size,data:=.fields vs } ->
   h'.Ns1 s.heap.objs.size (fun y=>if y=name then some v else none)->Q () { s with heap:=h',toks:=s.toks + 2 }):wpAny (model prog w) A (setAttr (.ref x) name v) Q E s:=by
 have J:PySem.W.InstAt s.heap x { cls:=.ref C,data:=.fields vs } C none:=⟨hx,O,O,True.intro⟩;refine PySem.W.set_plain X J Z.sa ?_;have SF:=PySem.F.store_object;obtain⟨cd,hc,ho⟩:=PySem.W.any_some Z.ov;have ne:cd.mro.isEmpty=false:=by cases q:cd.mro with|nil=>rw[q] at ho;cases ho|cons _ _=>rfl
 have Jv:PySem.W.Looks (model prog w) s.heap (isInstance (.ref x) (.type "object")) true:=J.type.andThen (PySem.W.looks_mroIn X (by unfold PySem.W.mroIn;rw[hc,Option.bind_some,if_neg (by rw[ne];decide),GC ho]));refine codeAny_call_builtin SF.slot.plain SF.entry (@PySem.W.check_slot (model prog w) _ _ { s with toks:=s.toks + 1 } "object.__setattr__" "object" "__setattr__" (.ref x) [.str name s.toks,v] [] _ SF.kind SF.split Jv (SF.args (.ref x) (.str name s.toks) v) ?_);obtain⟨sE,ha,hr⟩:=Option.bind_eq_some_iff.mp Z.tk;have mr:PySem.W.Looks (model prog w) s.heap (mroOf (.ref C)) cd.mro:=(PySem.W.looks_clsIn X hc).andThen .now;have tk:PySem.W.Looks (model prog w) s.heap (storeTaker? sE) none:=by
  cases sE with
  | none=>cases hr;exact .now
  | some a=>
   obtain⟨b,hb,z⟩:=Option.map_eq_some_iff.mp hr;refine(PySem.W.looks_takesIn X hb).andThen ?_;cases b with
   | true=>cases z
   | false=>exact .now
 rw[PySem.W.osa_eq,refuse_eq];refine mJ (mJ (PySem.W.Looks.here (s:={ s with toks:=s.toks + 1 }) J.type (mJ (PySem.W.Looks.here (s:={ s with toks:=s.toks + 1 }) mr ?_))));rw[GP _ ho];refine QW (mJ (PySem.W.Looks.here (s:={ s with toks:=s.toks + 1 }) J.type (mJ (PySem.W.Looks.here (s:={ s with toks:=s.toks + 1 }) (PySem.W.looks_findIn X ha) (mJ (PySem.W.Looks.here (s:={ s with toks:=s.toks + 1 }) tk ?_))))));obtain⟨QR,j7,bD⟩:=PySem.W.any_some Z.hd;refine mJ (QW (mJ (mJ (wpAny_loadPart hx (mJ (PySem.W.Looks.here (s:={ s with toks:=s.toks + 1 }) (PySem.W.looks_clsIn X j7) ?_))))));rw[bD];have lt:=QZ hx;have xs:x≠s.heap.objs.size:=Q5 lt;have mK:(s.heap.push { cls:=.type "dict",data:=.dict #[] }).get? x=some { cls:=.ref C,data:=.fields vs }:=QU _ hx;refine mJ (wpAny_alloc' (mJ (wpAny_update' mK (QW (mJ (QW (mJ ?_)))))));generalize hG:(s.heap.push { cls:=.type "dict",data:=.dict #[] }).update x (fun o=>{ cls:=o.cls,dict:=some s.heap.objs.size,data:=o.data,slots:=o.slots })=G;have dP:∀ b,b≠x->G.get? b=(s.heap.push { cls:=.type "dict",data:=.dict #[] }).get? b:=fun b hb=>by rw[<- hG];exact Rh _ _ (Ne.symm hb)
 have gd:G.get? s.heap.objs.size=some { cls:=.type "dict",data:=.dict #[] }:=(dP _ (Ne.symm xs)).trans (Q1 _ O);have gx:G.get? x=some { cls:=.ref C,dict:=some s.heap.objs.size,data:=.fields vs }:=by rw[<- hG,Rv _ mK rfl]
 have n0:G.Ns s.heap.objs.size (fun _=>none):=⟨_,#[],_,gd,O,fun e he=>absurd he (by simp),fun _=>O⟩;refine wpAny_nsSet1 (s:=⟨G,s.gens,s.drawn,s.toks + 1,s.os⟩) (Uv n0) fun h' n9 dD=>?_
 obtain⟨oD,J7,IC,yp,zH,zp⟩:=n9.count (ns:=[name]) (fun y hy=>by
  split at hy
  ·rename_i z;simp[z]
  ·exact absurd O hy)
 refine mJ (wpAny_lookBehind yp (by rw[zH];exact pastItsLine_dict (Rz zp (by simp[Q3]))) ?_);refine QW (fin h' (fun b o hb q=>?_) ((dD.2 _ xs).trans gx) n9);exact(dD.2 b (Q5 (QZ q))).trans ((dP b hb).trans (QU _ q))
end
structure XGet (K:PySem.W.Frag) (C:Addr) (f:Str):Prop where
 ga:PySem.W.findIn K (.ref C) "__getattribute__"=some (some (.builtin "BaseException.__getattribute__"))
 gt:PySem.W.findIn K (.ref C) "__getattr__"=some none
 ba:PySem.W.mroIn K C (.type "BaseException")=some true
 na:PySem.W.findIn K (.ref C) f=some none
 hd:PySem.W.hasDictIn K C=true
section
variable {K:PySem.W.Frag}{x dx:Addr}{mA:Str->Option Value}
end
end
def del (H:Hp) (a:Addr):Hp:=fun b=>if b=a then none else H b
theorem EV:del H a a=none:=by unfold del;rw[if_pos rfl]
theorem oR  (h:b≠a):del H a b=H b:=by unfold del;rw[if_neg h]
def jL (C t a:Addr) (dx:Option Addr):HO:=.ext fun h=>h.get? a=some { cls:=.ref C,dict:=dx,data:=.fields #[.ref t,.none,.none,.none,.bool false,.none] }
theorem Inv.del {a:Addr}{φ:Heap->Prop} (I:Inv X aa σ H s) (e:H a=some (.ext φ)):Inv X aa σ (del H a) s:=by
 have ne:∀ b u,H b=some u->(∀ ψ,u≠.ext ψ)->b≠a:=fun b u q n z=>by rw[z,e] at q;cases q;exact n _ rfl
 have un:Un X.fs X.ex X.H₀ (L2.del H a) X.s₀.heap s.heap:=by
  obtain⟨b1,b2,b3,b4,b5,b6,b7⟩:=I.base;refine⟨b1,b2,fun b o q n x=>?_,b4,fun b xs q=>?_,fun b o u q=>?_,fun b pp pq q=>?_⟩
  ·unfold L2.del;split
   ·rfl
   ·exact b3 b o q n x
  ·have:=b5 b xs q
   rw[oR (ne b _ this (by intro ψ z;cases z))];exact this
  ·have:=b6 b o u q
   rw[oR (ne b _ this (by intro ψ z;cases z))];exact this
  ·have:=b7 b pp pq q
   rw[oR (ne b _ this (by intro ψ z;cases z))];exact this
 have none_of:∀ b,H b=none->L2.del H a b=none:=fun b q=>by unfold L2.del;split <;> first|rfl|exact q
 refine { I with base:=un,free:=none_of _ I.free,freeC:=fun x c q=>none_of _ (I.freeC x c q),pin:=fun p hp=>?_,hok:=fun b o q=>?_ }
 ·obtain⟨p1,p2,p3⟩:=I.pin p hp
  exact⟨p1,none_of _ p2,p3⟩
 ·by_cases hb:b=a
  ·subst hb;rw[EV] at q;cases q
  ·rw[oR hb] at q
   refine(I.hok b o q).stay (fun c u _ r=>r) (fun c r=>?_) (fun c xs r=>?_) fun c ob r=>?_
   ·rw[oR (ne c _ r (by intro ψ z;cases z))];exact r
   ·rw[oR (ne c _ r (by intro ψ z;cases z))];exact r
   ·rw[oR (ne c _ r (by intro ψ z;cases z))];exact r
theorem DW {R:RK}{t:Addr}{Q:Flow->Shared->Prop} (hp:PX X R) (I:Inv X aa σ H s) (fp:bw X aa H a)
  (he:s.heap.get? a=some { cls:=.ref C,dict:=dx,data:=.fields #[.ref t,.none,.none,.none,.bool false,.none] }) (hR:R σ (.ref C) dx H):wpAny (model X.prog X.w) X.A (raiseNew (.ref a):Sem Flow) Q X.xe s:=by
 obtain⟨f0,f1,f2,f3,f4,f5⟩:=id fp;refine Bf (s:=s) ?_ he O (by simp) fun h' o' lG k1 k2 k3 k4 k5 k6 k7 k8=>?_
 ·rcases I.hdAt with z|⟨b,cs,z,c⟩
  ·exact .inl z
  ·exact .inr ⟨b,cs,z,c.chn I.hok,c.not_mem f0⟩
 ·have I':Inv X aa σ H { s with heap:=h' }:=I.turned (t':=s.toks) k1 f0 f1 f3 f4 f5
  refine hp aa σ H _ a (.ref C) dx none I' ⟨fp,fun p q=>(by cases q),⟨⟨o',lG,k2,k3,k4,k5,k6,?_,?_⟩,fun p q=>(by cases q)⟩⟩ hR
  ·rcases I.hdAt with z|⟨b,cs,z,c⟩
   ·rw[z] at k8
    exact⟨[],⟨Sm,fun j a q=>by simp at q⟩,k8⟩
   ·rw[z] at k8
    exact⟨b::cs,c,k8⟩
  ·exact k7
structure XC0 (K:PySem.W.Frag) (C:Addr):Prop where
 at_:tS K C bmV "ValueError.__new__"=true
 kp:PySem.W.keepIn K (.ref C)=true
 init:PySem.W.findIn K (.ref C) "__init__"=some (some (.builtin "ValueError.__init__"))
structure XCI (K:PySem.W.Frag) (C f:Addr):Prop where
 at_:tS K C bmV "ValueError.__new__"=true
 kp:PySem.W.keepIn K (.ref C)=true
 init:PySem.W.findIn K (.ref C) "__init__"=some (some (.ref f))
 fn:PySem.W.isFn K (.ref f)=true
def K8 (C:Addr) (R:RK) (t:TA):TS:=fun _ σ H=>t σ H fun vs H1=>vs.length<=sizeLine/\R σ (.ref C) none H1
def E4 (C:Addr) (sp:Sp) (aP:List V) (R:RK) (t:TA):TS:=fun _ σ H=>t σ H fun vs H1=>vs.length<=sizeLine/\∀ a t',H1 a=none ->
 sp (.ref a::(vs++aP)) (upd H1 a (jL C t' a none)) (fun v H2=>v=.non/\∃ dx,H2 a=some (jL C t' a dx)/\R σ (.ref C) dx (del H2 a)) (R σ)
section
variable {R:RK}{aD pos:Pos}
theorem GK {a:List Expr}{Q:Flow->Shared->Prop} (hx:XCls s.heap C bmV bm "ValueError.__new__")
  (h:wpAny (model X.prog X.w) X.A (eval (.Call (.Name x np) a [] aD) X.env) (fun v s₁=>∃ b t dx,v=.ref b/\(∀ o,s.heap.get? C=some o->s₁.heap.get? C=some o)/\s₁.heap.get? b=some { cls:=.ref C,dict:=dx,data:=.fields #[.ref t,.none,.none,.none,.bool false,.none] }/\wpAny (model X.prog X.w) X.A (raiseNew (.ref b):Sem Flow) Q X.xe s₁) X.xe s) :
  wpAny (model X.prog X.w) X.A (exec (.Raise (some (.Call (.Name x np) a [] aD)) none pos) X.env) Q X.xe s:=by
 obtain⟨⟨nm,q,N,bs,hdct,sn,sub,ab,col,dd,k0,k1,k2,k3,k5,oC⟩,T⟩:=hx;rw[arm_exec_Raise];refine mJ (SI (LY (C:=C) (nm:=nm) (q:=q) (N:=N) (bs:=bs) (bm:=bm) (hdct:=hdct) (sn:=sn) (sub:=sub) (ab:=ab) (col:=col) (dd:=dd) (k0:=k0) (k1:=k1) (k2:=k2) (k3:=k3) (k5:=k5) (newId:="ValueError.__new__") (T.hasType O) (mJ (RJ h (fun v s1 z=>mJ (SI (QW ?_))) fun _ _ y=>y))));obtain⟨b,t,dx,z1,z2,z3,z4⟩:=z;exact⟨b,t,dx,z1,z2 _ oC,z3,z4⟩
theorem Ny {s0:Shared}{Q:Flow->Shared->Prop} (hp:PX X R) (c:XC0 X.K C) (I:Inv X aa σ H s) (hz:us.length<=sizeLine) (hs:∀ o,s0.heap.get? C=some o->s.heap.get? C=some o) (hR:R σ (.ref C) none H) :
  wpAny (model X.prog X.w) X.A (call (.ref C) us) (fun v s₁=>∃ b t dx,v=.ref b/\(∀ o,s0.heap.get? C=some o->s₁.heap.get? C=some o)/\s₁.heap.get? b=some { cls:=.ref C,dict:=dx,data:=.fields #[.ref t,.none,.none,.none,.bool false,.none] }/\wpAny (model X.prog X.w) X.A (raiseNew (.ref b):Sem Flow) Q X.xe s₁) X.xe s:=by
 obtain⟨bm,⟨nm,q,N,bs,hdct,sn,sub,ab,col,dd,k0,k1,k2,k3,k5,oC⟩,T⟩:=tV I.kIn c.at_;have I0:=I;obtain⟨h,g,d,tk,os⟩:=s;refine Ps PySem.F.excBase_ValueError T oC (PySem.W.looks_findIn I.kIn c.init) hz fun h' k' e'=>?_
 have I':Inv X aa σ H ⟨h',g,d,tk,os⟩:=I0.kept (t':=tk) k';refine⟨_,_,none,O,fun o q=>k' _ _ (hs o q),e',DW hp I' ?_ e' hR⟩;exact I0.fpOk (s:=⟨h,g,d,tk,os⟩) (RO _) (I0.hok.fresh (RO _))
theorem AQ (hp:PX X R) (c:XC0 X.K C) (hg:Gl X x) (hm:X.mg x=some (.ref C)) (dk:(x == ("__debug__":Str))=false:=by decide):PS X (.Raise (some (.Call (.Name x np) [] [] aD)) none pos) (K8 C R tNil):=by
 intro aa s σ H D I h;obtain⟨bm,xc⟩:=tV I.kIn c.at_;refine GK xc (RP (qf I hg hm ?_ dk));exact PySem.W.callWith_K0 I.kIn c.kp (Ny hp c I h.1 (fun _ q=>q) h.2)
variable {k:Nat}
theorem LO (hp:PX X R) (c:XCI X.K C f) (F:cM X.prog X.w X.K X.mg X.base CX k f fd ps sp) (hr:bj (k + 1) X.A) (hb:fz X.K fd ps ds) (hd:aw aP ds) (yx:∀ σ,o0 CX X (R σ)) (hg:Gl X x) (hm:X.mg x=some (.ref C)) (ha:PA X (e::es) t)
  (dk:(x == ("__debug__":Str))=false:=by decide) (he:starEach (e::es) X.env=(false,eval e X.env)::starEach es X.env:=by rfl) (bU:(backTo aD (starEach es X.env)).any (·.1)=false:=by rfl) :
  PS X (.Raise (some (.Call (.Name x np) (e::es) [] aD)) none pos) (E4 C sp aP R t):=by
 intro aa s σ H D I h;obtain⟨Qq,xc⟩:=tV I.kIn c.at_;refine GK xc (RP (qf I hg hm ?_ dk));refine PySem.W.callWith_K (h₀:=X.base) I.ok.mod.kin c.kp (thn (ha aD aa s σ H _ I h) fun us s1 ⟨vs,H1,I1,r,z,q⟩=>⟨I1.kIn,?_⟩) he bU;obtain⟨Qx,⟨QN,q2,N2,QM,Ci,Qb,IT,QI,JR,QO,l0,l1,l2,l3,l5,Cz⟩,_⟩:=tV I.ok.mod.kin c.at_;have C0:∀ o,s.heap.get? C=some o->X.base.get? C=some o:=fun o q=>by rw[I.bk _ _ Cz] at q;rw[<- q];exact Cz
 obtain⟨bm,⟨nm,qn,N,bs,hdct,sn,sub,ab,col,dd,k0,k1,k2,k3,k5,oC⟩,T⟩:=tV I1.kIn c.at_;have uB:(X.K.lookup f).map (·.cls)=some (.type "function"):=beq_iff_eq.mp c.fn;obtain⟨oF,hF,hFc⟩:∃ oF,X.K.lookup f=some oF/\oF.cls=.type "function":=by
  cases hk:X.K.lookup f with
  | none=>rw[hk] at uB;cases uB
  | some oF=>rw[hk] at uB;exact⟨oF,O,Option.some.inj uB⟩
 have hz:us.length<=sizeLine:=by rw[<- r.length];exact z
 have J:=I1;obtain⟨cv,g,d,tk,os⟩:=s1;refine OK PySem.F.excBase_ValueError T oC (PySem.W.looks_findIn I1.kIn c.init) (I1.kIn _ _ hF) hFc hz ?_;have kk:∀ b o,cv.get? b=some o->((cv.push (mE us)).push (kZ C cv.objs.size)).get? b=some o:=fun b o e=>QU _ (QU _ e)
 have oX:((cv.push (mE us)).push (kZ C cv.objs.size)).get? (cv.objs.size + 1)=some { cls:=.ref C,data:=.fields #[.ref cv.objs.size,.none,.none,.none,.bool false,.none] }:=by heap_get
 have fr:H1 (cv.objs.size + 1)=none:=J.hok.fresh (RO _);have I2:Inv X aa σ (upd H1 (cv.objs.size + 1) (jL C cv.objs.size (cv.objs.size + 1) none)) ⟨(cv.push (mE us)).push (kZ C cv.objs.size),g,d,tk,os⟩:=
  J.laid (t':=tk) kk (RO _) ⟨oX,⟨_,oX⟩,fun h1 h2 p1 p2=>p2 _ p1⟩
 have q':=q (cv.objs.size + 1) cv.objs.size fr;have r2:aw (V.ref (cv.objs.size + 1)::(vs++aP)) (Value.ref (cv.objs.size + 1)::(us++ds)):=.cons O (r.append hd);have hl:(Value.ref (cv.objs.size + 1)::us++ds).length=ps.length:=by
  have e:=r2.length;rw[F.len _ _ _ _ q'] at e;exact e.symm
 refine SJ (codeAny_mono (F.run _ X.stack _ _ ⟨Value.ref (cv.objs.size + 1)::us,[]⟩ (Value.ref (cv.objs.size + 1)::(us++ds)) _ _ (R σ) (hr.make C us []) (I2.env0.make C us []) (hb _ (Value.ref (cv.objs.size + 1)::us) I2.kIn hl) r2 q') fun rr s' gY=>?_);cases rr with
 | error e=>exact yx σ aa σ _ _ e s' I2 gY
 | ok fl=>
  cases fl with
  | ret u=>
   obtain⟨v,H',I3,rv,ev,dx,e3,q3⟩:=I2.after gY;subst ev;refine⟨rv,_,cv.objs.size,dx,O,fun o q=>I3.bk _ _ (C0 o q),(I3.hok _ _ e3).1,?_⟩;refine DW hp (I3.del e3) ?_ (I3.hok _ _ e3).1 q3;exact J.fpOk (s:=⟨cv,g,d,tk,os⟩) (RO _) EV
  | next=>exact False.elim gY
  | brk=>exact False.elim gY
  | cont=>exact False.elim gY
def sFldX (K:PySem.W.Frag) (ta tv:TE) (f:Str):TS:=fun D σ H=>tv σ H fun y H1=>ta σ H1 fun x H2=>∃ a C t,x=.ref a/\H2 a=some (jL C t a none)/\XSet K C f /\
 ∀ dx,H2 dx=none->D.nx σ (upd (upd H2 dx (.xd [(f,y)])) a (jL C t a (some dx)))
theorem MQ {o value:Expr}{tv:TE}{f:Str} (ha:PE X o ta) (hv:PE X value tv) (hs:swapsWith value (some (.Attribute o f aU)) pos.line X.env=pure false):PS X (.Assign [.Attribute o f aU] value pos) (sFldX X.K ta tv f):=by
 intro aa s σ H D I h;refine plainObj_wpAny_Assign_Attribute (thn (hv aa s σ H _ I h) fun v s1=>L2.ex5 fun y H1 I1 ry q1=>thn (ha aa s1 σ H1 _ I1 q1) fun u s2=>L2.ex5 fun x H2 I2 rx q2=>?_) hs;obtain⟨a,C,t,rfl,e2,Z,q2⟩:=q2;obtain rfl:u=Value.ref a:=rx;have oa:=(I2.hok _ _ e2).1;refine Na I2.kIn oa Z fun h' k1 k2 k3=>?_
 have dn:H2 s2.heap.objs.size=none:=I2.hok.fresh (QY _);have da:s2.heap.objs.size≠a:=(ap e2 dn).symm;have old:∀ b o,s2.heap.get? b=some o->b≠s2.heap.objs.size:=fun b o q=>Q5 (QZ q)
 have na:∀ b u,H2 b=some u->(∀ ψ,u≠.ext ψ)->b≠a:=fun b u q n z=>by rw[z,e2] at q;cases q;exact n _ rfl
 have nd:∀ b u,H2 b=some u->b≠s2.heap.objs.size:=fun b u q=>ap q dn
 have dH:∀ b u,H2 b=some u->(∀ ψ,u≠.ext ψ)->upd (upd H2 s2.heap.objs.size (.xd [(f,y)])) a (jL C t a (some s2.heap.objs.size)) b=some u:=fun b u q n=>by rw[ai (na b u q n),ai (nd b u q)];exact q
 refine⟨σ,_,I2.un (t':=s2.toks + 2) ⟨fun b o q n _ _=>k1 b o (fun z=>?_) q,fun b o q n _ _=>⟨o.slots,k1 b o (fun z=>?_) q⟩,fun b o q n _=>?_,fun b o q _=>?_,fun b xs q=>?_,fun b o u q=>?_,fun b pp pq q=>?_⟩ (fun b o q=>?_),q2 _ dn⟩
 ·rw[z,e2] at n;cases n
 ·rw[z,e2] at n;cases n
 ·rw[ai (fun z=>by rw[z,e2] at n;cases n),ai (old b o q)];exact n
 ·by_cases z:b=a
  ·subst z;exact⟨_,k2⟩
  ·exact⟨o,k1 b o z q⟩
 ·exact dH b _ q (by intro ψ z;cases z)
 ·exact dH b _ q (by intro ψ z;cases z)
 ·exact dH b _ q (by intro ψ z;cases z)
 ·by_cases z:b=a
  ·subst z
   rw[ah] at q;cases q
   exact⟨k2,⟨_,k2⟩,fun h1 h2 p1 p2=>p2 _ p1⟩
  ·rw[ai z] at q
   by_cases z2:b=s2.heap.objs.size
   ·subst z2
    rw[ah] at q;cases q
    refine⟨_,k3,fun g=>?_⟩;by_cases hg:g=f
    ·subst hg;simpa [dM] using ry
    ·have e0:([(f,y)]:List (Str×V)).lookup g=none:=by rw[Sf,show(g == f)=false from by simpa using hg];rfl
     rw[e0,if_neg hg];exact True.intro
   ·rw[ai z2] at q
    refine(I2.hok b o q).stay (fun c u hc r=>k1 c u ?_ r) (fun c r=>dH c _ r (by intro ψ z;cases z)) (fun c xs r=>dH c _ r (by intro ψ z;cases z)) fun c ob r=>dH c _ r (by intro ψ z;cases z)
    rcases hc with hc|hc
    ·rw[hc];exact z
    ·exact na c _ hc (by intro ψ z;cases z)
end
section
open PySem.Builtin.ObjectAttr
structure XIs (K:PySem.W.Frag) (C:Addr):Prop where
 ga:PySem.W.findIn K (.ref C) "__getattribute__"=some (some (.builtin "BaseException.__getattribute__"))
 gt:PySem.W.findIn K (.ref C) "__getattr__"=some none
 ba:PySem.W.mroIn K C (.type "BaseException")=some true
 ob:PySem.W.mroIn K C (.type "object")=some true
 cl:PySem.W.findIn K (.ref C) "__class__"=some (some (.builtin "object.__class__"))
 gs:PySem.W.specialIn K (.builtin "object.__class__") "__get__"=some (some (.builtin "getset_descriptor.__get__"))
 tk:PySem.W.takesIn K (.builtin "object.__class__")=some true
 hd:PySem.W.hasDictIn K C=true
section
variable {K:PySem.W.Frag}{x:Addr}{od:Option Obj}
end
structure IsX (H:Hp) (a C:Addr) (dd:Option Addr):Prop where
 at_:∃ o u,H a=some (.frz o u)/\o.cls=.ref C/\o.dict=dd/\∃ vs,o.data=.fields vs
end
abbrev Cx.tr (X:Cx) (pn:List (Addr×Obj)) (E:Value->Shared->Prop):Cx:={ X with pn:=pn,xe:=E }
abbrev Cx.hnd (X:Cx) (a:Addr) (H₀:Hp):Cx:={ X with A:=X.A.mark (some (.ref a)),H₀:=H₀,xe:=fun _ _=>False }
abbrev Hd1:=Addr×Option Nat×TS
def gy.as (D:gy) (i:Nat):gy:=⟨fun σ H=>D.nx (σ.set i none) H,D.rt,fun σ H=>D.bk (σ.set i none) H,fun σ H=>D.ct (σ.set i none) H⟩
inductive PHs (X:Cx):List ExceptHandler->List Hd1->Prop where
 | nil:PHs X [] []
 | one {x:Str}{np pos:Pos}{b₀:Stmt}{su:List Stmt}{D:Addr}{t:TS}{hs:List ExceptHandler}{ts:List Hd1} (hg:Gl X x) (hm:X.mg x=some (.ref D)) (hB:PySem.W.mroIn X.K D (.type "BaseException")=some true) (hT:PySem.W.typeIn X.K (.ref D)=some (.type "type"))
   (dk:(x == ("__debug__":Str))=false) (hb:∀ a H₀,PSs (X.hnd a H₀) (b₀::su) t) (r:PHs X hs ts):PHs X (.ExceptHandler (some (.Name x np)) none (b₀::su) pos::hs) ((D,none,t)::ts)
 | as_ {x n:Str}{i:Nat}{np pos:Pos}{b₀:Stmt}{su:List Stmt}{D:Addr}{t:TS}{hs:List ExceptHandler}{ts:List Hd1} (hg:Gl X x) (hm:X.mg x=some (.ref D)) (hB:PySem.W.mroIn X.K D (.type "BaseException")=some true) (hT:PySem.W.typeIn X.K (.ref D)=some (.type "type"))
   (dk:(x == ("__debug__":Str))=false) (hN:X.N.Nodup) (hi:X.N[i]?=some n) (hk:X.env.kindOf n=some .local) (hb:∀ a H₀,PSs (X.hnd a H₀) (b₀::su) t) (r:PHs X hs ts):PHs X (.ExceptHandler (some (.Name x np)) (some n) (b₀::su) pos::hs) ((D,some i,t)::ts)
structure fq (K:PySem.W.Frag) (x qual:Str) (st:Stmt) (f:Addr) (fd:FuncData):Prop where
 ex:∃ (oc:Value) (od:Option Addr) (dV kV bL pm:Value) (an:Option Addr) (aA ct:Value) (dI:Array (Option Value)),
  fd=PySem.W.fnOf x qual (tE st) (md st) (aC st) dV kV bL pm an aA ct/\K.lookup f=some ⟨oc,od,.func fd,dI⟩/\PySem.W.codeIn K aA qual=true
theorem tJ {K:PySem.W.Frag}{od an:Option Addr}{dV kV bL aA:Value} (l:K.lookup f=some ⟨oc,od,.func (PySem.W.fnOf x qual (tE st) (md st) (aC st) dV kV bL pm an aA ct),dI⟩)
  (c:PySem.W.codeIn K aA qual=true):fq K x qual st f (PySem.W.fnOf x qual (tE st) (md st) (aC st) dV kV bL pm an aA ct):=⟨⟨oc,od,dV,kV,bL,pm,an,aA,ct,dI,O,l,c⟩⟩
section
variable {K:PySem.W.Frag}
theorem fq.ok {k:Nat} (F:fq K x qual st f fd) (S:aZ N ps (aC st)) (len:∀ vs H Q E,sp vs H Q E->vs.length=ps.length)
  (cT:∀ (aA:Value) (A:Around) (outer:List Env) (s:Shared) (H:Hp) (vs:List V) (Q:VK) (E:XK),bj k (A.deeper (envOfC qual (aC st) s.heap.objs.size f aA))->sp vs H Q E ->
   ∃ t,PSs (jn CX0 P w K mg base N qual (aC st) f aA A outer s H E).nox (md st) t/\t { nx:=fun _ H'=>Q .non H',rt:=Q } (start N vs) H):cM P w K mg base CX0 (k + 1) f fd ps sp:=by
 obtain⟨oc,od,dV,kV,bL,pm,an,aA,ct,dI,rfl,lk,eS⟩:=F.ex;refine A8 lk eS S len fun A outer s H vs Q E hr iC=>?_
 obtain⟨t,h,q⟩:=cT aA A outer s H vs Q E hr iC;exact⟨t,h.nox,q⟩
theorem fq.okX {k:Nat} (F:fq K x qual st f fd) (S:aZ N ps (aC st)) (len:∀ vs H Q E,sp vs H Q E->vs.length=ps.length)
  (cT:∀ (aA:Value) (A:Around) (outer:List Env) (s:Shared) (H:Hp) (vs:List V) (Q:VK) (E:XK),bj k (A.deeper (envOfC qual (aC st) s.heap.objs.size f aA))->sp vs H Q E ->
   ∃ t,PSs (jn (CXe P w) P w K mg base N qual (aC st) f aA A outer s H E) (md st) t/\t { nx:=fun _ H'=>Q .non H',rt:=Q } (start N vs) H):cM P w K mg base (CXe P w) (k + 1) f fd ps sp:=by
 obtain⟨oc,od,dV,kV,bL,pm,an,aA,ct,dI,rfl,lk,eS⟩:=F.ex;exact A8 lk eS S len fun A outer s H vs Q E hr iC=>cT aA A outer s H vs Q E hr iC
end
structure Def (K:PySem.W.Frag) (mg:Str->Option Value) (x:Str) (st:Stmt) (ps:List Str) (aP:List V):Prop where
 ex:∃ f fd ds,fq K x x st f fd/\mg x=some (.ref f)/\PySem.W.keepIn K (.ref f)=true/\fz K fd ps ds/\aw aP ds
structure Met (K:PySem.W.Frag) (C:Addr) (m qual:Str) (st:Stmt) (ps:List Str) (aP:List V):Prop where
 ex:∃ f fd ds,fq K m qual st f fd/\Meth K C m f/\fz K fd ps ds/\aw aP ds
structure Ini (K:PySem.W.Frag) (mg:Str->Option Value) (C:Addr) (x qual:Str) (st:Stmt) (ps:List Str):Prop where
 ex:∃ f fd,fq K "__init__" qual st f fd/\Mk K C f/\mg x=some (.ref C)/\fz K fd ps []
structure XIni (K:PySem.W.Frag) (mg:Str->Option Value) (C:Addr) (x qual:Str) (st:Stmt) (ps:List Str):Prop where
 ex:∃ f fd,fq K "__init__" qual st f fd/\XCI K C f/\mg x=some (.ref C)/\fz K fd ps []
structure Cal (P:Program) (w:World) (K:PySem.W.Frag) (mg:Str->Option Value) (base:Heap) (CX:CXT) (k:Nat) (x:Str) (ps:List Str) (aP:List V) (sp:Sp):Prop where
 ex:∃ f fd ds,cM P w K mg base CX k f fd ps sp/\mg x=some (.ref f)/\PySem.W.keepIn K (.ref f)=true/\fz K fd ps ds/\aw aP ds
structure CalM (P:Program) (w:World) (K:PySem.W.Frag) (mg:Str->Option Value) (base:Heap) (CX:CXT) (k:Nat) (C:Addr) (m:Str) (ps:List Str) (aP:List V) (sp:Sp):Prop where
 ex:∃ f fd ds,cM P w K mg base CX k f fd ps sp/\Meth K C m f/\fz K fd ps ds/\aw aP ds
structure CalI (P:Program) (w:World) (K:PySem.W.Frag) (mg:Str->Option Value) (base:Heap) (CX:CXT) (k:Nat) (C:Addr) (x:Str) (ps:List Str) (sp:Sp):Prop where
 ex:∃ f fd,cM P w K mg base CX k f fd ps sp/\Mk K C f/\mg x=some (.ref C)/\fz K fd ps []
structure AF (P:Program) (w:World) (K:PySem.W.Frag) (mg:Str->Option Value) (base:Heap) (CX:CXT) (k:Nat) (C:Addr) (x:Str) (ps:List Str) (sp:Sp):Prop where
 ex:∃ f fd,cM P w K mg base CX k f fd ps sp/\XCI K C f/\mg x=some (.ref C)/\fz K fd ps []
section
variable {K:PySem.W.Frag}{k:Nat}{m:Str}
theorem Def.cal (D:Def K mg x st ps aP) (h:∀ f fd,fq K x x st f fd->cM P w K mg base CX k f fd ps sp):Cal P w K mg base CX k x ps aP sp:=
 let ⟨f,fd,ds,F,r⟩:=D.ex;⟨f,fd,ds,h f fd F,r⟩
theorem Met.cal (D:Met K C m qual st ps aP) (h:∀ f fd,fq K m qual st f fd->cM P w K mg base CX k f fd ps sp):CalM P w K mg base CX k C m ps aP sp:=
 let ⟨f,fd,ds,F,r⟩:=D.ex;⟨f,fd,ds,h f fd F,r⟩
theorem Ini.cal (D:Ini K mg C x qual st ps) (h:∀ f fd,fq K "__init__" qual st f fd->cM P w K mg base CX k f fd ps sp):CalI P w K mg base CX k C x ps sp:=
 let ⟨f,fd,F,r⟩:=D.ex;⟨f,fd,h f fd F,r⟩
theorem XIni.cal (D:XIni K mg C x qual st ps) (h:∀ f fd,fq K "__init__" qual st f fd->cM P w K mg base CX k f fd ps sp):AF P w K mg base CX k C x ps sp:=
 let ⟨f,fd,F,r⟩:=D.ex;⟨f,fd,h f fd F,r⟩
end
def tCallR (sp:Sp) (aP:List V) (R:RK) (t:TA):TE:=fun σ H Q=>t σ H fun vs H1=>sp (vs++aP) H1 Q (R σ)
section
variable {k:Nat}{R:RK}{m:Str}{p pos aX:Pos}{o:Expr}
theorem vB:PX X (fun _ _ _ _=>False):=fun _ _ _ _ _ _ _ _ _ _ h=>h.elim
theorem No {Q:VK}{vs:List V} (F:cM X.prog X.w X.K X.mg X.base (CXe X.prog X.w) k f fd ps sp) (hp:PX X R) (hr:bj k X.A)
  (hb:fz X.K fd ps ds) (hd:aw aP ds) (I:Inv X aa σ H s) (r:aw vs us) (h:sp (vs++aP) H Q (R σ)):wpAny (model X.prog X.w) X.A (call (.ref f) us) (EP X aa σ Q) X.xe s:=by
 have r2:aw (vs++aP) (us++ds):=r.append hd;have hl:(us++ds).length=ps.length:=by rw[<- r2.length];exact F.len _ _ _ _ h
 refine SJ (codeAny_mono (F.run X.A X.stack s H ⟨us,[]⟩ (us++ds) (vs++aP) Q (R σ) hr I.env0 (hb s us I.kIn hl) r2 h) fun r s' hq=>?_);cases r with
 | error e=>exact N0 hp aa σ H s e s' I hq
 | ok fl=>cases fl <;> first | exact I.after hq | exact False.elim hq
theorem a7 (c:Cal X.prog X.w X.K X.mg X.base CX0 k x ps aP sp) (hr:bj k X.A) (hg:Gl X x) (ha:PA X (e::es) t) (dk:(x == ("__debug__":Str))=false:=by decide)
  (he:starEach (e::es) X.env=(false,eval e X.env)::starEach es X.env:=by rfl) (bU:(backTo pos (starEach es X.env)).any (·.1)=false:=by rfl):PE X (.Call (.Name x p) (e::es) [] pos) (tCall sp aP E0 t):=by
 obtain⟨f,fd,ds,F,hm,hk,hb,hd⟩:=c.ex;exact NM F hr hg hm hk hb hd AJ ha dk he bU
theorem oy (c:Cal X.prog X.w X.K X.mg X.base (CXe X.prog X.w) k x ps aP sp) (hp:PX X R) (hr:bj k X.A) (hg:Gl X x) (ha:PA X (e::es) t) (dk:(x == ("__debug__":Str))=false:=by decide)
  (he:starEach (e::es) X.env=(false,eval e X.env)::starEach es X.env:=by rfl) (bU:(backTo pos (starEach es X.env)).any (·.1)=false:=by rfl):PE X (.Call (.Name x p) (e::es) [] pos) (tCallR sp aP R t):=by
 obtain⟨f,fd,ds,F,hm,hk,hb,hd⟩:=c.ex;intro aa s σ H Q I h;refine RP (qf I hg hm ?_ dk);refine PySem.W.callWith_K (h₀:=X.base) I.ok.mod.kin hk (thn (ha pos aa s σ H _ I h) fun us s1=>L2.ex5 fun vs H1 I1 r q=>⟨I1.kIn,?_⟩) he bU;exact No F hp hr hb hd I1 r q
theorem tG {pl:Sem Bool} (he:PE X o ta) (cl:Cls X.K C) (c:CalM X.prog X.w X.K X.mg X.base CX0 k C m ps aP sp) (hr:bj k X.A) (ha:PA X (e::es) t)
  (cO:starEach (e::es) X.env=(false,eval e X.env)::starEach es X.env:=by rfl) (bU:(backTo pos (starEach es X.env)).any (·.1)=false:=by rfl)
  (ht:eval (.Call (.Attribute o m aX) (e::es) [] pos) X.env=(do
   let ov <- eval o X.env
   standAt aX.atName
   let (f,first) <- holding [ov] (getMethod ov m pl)
   callWith pos f first (backTo pos (starEach (e::es) X.env)) (backToKw pos (keywordEach [] X.env))):=by rfl) :
  PE X (.Call (.Attribute o m aX) (e::es) [] pos) (tMeth C m sp aP E0 ta t):=by
 obtain⟨f,fd,ds,F,hm,hb,hd⟩:=c.ex;exact ND (pl:=pl) he cl hm F hr hb hd AJ ha cO bU ht
theorem NS (c:CalI X.prog X.w X.K X.mg X.base CX0 k C x ps sp) (hr:bj (k + 1) X.A) (hg:Gl X x) (ha:PA X (e::es) t) (dk:(x == ("__debug__":Str))=false:=by decide)
  (he:starEach (e::es) X.env=(false,eval e X.env)::starEach es X.env:=by rfl) (bU:(backTo pos (starEach es X.env)).any (·.1)=false:=by rfl):PE X (.Call (.Name x p) (e::es) [] pos) (tMake C sp [] E0 t):=by
 obtain⟨f,fd,F,M,hm,hb⟩:=c.ex;exact NR M F hr hg hm hb .nil AJ ha dk he bU
theorem NP {aD:Pos} (hp:PX X R) (c:AF X.prog X.w X.K X.mg X.base CX0 k C x ps sp) (hr:bj (k + 1) X.A) (hg:Gl X x) (ha:PA X (e::es) t)
  (dk:(x == ("__debug__":Str))=false:=by decide) (he:starEach (e::es) X.env=(false,eval e X.env)::starEach es X.env:=by rfl) (bU:(backTo aD (starEach es X.env)).any (·.1)=false:=by rfl) :
  PS X (.Raise (some (.Call (.Name x np) (e::es) [] aD)) none pos) (E4 C sp [] R t):=by
 obtain⟨f,fd,F,c',hm,hb⟩:=c.ex;exact LO hp c' F hr hb .nil (fun _ _ _ _ _ _ _ _ z=>z.elim) hg hm ha dk he bU
theorem p7 {i:Int} (hg:Gl X x) (hm:∃ t,X.mg x=some (.int i t)) (hd:(x == ("__debug__":Str))=false:=by decide):PE X (.Name x pos) (tC (.int i)):=let ⟨t,h⟩:=hm;N9 hg h ⟨t,O⟩ hd
theorem tp {n:String} (hg:Gl X x) (hm:X.mg x=none) (hv:bootBuiltins x=some (.type n)) (hn:x≠"__name__":=by decide) (hd:(x == ("__debug__":Str))=false:=by decide):PE X (.Name x pos) (tC (.ty n)):=Os hg hm hv O hn hd
end
def HdC (A:Around) (cs:List Addr):Prop:=(A.handled=none/\cs=[])\/∃ a r,cs=a::r/\A.handled=some (.ref a)
theorem Hd.chain  (x:Hd A h):∃ cs,HdC A cs/\Chn h cs:=by
 rcases x with e|⟨a,cs,e,c⟩
 ·exact⟨[],.inl ⟨e,O⟩,Sm,fun j a z=>by simp at z⟩
 ·exact⟨a::cs,.inr ⟨a,cs,O,e⟩,c⟩
theorem HdC.hd  (x:HdC A cs) (c:Chn h cs):Hd A h:=by
 rcases x with⟨e,rfl⟩|⟨a,r,rfl,e⟩
 ·exact .inl e
 ·exact .inr ⟨a,r,e,c⟩
variable {I S d i1 i2 l l1 z:Addr}{P:List Value->Prop}{Q:Option Value->Shared->Prop}{b:Bool}{c ep k1 k2:Nat}{g:TG}{kvs:List (Key×V)}{ns ps:List Int}{old res:Value}{r ys:List V}{ss:List Str}{ta:TA}{tb:TS}{tl:TE}{tpos:Pos}{x y:V}
theorem Chn.but  (c:Chn h cs) (hI:it∉cs) (k:∀ b o,b≠it->h.get? b=some o->h'.get? b=some o):Chn h' cs:=
 c.mono fun b o hb e=>k b o (fun z=>hI (z ▸ hb)) e
section
theorem qr (hc:HdC A cs) (I ax:Addr) (eC:ax≠I) (hI:I∉cs) (items:Array Value) :
  Walks prog w A I (I::ax::cs) [I] items.size (fun i v=>items[i]?=some v) (fun i h=>h.IsListIter I ax i/\h.IsList ax items/\Chn h cs) where
 sub:=fun b hb=>by simp at hb;simp[hb]
 frame:=fun _ _ _ st hk=>⟨st.1.at fun o e=>hk I (by simp) o e,st.2.1.at fun o e=>hk ax (by simp) o e,st.2.2.mono fun b o hb e=>hk b (by simp[hb]) o e⟩
 item:=fun i s Q E hi st hQ=>by
  refine T3 st.1 st.2.1 (x:=items[i]) (by simp[hi]) fun h' bi aW=>?_
  exact hQ _ h' s.toks (by simp[hi]) ⟨bi,st.2.1.extBut aW.extBut eC,st.2.2.but hI aW.extBut⟩ fun b o hb e=>aW.extBut b o (fun h=>hb (by simp[h])) e
 done:=fun s Q E st hQ=>Fb (hc.hd st.2.2) st.1 st.2.1 (by simp) fun h' dE=>hQ h' s.toks fun b o hb e=>dE b o (fun h=>hb (by simp[h])) e
 self:=fun _ _ _ _ st hQ=>T8 st.1 hQ
theorem p9  {items}{Q:Value->Shared->Prop} (hd:Hd A s.heap) (hit:s.heap.IsListIter it l i) (hl:s.heap.IsList l items) (hx:items[i]?=none)
  (hE:∀ h' e,Heap.ExtBut it s.heap h'->(∃ o,h'.get? e=some o/\o.cls=.type "StopIteration")->E (.ref e) { s with heap:=h' }):wpAny (model prog w) A (Builtin.SmallTypes.nextOf (.ref it)) Q E s:=by
 obtain⟨o,ho,hc,ao⟩:=id hit;obtain⟨ol,sx,_,nl,lQ⟩:=hl;unfold Builtin.SmallTypes.nextOf;refine mJ (Ry (name:=Str.ofString "__next__") hit.typeIs slot_listiter_next (RB slot_listiter_next hit.typeIs entry_listiter_next ?_ (args_listiter_next _)));refine(show wpAny _ _ (field (.ref it) 0 >>= _) _ _ s from mJ (Rq ho ao (x:=.ref l) O ?_));refine(show wpAny _ _ (if (Value.ref l == Value.none)=true then _ else _) _ _ s from ?_);rw[if_neg (show ¬ ((Value.ref l == Value.none)=true) from Ra)];refine(show wpAny _ _ (field (.ref it) 1 >>= _) _ _ s from mJ (Rq ho ao (x:=.int i 0) O ?_));refine(show wpAny _ _ (seqItems? (.ref l) >>= _) _ _ s from mJ (RG sx lQ ?_));simp only[Q7,hx]
 refine mJ (Sx (mJ (Sl ho ao (by simp) ?_)));refine o7 (A:=A.in1) (hd.but ho (fun vs q=>.inl (by rw[ao] at q;cases q;simp)) (Heap.SameBut.update ..).extBut) fun h' e k' x=>hE h' e (fun b q hb hq=>k' b q ((Heap.SameBut.update ..).extBut b q hb hq)) x
theorem FB {TI TO l2:Addr}{xs ys:Array Value}{a b:Value} (hc:HdC A cs) (c:Chn s.heap cs) (nz:z∉cs) (nT:TO∉cs) (n1:i1∉cs) (n2:i2∉cs) (D:ZipApart z TI TO i1 i2 l1 l2)
  (hz:IsZip s.heap z TI TO .none) (b8:IsPair s.heap TI (.ref i1) (.ref i2)) (dF:IsPair s.heap TO a b) (h1:s.heap.IsListIter i1 l1 k1) (h2:s.heap.IsListIter i2 l2 k2) (cx:s.heap.IsList l1 xs) (bY:s.heap.IsList l2 ys) (ia:xs[k1]?=none\/ys[k2]?=none)
  (hQ:∀ h',(∀ c o,c≠z->c≠TO->c≠i1->c≠i2->s.heap.get? c=some o->h'.get? c=some o)->Q none { s with heap:=h' }):wpAny (model prog w) A (pyNext (.ref z)) Q E s:=by
 have hT:s.TypeIs (.ref z) "zip":=⟨_,hz,O⟩;have fin:∀ h' e,(∀ c o,c≠z->c≠TO->c≠i1->c≠i2->s.heap.get? c=some o->h'.get? c=some o)->(∃ o,h'.get? e=some o/\o.cls=.type "StopIteration") ->
   wpAny (model prog w) A (do if <- isInstance (.ref e) (.type "StopIteration") then pure none else throw (.ref e)) Q E { s with heap:=h' }:=fun h' e k ⟨o,ho,kC⟩=>
  mJ (R3 (T:="StopIteration") (b:=true) ⟨o,ho,kC⟩ isSubtype_stop (QW (hQ _ k)))
 unfold pyNext;refine mJ (Sh (Ry (name:=Str.ofString "__next__") hT F.slot_zip_next (RB F.slot_zip_next hT F.entry_zip_next ?_ (F.args_zip_next_1 _))));refine(show wpAny _ _ (field (.ref z) 2 >>= _) _ _ _ from mJ (Rq hz O (x:=.bool false) O ?_));refine(show wpAny _ _ (field (.ref z) 3 >>= _) _ _ _ from mJ (Rq hz O (x:=.ref TI) O (mJ (RG b8 O ?_))));refine(show wpAny _ _ (Builtin.SmallTypes.ownedTupleIsFree (.ref z) >>= _) _ _ _ from mJ ?_);unfold Builtin.SmallTypes.ownedTupleIsFree;refine mJ (Rq hz O (x:=.none) O (QW ?_));simp only[if_true]
 refine mJ (Sx (mJ (Rq hz O (x:=.ref TO) O (mJ (Sc hz (by simp) fun h₁ nV bq=>?_)))))
 replace nV:IsZip h₁ z TI TO .ellipsis:=nV
 have c₁:Chn h₁ cs:=c.but nz bq.extBut;refine mJ ?_;simp only[List.zipIdx_cons,List.zipIdx_nil,SW,Ua]
 refine mJ (mJ (wpAny_onRaise ?_));cases hx:xs[k1]? with
 | none=>
  refine(show wpAny _ _ (Builtin.SmallTypes.nextOf (.ref i1) >>= _) _ _ _ from mJ (p9 (A:=A.in1) (HdC.hd (A:=A.in1) hc c₁) (h1.extBut bq.extBut D.i1z) (cx.extBut bq.extBut D.l1z) hx fun h₂ e cZ he=>?_));obtain⟨oe,nH,rC⟩:=he;have CC:IsZip h₂ z TI TO .ellipsis:=cZ _ _ D.i1z.symm nV;have zm:e≠z:=fun x=>by subst x;rw[CC] at nH;cases nH;simp at rC
  exact Sc CC (by simp) fun h₃ _ ff=>fin h₃ e (fun c o c1 _ c3 _ x=>ff.extBut _ _ c1 (cZ _ _ c3 (bq.extBut _ _ c1 x))) ⟨oe,ff.extBut _ _ zm nH,rC⟩
 | some x=>
  have hy:ys[k2]?=none:=by rcases ia with h|h;rw[hx] at h;cases h;exact h
  refine(show wpAny _ _ (Builtin.SmallTypes.nextOf (.ref i1) >>= _) _ _ _ from mJ (Sy (h1.extBut bq.extBut D.i1z) (cx.extBut bq.extBut D.l1z) hx fun h₂ zk cZ=>QW ?_));have rS:IsPair h₂ TO a b:=cZ.extBut _ _ D.TOi1 (bq.extBut _ _ D.TOz dF);refine mJ (RG rS O (mJ (wpAny_updateSeq_pair rS fun h₃ KS ff=>mJ (Sq (QW ?_)))));refine mJ (mJ (wpAny_onRaise ?_));have c₃:Chn h₃ cs:=(c₁.but n1 cZ.extBut).but nT ff.extBut;refine(show wpAny _ _ (Builtin.SmallTypes.nextOf (.ref i2) >>= _) _ _ _ from mJ (p9 (A:=A.in1) (HdC.hd (A:=A.in1) hc c₃) (((h2.extBut bq.extBut D.i2z).extBut cZ.extBut D.i12.symm).extBut ff.extBut D.TOi2.symm)
   (((bY.extBut bq.extBut D.l2z).extBut cZ.extBut D.l2i1).extBut ff.extBut D.l2TO) hy fun h₄ e B7 he=>?_))
  obtain⟨oe,nH,rC⟩:=he;have BG:IsZip h₄ z TI TO .ellipsis:=B7 _ _ D.i2z.symm (ff.extBut _ _ D.TOz.symm (cZ.extBut _ _ D.i1z.symm nV));have zm:e≠z:=fun x=>by subst x;rw[BG] at nH;cases nH;simp at rC
  exact Sc BG (by simp) fun h₅ _ CI=>fin h₅ e (fun c o c1 c2 c3 c4 x=>CI.extBut _ _ c1 (B7 _ _ c4 (ff.extBut _ _ c2 (cZ.extBut _ _ c3 (bq.extBut _ _ c1 x))))) ⟨oe,CI.extBut _ _ zm nH,rC⟩
section
variable {κ:Type} [DecidableEq κ] {knd:KeyKind prog w κ}
theorem Ec {kvs:List (κ×Value)} (hd:Hd A s.heap) (hit:s.heap.IsKeyIter it d i kvs.length ep) (hm:s.heap.DictAt knd d kvs ep) (hx:kvs[i]?=none)
  (hQ:∀ h',Heap.ExtBut it s.heap h'->Q none { s with heap:=h' }):wpAny (model prog w) A (pyNext (.ref it)) Q E s:=by
 obtain⟨o,ho,hc,ao⟩:=id hit;obtain⟨od,es,iA,eS,fK,hk,hp,hn⟩:=id hm;have hsz:es.size=kvs.length:=by rw[<- hp.length];simp
 have ib:es.size<=i:=by rw[hsz];simpa using hx
 have jk:Builtin.Dict_items.ownsTuple "dict_keyiterator"=false:=by decide
 unfold pyNext;refine mJ (Sh (Ry (name:=Str.ofString "__next__") hit.typeIs F.slot_dict_keyiterator_next (RB F.slot_dict_keyiterator_next hit.typeIs F.entry_dict_keyiterator_next ?_ (F.args_dict_keyiterator_next_1 _))));refine mJ (QW (mJ (mJ ?_)))
 first|refine mJ (To hit.typeIs (QW (mJ (SM ho ao ?_))))|refine mJ (TN hit.typeIs (QW (mJ (SM ho ao ?_))))
 simp only[jk,RE,if_false]
 show wpAny _ _ (if (Value.ref d == Value.none)=true then _ else _) _ _ s;rw[if_neg (show ¬ ((Value.ref d == Value.none)=true) from Ra)];refine mJ (QW (mJ (TC iA fK ?_)));rw[if_neg (by rw[hsz];simp)];refine mJ (QW (mJ (TZ iA fK ?_)));rw[if_neg (by simp)];refine QW ?_;simp only[show ¬ ((i:Int)<0) from by omega,if_false,Q7,Ta ib]
 refine mJ ?_
 first|refine mJ (To hit.typeIs (QW ?_))|refine mJ (TN hit.typeIs (QW ?_))
 refine(show wpAny _ _ (setField (.ref it) 0 .none >>= _) _ _ s from mJ (Sl ho ao (by simp) ?_));refine o7 (A:=A.in1) (hd.but ho (fun vs q=>.inr (by rw[ao] at q;cases q;simp)) (Heap.SameBut.update ..).extBut) fun h' e k' ⟨o',e',c'⟩=>?_
 exact mJ (R3 (T:="StopIteration") (b:=true) ⟨o',e',c'⟩ isSubtype_stop (QW (hQ h' fun b q hb hq=>k' b q ((Heap.SameBut.update ..).extBut b q hb hq))))
theorem Nl (hc:HdC A cs) (I d:Addr) (eC:d≠I) (hI:I∉cs) (kvs:List (κ×Value)) (ep:Nat) :
  Walks prog w A I (I::d::cs) [I] kvs.length (fun i v=>∃ k x,kvs[i]?=some (k,x)/\knd.is k v=true) (fun i h=>h.IsKeyIter I d i kvs.length ep/\h.DictAt knd d kvs ep/\Chn h cs) where
 sub:=fun b hb=>by simp at hb;simp[hb]
 frame:=fun _ _ _ st hk=>⟨st.1.at fun o e=>hk I (by simp) o e,st.2.1.at' fun o e=>hk d (by simp) o e,st.2.2.mono fun b o hb e=>hk b (by simp[hb]) o e⟩
 item:=fun i s Q E hi st hQ=>by
  obtain⟨⟨k,x⟩,hx⟩:∃ p,kvs[i]?=some p:=⟨kvs[i],by simp[hi]⟩;refine T5 st.1 st.2.1 hx fun key h' bZ bi aW=>?_
  exact hQ key h' s.toks ⟨k,x,hx,bZ⟩ ⟨bi,st.2.1.extBut aW.extBut eC,st.2.2.but hI aW.extBut⟩ fun b o hb e=>aW.extBut b o (fun h=>hb (by simp[h])) e
 done:=fun s Q E st hQ=>Ec (hc.hd st.2.2) st.1 st.2.1 (by simp) fun h' dE=>hQ h' s.toks fun b o hb e=>dE b o (fun h=>hb (by simp[h])) e
 self:=fun _ _ _ _ st hQ=>wpAny_pyIter_keyiter st.1 hQ
theorem Lh {kvs:List (κ×Value)}{ok ov:Value} (hc:HdC A cs) (c:Chn s.heap cs) (hI:it∉cs) (hit:IsItemIter s.heap it d i kvs.length ep ok ov) (hm:s.heap.DictAt knd d kvs ep) (hx:kvs[i]?=none)
  (hQ:∀ h',Heap.ExtBut it s.heap h'->Q none { s with heap:=h' }):wpAny (model prog w) A (pyNext (.ref it)) Q E s:=by
 obtain⟨od,es,iA,eS,fK,hk,hp,hn⟩:=id hm;have hT:s.TypeIs (.ref it) "dict_itemiterator":=⟨_,hit,O⟩;have hsz:es.size=kvs.length:=by rw[<- hp.length];simp
 have ib:es.size<=i:=by rw[hsz];simpa using hx
 have jk:Builtin.Dict_items.ownsTuple "dict_itemiterator"=true:=by decide
 unfold pyNext;refine mJ (Sh (Ry (name:=Str.ofString "__next__") hT F.slot_dict_itemiterator_next (RB F.slot_dict_itemiterator_next hT F.entry_dict_itemiterator_next ?_ (F.args_dict_itemiterator_next_1 _))));refine mJ (QW (mJ (mJ ?_)))
 first|refine mJ (Tj hT (QW (mJ (SM hit O ?_))))|refine mJ (TJ hT (QW (mJ (SM hit O ?_))))
 simp only[jk,if_true]
 show wpAny _ _ (if (Value.ref d == Value.none)=true then _ else _) _ _ s;rw[if_neg (show ¬ ((Value.ref d == Value.none)=true) from Ra)];refine mJ (QW (mJ (TC iA fK ?_)));rw[if_neg (by rw[hsz];simp)];refine mJ (QW (mJ (TZ iA fK ?_)));rw[if_neg (by simp)];refine QW ?_;simp only[show ¬ ((i:Int)<0) from by omega,if_false,Q7,Ta ib]
 refine mJ ?_
 first|refine mJ (Tj hT (QW ?_))|refine mJ (TJ hT (QW ?_))
 refine(show wpAny _ _ (setField (.ref it) 2 .none >>= _) _ _ s from mJ (Sl hit O (by simp) ?_));refine o7 (A:=A.in1) (HdC.hd (A:=A.in1) hc (c.but hI (Heap.SameBut.update ..).extBut)) fun h' e k' ⟨o',e',c'⟩=>?_
 exact mJ (R3 (T:="StopIteration") (b:=true) ⟨o',e',c'⟩ isSubtype_stop (QW (hQ h' fun b q hb hq=>k' b q ((Heap.SameBut.update ..).extBut b q hb hq))))
theorem M8:typeLookup (.type "dict") "__len__"=pure (some (.builtin "dict.__len__")):=by rw[typeLookup_type,builtinLookup_eq_fast];kernel_rfl
theorem Pi  (hc:HdC A cs){kvs:List (κ×Value)}{c₀:Nat} (hd:(d == sysModules)=false) (hm:s.heap.DictAt knd d kvs ep) (c:Chn s.heap cs) (hS:s.heap.get? S=some { cls:=.type "list",data:=.seq #[] c₀ }) (wY:S≠d) (sv:S∉cs) (hn:kvs.length<=sizeLine)
  (hR:∀ s' acc c',Moved (S::[s.heap.objs.size]) (fun a b=>b=a) s s'->s'.heap.get? S=some { cls:=.type "list",dict:=none,data:=.seq acc c',slots:=#[] }->ItemsOf (fun i v=>∃ k x,kvs[i]?=some (k,x)/\knd.is k v=true) acc kvs.length->R (.ok (.ret res)) s') :
  wpAny (model prog w) A.in1 (Builtin.List.listExtendWith (.ref S) (.ref d) res) (fun fin s'=>match fin with|.done f=>R (.ok f) s'|.again c'=>c'.quiet=true/\codeAny (model prog w) A c' R s') (fun e s'=>R (.error e) s') s:=by
 have hT:s.TypeIs (.ref d) "dict":=hm.dictOf.typeIs;have h1:Builtin.List.listSameRef (.ref S) (.ref d)=false:=by simp[Builtin.List.listSameRef,wY]
 unfold Builtin.List.listExtendWith;refine mJ (SE hT ?_);rw[if_neg (by rw[h1];decide)];refine mJ (Uz hd hm ?_);have m1:=hm.push { cls:=.type "dict_keyiterator",data:=.fields #[.ref d,.int 0 0,.int kvs.length 0,.int ep 0] };have zS:Shared.TypeIs { s with heap:=s.heap.push { cls:=.type "dict_keyiterator",data:=.fields #[.ref d,.int 0 0,.int kvs.length 0,.int ep 0] } } (.ref d) "dict":=m1.dictOf.typeIs;refine mJ (Rn ?_);unfold Builtin.List.listLengthHint;refine mJ (TY zS M8 ?_);generalize Dh:("dict.__len__":String)=id0
 wp_delta
 rw[show splitId id0=some ("dict","__len__") from by subst Dh;decide +kernel];subst Dh;refine mJ (R3 (b:=true) zS (by rw[isSubtype_type];kernel_rfl) ?_);simp only[Bool.not_true,RE,if_false]
 rw[if_pos (by decide +kernel)];refine mJ (SE zS (QW ?_));rw[if_pos (by decide +kernel)];refine mJ (Sx (mJ ?_));have aY:S<s.heap.objs.size:=QZ hS;have qD:S≠s.heap.objs.size:=Q5 aY;have xG:d≠s.heap.objs.size:=Q5 hm.lt_size;have mQ:s.heap.objs.size∉cs:=fun z=>Rl _ (c.lt _ z)
 have pL:=QU { cls:=.type "dict_keyiterator",data:=.fields #[.ref d,.int 0 0,.int kvs.length 0,.int ep 0] } hS;refine(show wpAny _ A.in1 (updateSeq S (·.push .none) >>= fun _=>updateSeq S (·.pop)) _ _ _ from mJ (Sa pL rfl ?_));have oj:=Rv (Obj.mapSeq (·.push Value.none)) pL rfl;refine Sa (hz:=by seq_fits) oj rfl ?_;have uQ:=Rv (Obj.mapSeq (·.pop)) oj rfl;generalize hG:((s.heap.push { cls:=.type "dict_keyiterator",data:=.fields #[.ref d,.int 0 0,.int kvs.length 0,.int ep 0] }).update S (Obj.mapSeq (·.push Value.none))).update S (Obj.mapSeq (·.pop))=G at uQ;have dP:∀ b o,b≠S->(s.heap.push { cls:=.type "dict_keyiterator",data:=.fields #[.ref d,.int 0 0,.int kvs.length 0,.int ep 0] }).get? b=some o->G.get? b=some o:=fun b o hb e=>by
  rw[<- hG];exact(Rh _ _ (Ne.symm hb)).trans ((Rh _ _ (Ne.symm hb)).trans e)
 have W:=(Nl (prog:=prog) (w:=w) (knd:=knd) (A:=A.in1) hc s.heap.objs.size d xG mQ kvs ep).toS;have IA:G.IsKeyIter s.heap.objs.size d 0 kvs.length ep:=⟨_,dP _ _ (Ne.symm qD) (Q1 _ O),O,O⟩;have d0:G.DictAt knd d kvs ep:=m1.at' fun o e=>dP d o (Ne.symm wY) e
 have c0:Chn G cs:=c.mono fun b o hb e=>dP b o (fun z=>sv (z ▸ hb)) (QU _ e)
 have gK:S∉s.heap.objs.size::d::cs:=by simp[qD,wY,sv]
 refine QW ⟨plainId_quiet F.plain_extend_loop _,codeAny_extend_loopS W hn S gK res kvs.length 0 _ _ _ O (R9 _) ⟨IA,d0,c0⟩ uQ (ItemsOf.nil _) fun s' bB c' mM dG bC=>?_⟩;have JY:Moved (S::[s.heap.objs.size]) (fun a b=>b=a) s { s with heap:=G }:=⟨fun b o hb e=>dP b o (fun z=>hb (Rp.mpr (.inl z))) (QU _ e),O,O,O,QY _⟩;exact hR s' bB c' (Moved.trans (fun _ _ _ h1 h2=>h2.trans h1) JY mM) dG bC
end
end
def Itz (K:PySem.W.Frag) (l1 l2:Addr):It:=
  ⟨fun i H=>∃ xs ys x y,SqL K H l1 xs/\SqL K H l2 ys/\xs[i]?=some x/\ys[i]?=some y,
   fun i H v H'=>∃ T x y,v=.ref T/\H T=none/\H'=upd H T (.tup [x,y])/\(∀ xs,SqL K H l1 xs->xs[i]?=some x)/\∀ ys,SqL K H l2 ys->ys[i]?=some y,
   fun i H=>∃ xs ys,SqL K H l1 xs/\SqL K H l2 ys/\(xs.length<=i\/ys.length<=i)⟩
def ZipIt (h:Heap) (z TI TO i1 i2 l1 l2:Addr) (i:Nat):Prop:=IsZip h z TI TO .none/\IsPair h TI (.ref i1) (.ref i2)/\(∃ a b,IsPair h TO a b)/\h.IsListIter i1 l1 i/\h.IsListIter i2 l2 i
theorem MZ {P:Program}{K:PySem.W.Frag}{k:Nat}{pos:Pos}{TI TO l2:Addr} (D:ZipApart z TI TO i1 i2 l1 l2) :
  k9 P w K (.Tuple es k pos) (Itz K l1 l2) [z,TI,TO,i1,i2] z (fun i h=>ZipIt h z TI TO i1 i2 l1 l2 i) where
 mem:=by simp
 obj:=fun i h st b hb=>by
  obtain⟨hz,b8,⟨a,c,dF⟩,⟨o1,e1,c1,d1⟩,⟨o2,e2,c2,d2⟩⟩:=st;simp only[Rp,Rk,or_false] at hb
  rcases hb with rfl|rfl|rfl|rfl|rfl
  ·exact⟨_,hz,fun v q=>by simp at q⟩
  ·exact⟨_,b8,fun v q=>by simp at q⟩
  ·exact⟨_,dF,fun v q=>by simp at q⟩
  ·exact⟨_,e1,fun v q=>by rw[d1] at q;cases q⟩
  ·exact⟨_,e2,fun v q=>by rw[d2] at q;cases q⟩
 keep:=fun i h h' st k=>by
  obtain⟨hz,b8,⟨a,c,dF⟩,h1,h2⟩:=st;exact⟨k z (by simp) _ hz,k TI (by simp) _ b8,⟨a,c,k TO (by simp) _ dF⟩,h1.at fun o e=>k i1 (by simp) o e,h2.at fun o e=>k i2 (by simp) o e⟩
 item:=by
  intro X hP hw hK hc i aa s σ H E I hf st hg;subst hP hw hK;obtain⟨xs,ys,x,y,q1,q2,hx,hy⟩:=hg;obtain⟨hz,b8,⟨a,c,dF⟩,h1,h2⟩:=st;obtain⟨ag,rv,pl,_⟩:=I.list q1;obtain⟨its',cg,js,_⟩:=I.list q2;obtain⟨u,hu,ru⟩:=rv.get hx;obtain⟨u',hu',qP⟩:=cg.get hy;have nf:∀ b∈[z,TI,TO,i1,i2],b∉frs X.stack:=fun b hb q=>(Rp.mp (I.stkSub b q)).elim (hf b hb).2.1 (hf b hb).2.2.1
  refine Ub D hz b8 dF h1 h2 pl.isList js.isList (x:=u) (y:=u') (by simpa using hu) (by simpa using hu') fun h' a1 a2 a3 a4 a5 a6 hk=>⟨_,O,?_⟩
  refine wpAny_letOwnedTupleGo_zip (s:={ s with heap:=h' }) a1 fun cF eN aW=>?_
  have mL:H s.heap.objs.size=none:=I.hok.fresh (QY _);have P7:=QZ hz;have old:∀ b o,b≠z->b≠TO->b≠i1->b≠i2->s.heap.get? b=some o->cF.get? b=some o:=fun b o n1 n2 n3 n4 e=>aW.extBut b o n1 (hk b o n1 n2 n3 n4 e)
  have I1:Inv X aa σ (upd H s.heap.objs.size (.tup [x,y])) { s with heap:=s.heap.push { cls:=.type "tuple",data:=.seq #[u,u'] } }:=
   I.laid (t':=s.toks) (fun b o e=>QU _ e) (QY _) ⟨by show 2<=sizeLine;decide,[u,u'],.cons ru (.cons qP .nil),⟨_,Q1 _ rfl,O,_,O⟩⟩
  have lu:∀ b∈[z,TI,TO,i1,i2],bw X aa (upd H s.heap.objs.size (.tup [x,y])) b:=fun b hb=>by
   obtain⟨f0,r⟩:=hf b hb;refine⟨?_,r⟩;have lt:b<s.heap.objs.size:=by
    simp only[Rp,Rk,or_false] at hb
    rcases hb with rfl|rfl|rfl|rfl|rfl
    ·exact QZ hz
    ·exact QZ b8
    ·exact QZ dF
    ·obtain⟨o,e,_⟩:=h1;exact QZ e
    ·obtain⟨o,e,_⟩:=h2;exact QZ e
   rw[ai (Q5 lt)];exact f0
  have I2:Inv X aa σ (upd H s.heap.objs.size (.tup [x,y])) { s with heap:=cF }:=by
   have back:∀ b o,(s.heap.push { cls:=.type "tuple",data:=.seq #[u,u'] }).get? b=some o->b≠z->b≠TO->b≠i1->b≠i2->cF.get? b=some o:=fun b o e n1 n2 n3 n4=>by
    rcases SO e with⟨rfl,rfl⟩|e
    ·exact aW.extBut _ _ n1 a5
    ·exact old b o n1 n2 n3 n4 e
   refine I1.slots (ch:=[z,TO,i1,i2]) (tk:=s.toks) (fun b hb=>lu b (by simp only[Rp,Rk,or_false] at hb ⊢;rcases hb with e|e|e|e <;> simp[e])) (fun b o _ hc e=>?_) (fun b o hb e=>⟨o.slots,?_⟩) (fun b hb o e=>?_)
   ·simp only[Rp,Rk,or_false,not_or] at hc
    exact back b o e hc.1 hc.2.1 hc.2.2.1 hc.2.2.2
   ·exact back b o e (fun q=>nf z (by simp) (q ▸ hb)) (fun q=>nf TO (by simp) (q ▸ hb)) (fun q=>nf i1 (by simp) (q ▸ hb)) (fun q=>nf i2 (by simp) (q ▸ hb))
   ·simp only[Rp,Rk,or_false] at hb
    rcases hb with rfl|rfl|rfl|rfl
    ·exact⟨_,eN⟩
    ·exact⟨_,aW.extBut _ _ D.TOz a2⟩
    ·obtain⟨o,e,_⟩:=a3;exact⟨_,aW.extBut _ _ D.i1z e⟩
    ·obtain⟨o,e,_⟩:=a4;exact⟨_,aW.extBut _ _ D.i2z e⟩
  refine⟨.ref s.heap.objs.size,_,I2,O,⟨_,x,y,O,mL,O,fun Cv q=>by rw[I.list_inj q q1];exact hx,fun lH q=>by rw[I.list_inj q q2];exact hy⟩,?_,fun b hb=>(lu b hb).1⟩;exact⟨eN,old TI _ D.TIz D.TITO D.TIi1 D.TIi2 b8,⟨_,_,aW.extBut _ _ D.TOz a2⟩,a3.extBut aW.extBut D.i1z,a4.extBut aW.extBut D.i2z⟩
 done:=by
  intro X hP hw hK hc i aa s σ H E I hf st hg;subst hP hw hK;obtain⟨xs,ys,q1,q2,aj⟩:=hg;obtain⟨hz,b8,⟨a,c,dF⟩,h1,h2⟩:=st;obtain⟨ag,rv,pl,_⟩:=I.list q1;obtain⟨its',cg,js,_⟩:=I.list q2;have e1:=rv.length;have e2:=cg.length;have nf:∀ b∈[z,TI,TO,i1,i2],b∉frs X.stack:=fun b hb q=>(Rp.mp (I.stkSub b q)).elim (hf b hb).2.1 (hf b hb).2.2.1
  have nc:∃ cs,HdC X.A cs/\Chn s.heap cs/\∀ b∈[z,TI,TO,i1,i2],b∉cs:=by
   rcases I.hdAt with e|⟨b,cs,e,c⟩
   ·exact⟨[],.inl ⟨e,O⟩,⟨Sm,fun j a q=>by simp at q⟩,fun b _ q=>by simp at q⟩
   ·exact⟨b::cs,.inr ⟨b,cs,O,e⟩,c.chn I.hok,fun d hd=>c.not_mem (hf d hd).1⟩
  obtain⟨cs,cw,ch,pe⟩:=nc;refine FB cw ch (pe z (by simp)) (pe TO (by simp)) (pe i1 (by simp)) (pe i2 (by simp)) D hz b8 dF h1 h2 pl.isList js.isList (by rcases aj with q|q;(left;simp;omega);(right;simp;omega)) fun h' hk=>⟨O,?_⟩
  refine I.slot0 (ch:=[z,TI,TO,i1,i2]) (tk:=s.toks) hf (fun b o _ hc e=>?_) (fun b o hb e=>⟨o.slots,?_⟩)
  ·simp only[Rp,Rk,or_false,not_or] at hc
   exact hk b o hc.1 hc.2.2.1 hc.2.2.2.1 hc.2.2.2.2 e
  ·exact hk b o (fun q=>nf z (by simp) (q ▸ hb)) (fun q=>nf TO (by simp) (q ▸ hb)) (fun q=>nf i1 (by simp) (q ▸ hb)) (fun q=>nf i2 (by simp) (q ▸ hb)) e
 self:=fun _ _ _ _ _ st h=>TQ st.1 h
def iZip (K:PySem.W.Frag) (ta:TA):TI:=fun σ H R=>ta σ H fun vs H1=>∃ l1 l2,vs=[.ref l1,.ref l2]/\(∃ xs,SqL K H1 l1 xs)/\(∃ ys,SqL K H1 l2 ys)/\R (Itz K l1 l2) H1
theorem pc {k:Nat}{p pos:Pos}{a b:Expr} (hg:Gl X "zip") (hm:X.mg "zip"=none) (ha:PA X [a,b] ta) (hs:starEach [a,b] X.env=[(false,eval a X.env),(false,eval b X.env)]:=by rfl) (dD:starEach [b] X.env=[(false,eval b X.env)]:=by rfl) :
  PI X (.Tuple es k tpos) (.Call (.Name "zip" p) [a,b] [] pos) (iZip X.K ta):=by
 intro aa s σ H R I h;refine Call_ (g8 I hg hm boot_zip (PyProof.Rows.callWith_type1 (thn (ha pos aa s σ H _ I h) fun us s1=>L2.ex5 fun vs H1 I1 r1 a8=>?_) (by rw[hs,dD]) (by rw[dD];rfl)));obtain⟨l1,l2,e,⟨xs,q1⟩,⟨ys,q2⟩,q⟩:=a8;subst e;obtain⟨u,u',rfl,ru,qP⟩:=pY r1;obtain rfl:u=Value.ref l1:=ru;obtain rfl:u'=Value.ref l2:=qP;obtain⟨ag,rv,pl,_⟩:=I1.list q1;obtain⟨its',cg,js,_⟩:=I1.list q2;refine call_zip_2 pl.isList js.isList fun h' b1 b2 b3 b4 b5 b6 hk=>?_
 refine TQ (s:={ s1 with heap:=h' }) b1 ?_;have hU:l1<s1.heap.objs.size:=by obtain⟨o,e,_⟩:=pl.isList;exact QZ e
 have km:l2<s1.heap.objs.size:=by obtain⟨o,e,_⟩:=js.isList;exact QZ e
 have nn:∀ (x y:Nat),x<y->∀ j:Nat,x≠y + j:=fun x y h j e=>by omega
 have n0:∀ (y i j:Nat),i≠j->y + i≠y + j:=fun y i j h e=>by omega
 have D:ZipApart (s1.heap.objs.size + 4) (s1.heap.objs.size + 2) (s1.heap.objs.size + 3) s1.heap.objs.size (s1.heap.objs.size + 1) l1 l2:=
  ⟨n0 _ 2 4 (by decide),n0 _ 3 4 (by decide),n0 _ 0 4 (by decide),n0 _ 1 4 (by decide),n0 _ 2 3 (by decide),n0 _ 2 0 (by decide),n0 _ 2 1 (by decide),n0 _ 3 0 (by decide),n0 _ 3 1 (by decide),n0 _ 0 1 (by decide),
   nn _ _ hU 4,nn _ _ hU 3,nn _ _ hU 0,nn _ _ hU 1,nn _ _ km 4,nn _ _ km 3,nn _ _ km 0,nn _ _ km 1⟩
 refine⟨s1.heap.objs.size + 4,[s1.heap.objs.size + 4,s1.heap.objs.size + 2,s1.heap.objs.size + 3,s1.heap.objs.size,s1.heap.objs.size + 1],_,_,H1,O,I1.kept (t':=s1.toks) hk,MZ D,⟨b1,b2,⟨_,_,b3⟩,b4,b5⟩,fun b hb=>?_,q⟩;have ge:s1.heap.objs.size<=b:=by
  simp only[Rp,Rk,or_false] at hb
  rcases hb with rfl|rfl|rfl|rfl|rfl
  ·exact RA _ _
  ·exact RA _ _
  ·exact RA _ _
  ·exact QY _
  ·exact RA _ _
 exact I1.fpOk ge (I1.hok.fresh ge)
theorem Inv.freeze  (I:Inv X aa σ H s) (e:H d=some (.dK kvs)) (ho:s.heap.get? d=some o):Inv X aa σ (upd H d (.frz o (.dK kvs))) s:=by
 have ne:∀ b u,H b=some u->u≠.dK kvs->b≠d:=fun b u q n z=>by rw[z,e] at q;cases q;exact n rfl
 have kp:∀ b u,H b=some u->u≠.dK kvs->upd H d (.frz o (.dK kvs)) b=some u:=fun b u q n=>by rw[ai (ne b u q n)];exact q
 refine I.un (h':=s.heap) (t':=s.toks) ⟨fun b _ q _ _ _=>q,fun b ob q _ _ _=>⟨ob.slots,q⟩,fun b ob q n _=>?_,fun b ob q _=>⟨ob,q⟩,fun b xs q=>kp b _ q (by intro z;cases z),fun b ob u q=>kp b _ q (by intro z;cases z),fun b pp pq q=>kp b _ q (by intro z;cases z)⟩ fun b u q=>?_
 ·rw[ai (fun z=>by rw[z,e] at n;cases n)];exact n
 ·by_cases hb:b=d
  ·subst hb
   rw[ah] at q;cases q
   exact⟨ho,(I.hok _ _ e)⟩
  ·rw[ai hb] at q
   exact(I.hok b u q).stay (fun c v _ r=>r) (fun c r=>kp c _ r (by intro z;cases z)) (fun c xs r=>kp c _ r (by intro z;cases z)) fun c ob r=>kp c _ r (by intro z;cases z)
theorem Inv.thaw  (I:Inv X aa σ H s) (hX:∀ o u,X.H₀ d≠some (.frz o u)) (e:H d=some (.frz o (.dK kvs))):Inv X aa σ (upd H d (.dK kvs)) s:=by
 have ne:∀ b u,H b=some u->(∀ o v,u≠.frz o v)->b≠d:=fun b u q n z=>by rw[z,e] at q;cases q;exact n _ _ rfl
 have kp:∀ b u,H b=some u->(∀ o v,u≠.frz o v)->upd H d (.dK kvs) b=some u:=fun b u q n=>by rw[ai (ne b u q n)];exact q
 have nn:∀ b,H b=none->upd H d (.dK kvs) b=none:=fun b q=>by rw[ai (fun z=>by rw[z,e] at q;cases q)];exact q
 have un:Un X.fs X.ex X.H₀ (upd H d (.dK kvs)) X.s₀.heap s.heap:=by
  obtain⟨b1,b2,b3,b4,b5,b6,b7⟩:=I.base;refine⟨b1,b2,fun b ob q n x=>nn b (b3 b ob q n x),b4,fun b xs q=>kp b _ (b5 b xs q) (by intro _ _ z;cases z),fun b ob u q=>?_,fun b pp pq q=>?_⟩
  ·rw[ai (fun z=>hX ob u (by rw[<- z];exact q))];exact b6 b ob u q
  ·exact kp b _ (b7 b pp pq q) (by intro _ _ z;cases z)
 refine { I with base:=un,free:=nn _ I.free,freeC:=fun x c q=>nn _ (I.freeC x c q),pin:=fun p hp=>?_,hok:=fun b u q=>?_ }
 ·obtain⟨p1,p2,p3⟩:=I.pin p hp
  exact⟨p1,nn _ p2,p3⟩
 ·by_cases hb:b=d
  ·subst hb
   rw[ah] at q;cases q
   exact(I.hok _ _ e).2
  ·rw[ai hb] at q
   exact(I.hok b u q).stay (fun c v _ r=>r) (fun c r=>kp c _ r (by intro _ _ z;cases z)) (fun c xs r=>kp c _ r (by intro _ _ z;cases z)) fun c ob r=>by rw[ai (fun z=>by rw[z,e] at r;cases r)];exact r
theorem Inv.notFrz  (I:Inv X aa σ H s) (e:H d=some (.dK kvs)):∀ o u,X.H₀ d≠some (.frz o u):=fun o u q=>by
 have:=I.base.frzs d o u q;rw[e] at this;cases this
def tThaw (t:TE):TE:=fun σ H Q=>∃ d kvs,H d=some (.dK kvs)/\t σ H fun v H1=>∃ o,H1 d=some (.frz o (.dK kvs))/\Q v (upd H1 d (.dK kvs))
theorem EK {t:TE} (h:PE X e t):PE X e (tThaw t):=by
 intro aa s σ H Q I q;obtain⟨d,kvs,hd,q⟩:=q;exact thn (h aa s σ H _ I q) fun u s1 ⟨x,H1,I1,r,o,e1,q1⟩=>⟨x,_,I1.thaw (I.notFrz hd) e1,r,q1⟩
def iQ (v d:Addr):HO:=.ext fun h=>h.IsItemsView v d
def rItems:V->List V->Hp->VK->Prop:=fun x vs H Q=>∃ d kvs,x=.ref d/\vs=[]/\H d=some (.dK kvs)/\∀ v,H v=none->Q (.ref v) (upd H v (iQ v d))
theorem DY:MtR X "dict.items" rItems:=by
 intro aa s σ H x xs v us Q I rx r h;obtain⟨d,kvs,rfl,rfl,e,q⟩:=h;obtain rfl:v=Value.ref d:=rx;cases r
 obtain⟨z,hd,vs,rel,dd⟩:=iT I.hok e;refine call_meetsIn PySem.F.slot_dict_items dd.typeIs PySem.F.entry_dict_items (PySem.F.args_dict_items_1 _) (meets_dict_items (bJ X.prog X.w) d hd) ⟨⟨vs,dd⟩,?_⟩;refine⟨.ref s.heap.objs.size,_,I.laid (t':=s.toks) (o:=iQ s.heap.objs.size d) (fun b ob q=>QU _ q) (QY _) ?_,O,q _ (I.hok.fresh (QY _))⟩;exact⟨⟨_,Q1 _ O,O,O⟩,⟨_,Q1 _ O⟩,fun h1 h2 ⟨o,a,r⟩ k=>⟨o,k o a,r⟩⟩
def Iti (d:Addr) (o:Obj) (kvs:List (Key×V)):It:=
 ⟨fun i H=>H d=some (.frz o (.dK kvs))/\i<kvs.length,fun i H v H'=>∃ T k x,v=.ref T/\H T=none/\kvs[i]?=some (k,x)/\H'=upd H T (.tup [kV k,x]),fun i H=>H d=some (.frz o (.dK kvs))/\kvs.length<=i⟩
def ItemIt (h:Heap) (it d:Addr) (o:Obj) (n i:Nat):Prop:=∃ es ep ok ov,o.data=.dict es ep/\IsItemIter h it d i n ep ok ov
theorem AH {P:Program}{k:Key} (h:(bJ P w).is k u=true):av (kV k) u:=by
 rcases jI (show o6 k u=true from h) with⟨i,t,rfl,rfl⟩|⟨x,t,rfl,rfl⟩
 ·exact⟨t,O⟩
 ·exact⟨t,O⟩
theorem KV.get {kvs:List (Key×V)}{vs:List (Key×Value)} (r:KV kvs vs):∀ {i:Nat}{k:Key}{x:V},kvs[i]?=some (k,x)->∃ u,vs[i]?=some (k,u)/\av x u:=by
 induction r with
 | nil=>intro i k x e;simp at e
 | @cons p q l1 l2 h t ih=>
  intro i k x e;cases i with
  | zero=>
   simp at e
   subst e;exact⟨q.2,by simp only[List.getElem?_cons_zero,Option.some.injEq];exact Prod.ext h.1.symm O,h.2⟩
  | succ i=>exact ih (by simpa using e)
theorem MK:entryFor table "dict_itemiterator.__iter__"=some Builtin.«dict_keyiterator.__iter__»:=entryFor_alias (id':="dict_keyiterator.__iter__") (by kernel_rfl) rfl (by decide +kernel) (by kernel_rfl)
theorem PH {P:Program}{K:PySem.W.Frag}{k:Nat}{pos:Pos}:k9 P w K (.Tuple es k pos) (Iti d o kvs) [it] it (fun i h=>ItemIt h it d o kvs.length i) where
 mem:=by simp
 obj:=fun i h st b hb=>by
  have e:b=it:=by simpa using hb
  subst e;obtain⟨_,_,_,_,_,e⟩:=st;exact⟨_,e,fun v q=>by simp at q⟩
 keep:=fun i h h' st kk=>by
  obtain⟨a,b,c,e,q,y⟩:=st;exact⟨a,b,c,e,q,kk it (by simp) _ y⟩
 item:=by
  intro X hP hw hK hc i aa s σ H E I hf st hg;subst hP hw hK;obtain⟨hd,aY⟩:=hg;obtain⟨cR,ep,ok,ov,ao,hit⟩:=st;obtain⟨f0,f1,f2,f3,f4,f5⟩:=hf it (by simp);obtain⟨ho,kG⟩:=I.hok _ _ hd;obtain⟨z,iz,vs,rel,⟨o',uo,uP,fO,ja,bR,r2⟩⟩:=kG;rw[ho] at fO;cases fO
  rw[ao] at bR;cases bR
  have dS:s.heap.DictAt (bJ X.prog X.w) d vs ep:=⟨o,cR,ho,ja,ao,r2⟩;obtain⟨⟨kk,x⟩,hx⟩:∃ p,kvs[i]?=some p:=⟨kvs[i],by simp[aY]⟩;obtain⟨u,hu,ru⟩:=rel.get hx;have aj:kvs.length=vs.length:=rel.length;rw[aj] at hit;refine wpAny_pyNext_items_item hit dS hu fun key h' bZ a1 a2 a3 Hy=>⟨_,O,?_⟩
  refine wpAny_letOwnedTupleGo_items (s:={ s with heap:=h' }) a1 fun cF bi aW=>?_
  have mL:H s.heap.objs.size=none:=I.hok.fresh (QY _);have nT:s.heap.objs.size≠it:=Ne.symm (Q5 (QZ hit));have I1:Inv X aa σ (upd H s.heap.objs.size (.tup [kV kk,x])) { s with heap:=s.heap.push { cls:=.type "tuple",data:=.seq #[key,u] } }:=
   I.laid (t':=s.toks) (fun b o e=>QU _ e) (QY _) ⟨by show 2<=sizeLine;decide,[key,u],.cons (AH bZ) (.cons ru .nil),⟨_,Q1 _ rfl,O,_,O⟩⟩
  have Bq:upd H s.heap.objs.size (.tup [kV kk,x]) it=none:=by rw[ai (Ne.symm nT)];exact f0
  have I2:Inv X aa σ (upd H s.heap.objs.size (.tup [kV kk,x])) { s with heap:=cF }:=I1.turned (t':=s.toks) (fun b ob hb e=>by
   rcases SO e with⟨rfl,rfl⟩|e
   ·exact aW.extBut _ _ hb a2
   ·exact aW.extBut _ _ hb (Hy b ob hb e)) Bq f1 f3 f4 f5
  refine⟨.ref s.heap.objs.size,_,I2,O,⟨_,kk,x,O,mL,hx,O⟩,⟨cR,ep,key,u,ao,by rw[aj];exact bi⟩,fun b hb=>?_⟩;have e:b=it:=by simpa using hb
  subst e;exact Bq
 done:=by
  intro X hP hw hK hc i aa s σ H E I hf st hg;subst hP hw hK;obtain⟨hd,ib⟩:=hg;obtain⟨cR,ep,ok,ov,ao,hit⟩:=st;obtain⟨f0,f1,f2,f3,f4,f5⟩:=hf it (by simp);obtain⟨ho,kG⟩:=I.hok _ _ hd;obtain⟨z,iz,vs,rel,⟨o',uo,uP,fO,ja,bR,r2⟩⟩:=kG;rw[ho] at fO;cases fO
  rw[ao] at bR;cases bR
  have dS:s.heap.DictAt (bJ X.prog X.w) d vs ep:=⟨o,cR,ho,ja,ao,r2⟩;have aj:kvs.length=vs.length:=rel.length;rw[aj] at hit;have nc:∃ cs,HdC X.A cs/\Chn s.heap cs/\it∉cs:=by
   rcases I.hdAt with e|⟨b,cs,e,c⟩
   ·exact⟨[],.inl ⟨e,O⟩,⟨Sm,fun j a q=>by simp at q⟩,by simp⟩
   ·exact⟨b::cs,.inr ⟨b,cs,O,e⟩,c.chn I.hok,c.not_mem f0⟩
  obtain⟨cs,cw,ch,pe⟩:=nc;exact Lh cw ch pe hit dS (R7 (by rw[<- aj];exact ib)) fun h' eb=>⟨O,I.turned (t':=s.toks) (fun b o hb e=>eb b o hb e) f0 f1 f3 f4 f5⟩
 self:=fun A i s Q E st h=>by
  obtain⟨cR,ep,ok,ov,ao,hit⟩:=st;have hT:s.TypeIs (.ref it) "dict_itemiterator":=⟨_,hit,O⟩;refine UA hT PySem.F.slot_dict_itemiterator_iter (RB PySem.F.slot_dict_itemiterator_iter hT MK ?_ (PySem.F.args_dict_itemiterator_iter_1 _));show wpAny _ _ (ret (.ref it)) _ _ s;exact QW ⟨_,O,"dict_itemiterator",_,hT,PySem.F.slot_dict_itemiterator_next.lookup,h⟩
def iView (tl:TE):TI:=fun σ H R=>tl σ H fun x H1=>∃ v d kvs,x=.ref v/\H1 v=some (iQ v d)/\H1 d=some (.dK kvs)/\∀ o,R (Iti d o kvs) (upd H1 d (.frz o (.dK kvs)))
theorem Ge {k:Nat}{l:Expr} (hl:PE X l tl):PI X (.Tuple es k tpos) l (iView tl):=by
 intro aa s σ H R I h;refine thn (hl aa s σ H _ I h) fun w s1=>L2.ex5 fun x H1 I1 r1 a8=>?_
 obtain⟨v,d,kvs,e,hv,hd,q⟩:=a8;subst e;obtain rfl:w=Value.ref v:=r1;obtain⟨z,iz,vs,rel,dd⟩:=iT I1.hok hd;obtain⟨o,cR,ep,ho,hx,ao,r⟩:=id dd;have dS:s1.heap.DictAt (bJ X.prog X.w) d vs ep:=⟨o,cR,ho,hx,ao,r⟩;refine wpAny_pyIter_items (I1.hok _ _ hv).1 dS ?_;have I2:=(I1.freeze hd ho).kept (t':=s1.toks) (h':=s1.heap.push { cls:=.type "dict_itemiterator",data:=.fields #[.none,.bool false,.ref d,.int 0 0,.int vs.length 0,.int ep 0,.none,.none] }) fun b o e=>QU _ e
 refine⟨s1.heap.objs.size,[s1.heap.objs.size],_,_,_,O,I2,PH,⟨cR,ep,.none,.none,ao,?_⟩,fun b hb=>?_,q o⟩
 ·rw[rel.length];exact Q1 _ rfl
 ·have e:b=s1.heap.objs.size:=by simpa using hb
  subst e;refine I1.fpOk (QY _) ?_;rw[ai (Ne.symm (Q5 (QZ ho)))];exact I1.hok.fresh (QY _)
theorem AS {K:PySem.W.Frag}{l2:Addr}{Q:VK} (aj:xs.length=ys.length) (Pv:Nat->St->Hp->Prop) (h0:Pv 0 τ H) (hl:∀ i τ H,i<=xs.length->Pv i τ H->SqL K H l1 xs/\SqL K H l2 ys)
  (hs:∀ i x y T τ H,xs[i]?=some x->ys[i]?=some y->H T=none->Pv i τ H->g (.ref T) τ (upd H T (.tup [x,y])) fun τ2 H2=>tt τ2 H2 fun b H3=>
   if b=true then te τ2 H3 fun y H4=>∃ ys,H4 D=some (.lst ys)/\ys.length<sizeLine/\Pv (i + 1) τ2 (upd H4 D (.lst (ys++[y]))) else Pv (i + 1) τ2 H3)
  (hd:∀ τ H,Pv xs.length τ H->Q (.ref D) H):jK (Itz K l1 l2) D τ H g tt te Q:=
 wk_ (n:=xs.length) Pv h0 (fun i σ H hi p=>⟨fun h=>⟨xs,ys,xs[i],ys[i],(hl i σ H hi p).1,(hl i σ H hi p).2,by simp[h],by simp[show i<ys.length by omega]⟩,fun h=>⟨xs,ys,(hl i σ H hi p).1,(hl i σ H hi p).2,.inl h⟩⟩) (fun i v σ H H' hi p y=>by
 obtain⟨T,x,y,rfl,hT,rfl,hx,hy⟩:=y;exact hs i x y T σ H (hx xs (hl i σ H (RS hi) p).1) (hy ys (hl i σ H (RS hi) p).2) hT p) hd
theorem bt_int:bootBuiltins "int"=some (.type "int"):=by decide +kernel
theorem N8:bootBuiltins "bool"=some (.type "bool"):=by decide +kernel
theorem vH:bootBuiltins "list"=some (.type "list"):=by decide +kernel
theorem MA:bootBuiltins "tuple"=some (.type "tuple"):=by decide +kernel
theorem vG:bootBuiltins "dict"=some (.type "dict"):=by decide +kernel
theorem uf:bootBuiltins "isinstance"=some (.builtin "isinstance"):=by decide +kernel
theorem D4:bootBuiltins "all"=some (.builtin "all"):=by decide +kernel
theorem FT:bootBuiltins "any"=some (.builtin "any"):=by decide +kernel
theorem eh:bootBuiltins "len"=some (.builtin "len"):=by decide +kernel
theorem bt_abs:bootBuiltins "abs"=some (.builtin "abs"):=by decide +kernel
theorem u9:bootBuiltins "min"=some (.builtin "min"):=by decide +kernel
theorem bt_max:bootBuiltins "max"=some (.builtin "max"):=by decide +kernel
theorem Gg:bootBuiltins "sorted"=some (.builtin "sorted"):=by decide +kernel
theorem AL:bootBuiltins "sum"=some (.builtin "sum"):=by decide +kernel
theorem Nf (bs:List Bool) (d:Bool):(List.range bs.length).all (fun i=>bs.getD i d)=bs.all id:=by
 induction bs with
 | nil=>rfl
 | cons b bs ih=>
  rw[Re,S9,Tw,Uo,Tw,<- ih];rfl
theorem PF (bs:List Bool) (d:Bool):(List.range bs.length).any (fun i=>bs.getD i d)=bs.any id:=by
 induction bs with
 | nil=>rfl
 | cons b bs ih=>
  rw[Re,S9,SQ,TR,SQ,<- ih];rfl
theorem E1 {bs:List Bool} (r:aw (bs.map V.bl) us) (h:us[i]?=some v):v=.bool (bs.getD i true):=by
 have hl:(bs.map V.bl).length=us.length:=r.length;have hi:i<bs.length:=by
  have:=(List.getElem?_eq_some_iff.mp h).1;rw[QT] at hl;omega
 obtain⟨u,hu,ru⟩:=r.get (i:=i) (x:=.bl bs[i]) (by simp[hi]);rw[h] at hu;cases hu
 rw[QV,QX hi];exact ru
theorem ET:gD X (.builtin "all") (fun xs H Q=>∃ p,∃ bs:List Bool,xs=[.ref p]/\SqL X.K H p (bs.map V.bl)/\Q (.bl (bs.all id)) H):=by
 intro aa s σ H xs us Q I r h;obtain⟨p,bs,rfl,hq,q⟩:=h;obtain⟨u,rfl,ru⟩:=gE r;obtain rfl:u=Value.ref p:=ru;obtain⟨ag,rv,pl,_⟩:=I.list hq;obtain⟨cs,cw,ch⟩:=I.hd.chain;have aY:p<s.heap.objs.size:=by obtain⟨o,e,_⟩:=pl.isList;exact QZ e
 have c7:s.heap.objs.size∉cs:=fun z=>Rl _ (ch.lt _ z)
 have aj:ag.length=bs.length:=by rw[<- rv.length,QT]
 refine call_all_walk (R5 pl.isList ⟨s.heap.objs.size,_,_,_,_,_,fun i=>bs.getD i true,O,qr (A:=X.A.in1) cw s.heap.objs.size p (Q5 aY) c7 ag.toArray,⟨⟨_,Q1 _ O,O,O⟩,pl.isList.push _,ch.mono fun b o _ e=>QU _ e⟩,?_,fun h' tk hk=>?_⟩)
 ·intro i v s' Q' E' hv wB
  have c6:ag[i]?=some v:=by simpa using hv
  rw[E1 rv c6];exact R4 wB
 ·have e:(List.range ag.toArray.size).all (fun i=>bs.getD i true)=bs.all id:=by rw[Rc,aj];exact Nf bs true
  rw[e];exact⟨.bl _,H,I.kept fun b o e=>hk b o (fun z=>by
   have:b=s.heap.objs.size:=by simpa using z
   exact absurd (QZ e) (by rw[this];exact Rl _)) (QU _ e),O,q⟩
theorem EA:gD X (.builtin "any") (fun xs H Q=>∃ p,∃ bs:List Bool,xs=[.ref p]/\SqL X.K H p (bs.map V.bl)/\Q (.bl (bs.any id)) H):=by
 intro aa s σ H xs us Q I r h;obtain⟨p,bs,rfl,hq,q⟩:=h;obtain⟨u,rfl,ru⟩:=gE r;obtain rfl:u=Value.ref p:=ru;obtain⟨ag,rv,pl,_⟩:=I.list hq;obtain⟨cs,cw,ch⟩:=I.hd.chain;have aY:p<s.heap.objs.size:=by obtain⟨o,e,_⟩:=pl.isList;exact QZ e
 have c7:s.heap.objs.size∉cs:=fun z=>Rl _ (ch.lt _ z)
 have aj:ag.length=bs.length:=by rw[<- rv.length,QT]
 refine call_any_walk (R5 pl.isList ⟨s.heap.objs.size,_,_,_,_,_,fun i=>bs.getD i true,O,qr (A:=X.A.in1) cw s.heap.objs.size p (Q5 aY) c7 ag.toArray,⟨⟨_,Q1 _ O,O,O⟩,pl.isList.push _,ch.mono fun b o _ e=>QU _ e⟩,?_,fun h' tk hk=>?_⟩)
 ·intro i v s' Q' E' hv wB
  have c6:ag[i]?=some v:=by simpa using hv
  rw[E1 rv c6];exact R4 wB
 ·have e:(List.range ag.toArray.size).any (fun i=>bs.getD i true)=bs.any id:=by rw[Rc,aj];exact PF bs true
  rw[e];exact⟨.bl _,H,I.kept fun b o e=>hk b o (fun z=>by
   have:b=s.heap.objs.size:=by simpa using z
   exact absurd (QZ e) (by rw[this];exact Rl _)) (QU _ e),O,q⟩
theorem Mm {P:Program}:∀ {kvs:List (Key×V)}{vs:List (Key×Value)}{acc:List Value},KV kvs vs->acc.length=vs.length->(∀ (i:Nat) (v:Value),acc[i]?=some v->∃ k x,vs[i]?=some (k,x)/\(bJ P w).is k v=true)->aw (kvs.map fun kv=>kV kv.1) acc:=by
 intro kvs vs acc r
 induction r generalizing acc with
 | nil=>
  intro hl _;cases acc with
  | nil=>exact .nil
  | cons _ _=>simp at hl
 | @cons p q ps qs h t ih=>
  intro hl hk;cases acc with
  | nil=>simp at hl
  | cons v acc=>
   obtain⟨k,x,e,hv⟩:=hk 0 v rfl;simp at e
   subst e;refine .cons ?_ (ih (by simpa using hl) fun i v' c6=>by simpa using hk (i + 1) v' (by simpa using c6));show av (kV p.1) v;rw[h.1];exact AH hv
section
variable {K:PySem.W.Frag} (hK:X.K=K)
include hK
theorem tj:IxR X (rIxL K):=hK ▸ bx
theorem tW:IxR X (rIxT K):=hK ▸ cf
theorem Oq:SlR X (rSlT K):=hK ▸ sl_tup
theorem AA {f:Str}{pos:Pos}{ta:TE} (he:PE X e ta) (hb:attributeBase e f X.env (eval e X.env)=eval e X.env):PE X (.Attribute e f pos) (tFld K ta f):=hK ▸ bG he hb
theorem jS {k:Nat}{pos:Pos}{t:TGs} (hc:X.calm=true) (h:PGs X es t) (hn:(assignEach es X.env).length=n:=by rfl) (cO:(assignEach es X.env).findIdx? (·.1)=none:=by rfl):PG X (.Tuple es k pos) (gTup K n t):=hK ▸ fD hc h hn cO
end
section
theorem MR (hc:HdC A cs) (I ax:Addr) (eC:ax≠I) (hI:I∉cs) (items:Array Value) :
  Walks prog w A I (I::ax::cs) [I] items.size (fun i v=>items[i]?=some v) (fun i h=>h.IsTupleIter I ax i/\h.IsTuple ax items/\Chn h cs) where
 sub:=fun b hb=>by simp at hb;simp[hb]
 frame:=fun _ _ _ st hk=>⟨st.1.at fun o e=>hk I (by simp) o e,st.2.1.at fun o e=>hk ax (by simp) o e,st.2.2.mono fun b o hb e=>hk b (by simp[hb]) o e⟩
 item:=fun i s Q E hi st hQ=>by
  refine wpAny_pyNext_tuple_item st.1 st.2.1 (x:=items[i]) (by simp[hi]) fun h' bi aW=>?_
  exact hQ _ h' s.toks (by simp[hi]) ⟨bi,st.2.1.extBut aW.extBut eC,st.2.2.but hI aW.extBut⟩ fun b o hb e=>aW.extBut b o (fun h=>hb (by simp[h])) e
 done:=fun s Q E st hQ=>E3 (hc.hd st.2.2) st.1 st.2.1 (by simp) fun h' dE=>hQ h' s.toks fun b o hb e=>dE b o (fun h=>hb (by simp[h])) e
 self:=fun _ _ _ _ st hQ=>wpAny_pyIter_tupleiter st.1 hQ
theorem min2H {a b:Int}{t u:Tok}{Q:Value->Shared->Prop} (hc:HdC A cs) (ch:Chn s.heap cs)
  (h:∀ h' tk,(∀ c o,s.heap.get? c=some o->h'.get? c=some o)->Q (if b<a then .int b u else .int a t) { s with heap:=h',toks:=tk }) :
  wpAny (model prog w) A (call (.builtin "min") [.int a t,.int b u]) Q E s:=by
 have hT:(s.heap.push { cls:=.type "tuple",data:=.seq #[.int a t,.int b u] }).IsTuple s.heap.objs.size (intItems #[(a,t),(b,u)]):=⟨_,Q1 _ O,O,0,by simp[intItems]⟩;refine call_min_two (wpAny_pyIter_tuple hT ?_);have hsz:(s.heap.push { cls:=.type "tuple",data:=.seq #[.int a t,.int b u] }).objs.size=s.heap.objs.size + 1:=Rr ..;have ns:∀ k,s.heap.objs.size<=k->k∉cs:=fun k hk z=>absurd (ch.lt _ z) (Nat.not_lt.mpr hk)
 refine⟨_,_,[_],_,_,_,_,O,MR (A:=A.in1) hc _ s.heap.objs.size (by rw[hsz];exact Q5 (RW _)) (ns _ (by rw[hsz];exact RO _)) (intItems #[(a,t),(b,u)]),
  ⟨⟨_,Q1 _ rfl,rfl,rfl⟩,hT.push _,ch.mono fun b o _ e=>QU _ (QU _ e)⟩,fun c hc=>?_,by simp[intItems],CmpOf.ints_lt (numAt #[(a,t),(b,u)]) (fun _ _=>intItems_at),fun v h' tk hP hk=>?_⟩
 ·show c<((s.heap.push _).push _).objs.size
  rw[Rr,hsz];rcases Rp.mp hc with rfl|hc
  ·rw[hsz];exact RW _
  ·rcases Rp.mp hc with rfl|hc
   ·exact RM (RW _)
   ·exact Ri (ch.lt _ hc) (by omega)
 ·have wF:∀ c o,s.heap.get? c=some o->h'.get? c=some o:=fun c o e=>by
   refine hk c o (fun hm=>?_) (QU _ (QU _ e));have e1:=S1.mp hm;have:=QZ e;rw[e1,hsz] at this;exact Rl _ (UB this)
  have:=h h' tk wF;have hv:v=if b<a then Value.int b u else Value.int a t:=by
   have jt:(intItems #[(a,t),(b,u)])[argBest (fun i j=>decide (numAt #[(a,t),(b,u)] i<numAt #[(a,t),(b,u)] j)) 1]?=some v:=by
    have yY:(intItems #[(a,t),(b,u)]).size - 1=1:=by simp[intItems]
    rw[<- yY];exact hP
   by_cases uN:b<a
   ·have e:argBest (fun i j=>decide (numAt #[(a,t),(b,u)] i<numAt #[(a,t),(b,u)] j)) 1=1:=by simp[argBest,numAt,uN]
    rw[e] at jt
    simpa [intItems,uN] using jt.symm
   ·have e:argBest (fun i j=>decide (numAt #[(a,t),(b,u)] i<numAt #[(a,t),(b,u)] j)) 1=0:=by simp[argBest,numAt,uN]
    rw[e] at jt
    simpa [intItems,uN] using jt.symm
  rw[hv];exact this
section
variable {κ:Type} [DecidableEq κ] {knd:KeyKind prog w κ}
theorem LB {R:List Value->Shared->Prop} (hc:HdC A cs){kvs:List (κ×Value)} (hd:(d == sysModules)=false) (hm:s.heap.DictAt knd d kvs ep) (c:Chn s.heap cs) (hn:kvs.length<=sizeLine)
  (h:∀ s' (acc:Array Value),(∀ b o,s.heap.get? b=some o->s'.heap.get? b=some o)->s'.gens=s.gens->s'.drawn=s.drawn->s'.os=s.os->s.heap.objs.size<s'.heap.objs.size->ItemsOf (fun i v=>∃ k x,kvs[i]?=some (k,x)/\knd.is k v=true) acc kvs.length->R acc.toList s') :
  wpAny (model prog w) A (collect (.ref d)) R E s:=by
 unfold collect;refine mJ (wpAny_runValue (codeAny_builtin entry_proto_collect' ?_));rw[Around.under_plainId PySem.F.plain_proto_collect _];show wpAny _ A.in1 (newList [] >>= fun l=>again (.builtin "list.__iadd__" ⟨[l,.ref d],[]⟩)) _ _ s;refine mJ (Su ?_);refine QW ⟨plainId_quiet PySem.F.plain_list_iadd _,codeAny_builtin entry_list_iadd' ?_⟩;rw[Around.under_plainId PySem.F.plain_list_iadd _];have yH:(s.heap.push { cls:=.type "list",data:=.seq ([]:List Value).toArray }).get? s.heap.objs.size=some { cls:=.type "list",data:=.seq #[] }:=Q1 _ rfl;have dP:∀ b o,s.heap.get? b=some o->(s.heap.push { cls:=.type "list",data:=.seq ([]:List Value).toArray }).get? b=some o:=fun b o e=>QU _ e
 have xG:s.heap.objs.size≠d:=Ne.symm (Q5 hm.lt_size);have mQ:s.heap.objs.size∉cs:=fun z=>Rl _ (c.lt _ z)
 show wpAny _ A.in1 (Builtin.List.listExtendWith (.ref s.heap.objs.size) (.ref d) (.ref s.heap.objs.size)) _ _ _;have key:=Pi (A:=A) (s:={ s with heap:=s.heap.push { cls:=.type "list",data:=.seq ([]:List Value).toArray } }) (res:=.ref s.heap.objs.size)
  (R:=fun(q:Result) (s':Shared)=>∃ (bB:Array Value) (c':Nat),q=.ok (.ret (.ref s.heap.objs.size))/\(∀ b o,s.heap.get? b=some o->s'.heap.get? b=some o)/\s'.gens=s.gens/\s'.drawn=s.drawn/\s'.os=s.os /\
   s'.heap.get? s.heap.objs.size=some { cls:=.type "list",dict:=none,data:=.seq bB c',slots:=#[] }/\ItemsOf (fun i v=>∃ k x,kvs[i]?=some (k,x)/\knd.is k v=true) bB kvs.length)
  hc hd (hm.at' fun o e=>dP d o e) (c.mono fun b o _ e=>dP b o e) yH xG mQ hn (fun s' acc c' mv dG bC=>⟨acc,c',O,fun b o e=>mv.heap b o (fun z=>by
   have lt:=QZ e;simp only[Rp,Rk,or_false] at z
   rcases z with z|z
   ·exact absurd lt (by rw[z];exact Rl _)
   ·exact absurd lt (by rw[z];show ¬ (s.heap.push _).objs.size<_;rw[Rr];exact Nat.not_lt.mpr (RO _))) (dP b o e),mv.gens,mv.drawn,mv.os,dG,bC⟩)
 refine RJ key (fun fin s' x=>?_) fun e s' x=>?_
 ·cases fin with
  | done f=>
   obtain⟨bB,c',e,hk,g1,g2,g3,dG,bC⟩:=x;cases e
   show wpAny _ A (load s.heap.objs.size >>= _) _ _ _;refine mJ (UF dG ?_);exact QW (h s' bB hk g1 g2 g3 (QZ dG) bC)
  | again c₁=>
   refine⟨x.1,codeAny_mono x.2 fun q s₂ y=>?_⟩;obtain⟨bB,c',rfl,hk,g1,g2,g3,dG,bC⟩:=y;show wpAny _ A (load s.heap.objs.size >>= _) _ _ _;refine mJ (UF dG ?_);exact QW (h s₂ bB hk g1 g2 g3 (QZ dG) bC)
 ·obtain⟨_,_,e',_⟩:=x
  cases e'
end
end
theorem GV:gD X (.builtin "min") (fun xs H Q=>∃ i j,xs=[.int i,.int j]/\Q (.int (if j<i then j else i)) H):=by
 intro aa s σ H xs us Q I r h;obtain⟨i,j,rfl,q⟩:=h;obtain⟨u,w',rfl,⟨t,rfl⟩,⟨t',rfl⟩⟩:=pY r;obtain⟨cs,cw,ch⟩:=I.hd.chain;refine min2H cw ch fun h' tk k=>⟨_,H,I.kept k,?_,q⟩
 by_cases hj:j<i
 ·rw[if_pos hj,if_pos hj];exact⟨_,O⟩
 ·rw[if_neg hj,if_neg hj];exact⟨_,O⟩
theorem sV  (r:aw (ns.map V.int) us) (h:us[i]?=some v):∃ t,v=.int (ns.getD i 0) t:=by
 induction ns generalizing us i with
 | nil=>
  cases r
  simp at h
 | cons n ns ih=>
  cases r with
  | cons rv rr=>
   cases i with
   | zero=>
    obtain⟨t,rfl⟩:=rv;simp at h
    exact⟨t,h.symm⟩
   | succ i=>exact ih rr (by simpa using h)
theorem Ow (f:Nat->Int) (ns:List Int) (h:∀ i,f i=ns.getD i 0):preSum f ns.length=ns.sum:=by
 have e:f=fun i=>ns.getD i 0:=funext h
 rw[e,preSum_getD,Rf]
theorem Bb:gD X (.builtin "sum") (fun xs H Q=>∃ p,∃ ns:List Int,xs=[.ref p]/\SqL X.K H p (ns.map V.int)/\Q (.int ns.sum) H):=by
 intro aa s σ H xs us Q I r h;obtain⟨p,ns,rfl,hq,q⟩:=h;obtain⟨u,rfl,ru⟩:=gE r;obtain rfl:u=Value.ref p:=ru;obtain⟨ag,rv,pl,_⟩:=I.list hq;obtain⟨cs,cw,ch⟩:=I.hd.chain;have aY:p<s.heap.objs.size:=by obtain⟨o,e,_⟩:=pl.isList;exact QZ e
 have c7:s.heap.objs.size∉cs:=fun z=>Rl _ (ch.lt _ z)
 have aj:ag.length=ns.length:=by rw[<- rv.length,QT]
 refine call_sum_walkG (R5 pl.isList ⟨s.heap.objs.size,_,_,_,_,_,fun i=>ns.getD i 0,O,qr (A:=X.A.in1) cw s.heap.objs.size p (Q5 aY) c7 ag.toArray,⟨⟨_,Q1 _ O,O,O⟩,pl.isList.push _,ch.mono fun b o _ e=>QU _ e⟩,?_,?_,fun h' tk t' hk=>?_⟩)
 ·intro b hb
  show b<(s.heap.push _).objs.size;rw[Rr];rcases Rp.mp hb with rfl|hb
  ·exact RW _
  ·rcases Rp.mp hb with rfl|hb
   ·exact RM aY
   ·exact RM (ch.lt _ hb)
 ·intro i v hv
  exact sV rv (by simpa using hv)
 ·have e:preSum (fun i=>ns.getD i 0) ag.toArray.size=ns.sum:=by rw[Rc,aj];exact Ow _ _ fun _=>rfl
  rw[e];exact⟨.int _,H,I.kept fun b o e=>hk b o (fun z=>by
   have:b=s.heap.objs.size:=by simpa using z
   exact absurd (QZ e) (by rw[this];exact Rl _)) (QU _ e),⟨_,O⟩,q⟩
theorem Mu:OpR X (compareOp .IsNot) (fun x y H Q=>∃ c d,x=.bl c/\y=.bl d/\Q (.bl (c != d)) H):=by
 intro aa s σ H x y v u Q I rx ry h;obtain⟨c,d,rfl,rfl,q⟩:=h;cases rx
 cases ry
 exact isnot_bool (bN I q O)
theorem len0  (h:P []) (us:List Value) (e:us.length=0):P us:=by
 rw[List.length_eq_zero_iff.mp e];exact h
theorem qd  (h:∀ a us,us.length=n->P (a::us)) (us:List Value) (e:us.length=n + 1):P us:=by
 cases us with
 | nil=>cases e
 | cons a us=>exact h a us (Nat.succ.inj e)
theorem len1  (h:∀ a0,P [a0]):∀ us:List Value,us.length=1->P us:=qd fun a=>len0 (P:=fun r=>P (a::r)) (h a)
theorem len2  (h:∀ a0 a1,P [a0,a1]):∀ us:List Value,us.length=2->P us:=qd fun a=>len1 (P:=fun r=>P (a::r)) (h a)
theorem len3  (h:∀ a0 a1 a2,P [a0,a1,a2]):∀ us:List Value,us.length=3->P us:=qd fun a=>len2 (P:=fun r=>P (a::r)) (h a)
theorem len4  (h:∀ a0 a1 a2 a3,P [a0,a1,a2,a3]):∀ us:List Value,us.length=4->P us:=qd fun a=>len3 (P:=fun r=>P (a::r)) (h a)
theorem len5  (h:∀ a0 a1 a2 a3 a4,P [a0,a1,a2,a3,a4]):∀ us:List Value,us.length=5->P us:=qd fun a=>len4 (P:=fun r=>P (a::r)) (h a)
theorem len6  (h:∀ a0 a1 a2 a3 a4 a5,P [a0,a1,a2,a3,a4,a5]):∀ us:List Value,us.length=6->P us:=qd fun a=>len5 (P:=fun r=>P (a::r)) (h a)
theorem gz {A B:Prop} (hb:b=false) (h:B):if b=true then A else B:=by
 subst hb;exact mi h
theorem iteYes {A B:Prop} (hb:b=true) (h:A):if b=true then A else B:=by
 subst hb;exact eK h
theorem dv {A B:Prop} (h1:b=true->A) (h2:b=false->B):if b=true then A else B:=by
 cases b with
 | true=>exact eK (h1 O)
 | false=>exact mi (h2 O)
def isTup:HO->Bool
 | .tup _=>true
 | .frz _ (.tup _)=>true
 | _=>false
def Tk (H H':Hp):Prop:=∀ b o,H b=some o->isTup o=true->H' b=some o
theorem Tk.of  (e:ae H H'):Tk H H':=fun b o h _=>e b o h
theorem Tk.trans  (a:Tk H H1) (b:Tk H1 H2):Tk H H2:=fun c o h z=>b c o (a c o h z) z
theorem Tk.upd {H:Hp}{c:Addr}{u o:HO} (h:H c=some u) (n:isTup u=false):Tk H (L2.upd H c o):=fun b w e z=>by
 have:b≠c:=fun q=>by subst q;rw[h] at e;cases e;rw[n] at z;cases z
 rw[ai this];exact e
theorem Tk.sqT {K:PySem.W.Frag} (e:Tk H H') (h:SqT K H a xs):SqT K H' a xs:=by
 rcases h with(h|⟨o,h⟩)|h
 ·exact .inl (.inl (e _ _ h O))
 ·exact .inl (.inr ⟨o,e _ _ h O⟩)
 ·exact .inr h
mutual
def vP:Dt->Bool
 | .lst _=>false
 | .tup ds=>sU ds
 | _=>true
def sU:List Dt->Bool
 | []=>true
 | d::ds=>vP d && sU ds
end
mutual
theorem Tk.dt {K:PySem.W.Frag}{H H':Hp} (e:Tk H H'):∀ {d:Dt}{x:V},vP d=true->DtV K H d x->DtV K H' d x
 | .non,_,_,h=>h
 | .bl _,_,_,h=>h
 | .int _,_,_,h=>h
 | .str _,_,_,h=>h
 | .lst ds,_,z,h=>by cases z
 | .tup ds,_,z,h=>by
  obtain⟨a,xs,e1,h1,h2⟩:=h;exact⟨a,xs,e1,e.sqT h1,e.dts z h2⟩
theorem Tk.dts {K:PySem.W.Frag}{H H':Hp} (e:Tk H H'):∀ {ds:List Dt}{xs:List V},sU ds=true->aJ K H ds xs->aJ K H' ds xs
 | [],_,_,h=>h
 | d::ds,_,z,h=>by
  obtain⟨y,ys,e1,h1,h2⟩:=h;have z':=(RC _ _).mp z;exact⟨y,ys,e1,e.dt z'.1 h1,e.dts z'.2 h2⟩
end
theorem cW {α:Type}{f:α->Dt} (h:∀ x,vP (f x)=true):∀ l:List α,sU (l.map f)=true
 | []=>rfl
 | x::l=>by
  show(vP (f x) && sU (l.map f))=true;rw[h x,cW h l];rfl
theorem F9 {α:Type}{f:α->Dt} (h:∀ x,jP n (f x)) (l:List α):fE n (l.map f):=fE.of fun d hd=>by
 obtain⟨x,_,rfl⟩:=List.mem_map.mp hd;exact h x
theorem eL {K:PySem.W.Frag}{α:Type}{f:α->Dt}{l:List α} (h:aJ K H (l.map f) xs) (e:xs[i]?=some x):∃ q,l[i]?=some q/\DtV K H (f q) x:=by
 have hi:i<l.length:=by
  have h1:=h.length;rw[QT] at h1;have:=(List.getElem?_eq_some_iff.mp e).1;omega
 obtain⟨q,hq⟩:=eB hi;obtain⟨y,hy,hd⟩:=h.get (j:=i) (d:=f q) (by rw[Q4,hq];rfl);rw[e] at hy;cases hy
 exact⟨q,hq,hd⟩
theorem zam {α:Type}{l:List α}{q:α} (h:l[i]?=some q):l.take (i + 1)=l.take i++[q]:=by
 rw[TD,h];rfl
def Tps (H:Hp) (xs:List V):Prop:=∀ x∈xs,∃ q zs,x=V.ref q/\H q=some (.tup zs)
theorem at_int {k:Int} (h0:0<=k) (h1:k<ns.length):∃ c,atI (ns.map V.int) k=some (.int c):=by
 refine⟨ns.getD k.toNat 0,?_⟩;unfold atI ixN;rw[if_pos h0,if_pos (by rw[QT];exact h1)];show(ns.map V.int)[k.toNat]?=_;rw[Q4,QV,QX (show k.toNat<ns.length by omega)];rfl
theorem Em {k:Int} (h0:0<=k) (h1:k<ss.length):∃ s,s∈ss/\atI (ss.map V.str) k=some (.str s):=by
 have hk:k.toNat<ss.length:=by omega
 refine⟨ss[k.toNat],Sw hk,?_⟩;unfold atI ixN;rw[if_pos h0,if_pos (by rw[QT];exact h1)];show(ss.map V.str)[k.toNat]?=_;rw[Q4,QX hk];rfl
theorem FO:atI (x::r) 0=some x:=by
 unfold atI ixN;rw[if_pos (by decide),if_pos (by rw[Re];omega)];rfl
theorem D8:atI (x::y::r) 1=some y:=by
 unfold atI ixN;rw[if_pos (by decide),if_pos (by rw[Re,Re];omega)];rfl
theorem LV (ns:List Int) (lo hi:Option Int):∃ ms:List Int,eI (ns.map V.int) lo hi=ms.map V.int/\ms.length<=ns.length:=by
 refine⟨(ns.drop (HT.sIx (ns.map V.int).length 0 lo)).take (HT.sIx (ns.map V.int).length (ns.map V.int).length hi - HT.sIx (ns.map V.int).length 0 lo),?_,?_⟩
 ·unfold eI
  rw[List.map_take,List.map_drop]
 ·rw[Rb,Sv]
  omega
def pz (ps:List Int) (k:Int):Int:=ps.getD k.toNat 0
theorem Bk {k:Int} (h0:0<=k) (h1:k<ps.length):atI (ps.map V.int) k=some (.int (pz ps k)):=by
 unfold atI ixN pz;rw[if_pos h0,if_pos (by rw[QT];exact h1)];show(ps.map V.int)[k.toNat]?=_;rw[Q4,QV,QX (show k.toNat<ps.length by omega)];rfl
theorem jF {k:Int} (h0:0<=k) (h1:k<n):ixN n k=some k.toNat:=by
 unfold ixN;rw[if_pos h0,if_pos h1]
theorem iL {α:Type}{xs:List α}{k:Int} (h0:0<=k):atI xs k=xs[k.toNat]?:=by
 unfold atI ixN;rw[if_pos h0];by_cases h:k<xs.length
 ·rw[if_pos h];rfl
 ·rw[if_neg h]
  show none=_;rw[R7 (by omega)]
theorem tO {K:PySem.W.Frag}{H:Hp}:∀ ns:List Int,aJ K H (ns.map Dt.int) (ns.map V.int)
 | []=>rfl
 | _::r=>⟨_,_,O,O,tO r⟩
theorem Fx  (ns:List Int):fE n (ns.map Dt.int):=F9 (fun _=>by cases n <;> trivial) _
def Ite (K:PySem.W.Frag) (l:Addr):It:=
  ⟨fun i H=>∃ xs x,SqL K H l xs/\xs[i]?=some x,
   fun i H v H'=>∃ T x,v=.ref T/\H T=none/\H'=upd H T (.tup [.int i,x])/\∀ xs,SqL K H l xs->xs[i]?=some x,
   fun i H=>∃ xs,SqL K H l xs/\xs.length<=i⟩
theorem M0 {e:Addr}{items:Array Value} (hd:Hd A s.heap)
  (he:IsEnum s.heap e it i old) (hit:s.heap.IsListIter it l i) (hl:s.heap.IsList l items) (hx:items[i]?=none)
  (hQ:∀ h',Heap.ExtBut it s.heap h'->Q none { s with heap:=h' }):wpAny (model prog w) A (pyNext (.ref e)) Q E s:=by
 have ht:s.TypeIs (.ref e) "enumerate":=⟨_,he,O⟩;unfold pyNext;refine mJ (Sh (Ry (name:=Str.ofString "__next__") ht F.slot_enumerate_next (RB F.slot_enumerate_next ht F.entry_enumerate_next ?_ (F.args_enumerate_next_1 _))));refine(show wpAny _ _ (field (.ref e) 2 >>= _) _ _ _ from mJ (Rq he O (x:=.ref it) O ?_));refine mJ (p9 (A:=A.in1) hd hit hl hx fun h' x dE dC=>?_);obtain⟨o,ho,hc⟩:=dC;exact mJ (R3 (T:="StopIteration") (b:=true) ⟨o,ho,hc⟩ isSubtype_stop (QW (hQ _ dE)))
def EnumIt (h:Heap) (e it l:Addr) (i:Nat):Prop:=∃ old,IsEnum h e it (i:Int) old/\h.IsListIter it l i
theorem OR {P:Program}{K:PySem.W.Frag}{k:Nat}{pos:Pos}{e:Addr} (eC:e≠it) :
  k9 P w K (.Tuple es k pos) (Ite K l) [e,it] e (fun i h=>EnumIt h e it l i) where
 mem:=by simp
 obj:=fun i h st b hb=>by
  obtain⟨old,he,⟨o1,e1,c1,d1⟩⟩:=st;simp only[Rp,Rk,or_false] at hb
  rcases hb with rfl|rfl
  ·exact⟨_,he,fun v q=>by simp at q⟩
  ·exact⟨_,e1,fun v q=>by rw[d1] at q;cases q⟩
 keep:=fun i h h' st k=>by
  obtain⟨old,he,h1⟩:=st;exact⟨old,k e (by simp) _ he,h1.at fun o q=>k it (by simp) o q⟩
 item:=by
  intro X hP hw hK hc i aa s σ H E I hf st hg;subst hP hw hK;obtain⟨xs,x,q1,hx⟩:=hg;obtain⟨old,he,h1⟩:=st;obtain⟨ag,rv,pl,_⟩:=I.list q1;obtain⟨u,hu,ru⟩:=rv.get hx;have nf:∀ b∈[e,it],b∉frs X.stack:=fun b hb q=>(Rp.mp (I.stkSub b q)).elim (hf b hb).2.1 (hf b hb).2.2.1
  refine wpAny_pyNext_enum_item he h1 pl.isList (x:=u) (by simpa using hu) eC fun h' a1 a2 a3 a4 hk=>⟨_,O,?_⟩
  refine Tz (s:={ s with heap:=h',toks:=s.toks + 1 }) a1 fun cF eN aW=>?_
  replace aW:Heap.SameBut e h' cF:=aW
  have mL:H s.heap.objs.size=none:=I.hok.fresh (QY _);have yq:=QZ he;have mT:∀ b o,b≠e->b≠it->s.heap.get? b=some o->cF.get? b=some o:=fun b o n1 n2 q=>aW.extBut b o n1 (hk b o n1 n2 q)
  have I1:Inv X aa σ (upd H s.heap.objs.size (.tup [.int i,x])) { s with heap:=s.heap.push { cls:=.type "tuple",data:=.seq #[.int i s.toks,u] },toks:=s.toks + 1 }:=
   I.laid (t':=s.toks + 1) (fun b o q=>QU _ q) (QY _) ⟨by show 2<=sizeLine;decide,[.int i s.toks,u],.cons ⟨_,O⟩ (.cons ru .nil),⟨_,Q1 _ rfl,O,_,O⟩⟩
  have lu:∀ b∈[e,it],bw X aa (upd H s.heap.objs.size (.tup [.int i,x])) b:=fun b hb=>by
   obtain⟨f0,r⟩:=hf b hb;refine⟨?_,r⟩;have lt:b<s.heap.objs.size:=by
    simp only[Rp,Rk,or_false] at hb
    rcases hb with rfl|rfl
    ·exact yq
    ·obtain⟨o,q,_⟩:=h1;exact QZ q
   rw[ai (Q5 lt)];exact f0
  have I2:Inv X aa σ (upd H s.heap.objs.size (.tup [.int i,x])) { s with heap:=cF,toks:=s.toks + 1 }:=by
   have back:∀ b o,(s.heap.push { cls:=.type "tuple",data:=.seq #[.int i s.toks,u] }).get? b=some o->b≠e->b≠it->cF.get? b=some o:=fun b o q n1 n2=>by
    rcases SO q with⟨rfl,rfl⟩|q
    ·exact aW.extBut _ _ n1 a3
    ·exact mT b o n1 n2 q
   refine I1.slots (ch:=[e,it]) (tk:=s.toks + 1) lu (fun b o _ hc q=>?_) (fun b o hb q=>⟨o.slots,?_⟩) (fun b hb o q=>?_)
   ·simp only[Rp,Rk,or_false,not_or] at hc
    exact back b o q hc.1 hc.2
   ·exact back b o q (fun z=>nf e (by simp) (z ▸ hb)) (fun z=>nf it (by simp) (z ▸ hb))
   ·simp only[Rp,Rk,or_false] at hb
    rcases hb with rfl|rfl
    ·exact⟨_,eN⟩
    ·obtain⟨o,q,_⟩:=a2;exact⟨_,aW.extBut _ _ eC.symm q⟩
  refine⟨.ref s.heap.objs.size,_,I2,O,⟨_,x,O,mL,O,fun Cv q=>by rw[I.list_inj q q1];exact hx⟩,?_,fun b hb=>(lu b hb).1⟩;exact⟨u,eN,a2.extBut aW.extBut eC.symm⟩
 done:=by
  intro X hP hw hK hc i aa s σ H E I hf st hg;subst hP hw hK;obtain⟨xs,q1,aj⟩:=hg;obtain⟨old,he,h1⟩:=st;obtain⟨ag,rv,pl,_⟩:=I.list q1;have e1:=rv.length;have nf:∀ b∈[e,it],b∉frs X.stack:=fun b hb q=>(Rp.mp (I.stkSub b q)).elim (hf b hb).2.1 (hf b hb).2.2.1
  refine M0 I.hd he h1 pl.isList (by simp;omega) fun h' hk=>⟨O,?_⟩
  refine I.slot0 (ch:=[e,it]) (tk:=s.toks) hf (fun b o _ hc q=>?_) (fun b o hb q=>⟨o.slots,?_⟩)
  ·simp only[Rp,Rk,or_false,not_or] at hc
   exact hk b o hc.2 q
  ·exact hk b o (fun z=>nf it (by simp) (z ▸ hb)) q
 self:=fun _ _ s _ _ st h=>by
  obtain⟨old,he,_⟩:=st;exact S6 he h
def iEnum (K:PySem.W.Frag) (ta:TA):TI:=fun σ H R=>ta σ H fun vs H1=>∃ l,vs=[.ref l]/\(∃ xs,SqL K H1 l xs)/\R (Ite K l) H1
theorem sT {k:Nat}{p pos:Pos}{a:Expr} (hg:Gl X "enumerate") (hm:X.mg "enumerate"=none) (ha:PA X [a] ta) (hs:starEach [a] X.env=[(false,eval a X.env)]:=by rfl) :
  PI X (.Tuple es k tpos) (.Call (.Name "enumerate" p) [a] [] pos) (iEnum X.K ta):=by
 intro aa s σ H R I h;refine Call_ (g8 I hg hm boot_enumerate (PyProof.Rows.callWith_type1 (thn (ha pos aa s σ H _ I h) fun us s1=>L2.ex5 fun vs H1 I1 r1 a8=>?_) hs O));obtain⟨l,e,⟨xs,q1⟩,q⟩:=a8;subst e;obtain⟨u,rfl,ru⟩:=gE r1;obtain rfl:u=Value.ref l:=ru;obtain⟨ag,rv,pl,_⟩:=I1.list q1;refine call_enumerate_list pl.isList fun h' b1 b2 b3 hk=>?_
 refine S6 (s:={ s1 with heap:=h' }) b1 ?_;refine⟨s1.heap.objs.size + 1,[s1.heap.objs.size + 1,s1.heap.objs.size],_,_,H1,O,I1.kept (t':=s1.toks) hk,OR (RV (RW _)),⟨_,b1,b2⟩,fun b hb=>?_,q⟩;have ge:s1.heap.objs.size<=b:=by
  simp only[Rp,Rk,or_false] at hb
  rcases hb with rfl|rfl
  ·exact RA _ _
  ·exact QY _
 exact I1.fpOk ge (I1.hok.fresh ge)
theorem Py {K:PySem.W.Frag}{Q:VK} (Pv:Nat->St->Hp->Prop) (h0:Pv 0 τ H) (hl:∀ i τ H,i<=xs.length->Pv i τ H->SqL K H l xs)
  (hs:∀ i x T τ H,xs[i]?=some x->H T=none->Pv i τ H->g (.ref T) τ (upd H T (.tup [.int i,x])) fun τ2 H2=>tt τ2 H2 fun b H3=>
   if b=true then te τ2 H3 fun y H4=>∃ ys,H4 D=some (.lst ys)/\ys.length<sizeLine/\Pv (i + 1) τ2 (upd H4 D (.lst (ys++[y]))) else Pv (i + 1) τ2 H3)
  (hd:∀ τ H,Pv xs.length τ H->Q (.ref D) H):jK (Ite K l) D τ H g tt te Q:=
 wk_ (n:=xs.length) Pv h0 (fun i σ H hi p=>⟨fun h=>⟨xs,xs[i],hl i σ H hi p,by simp[h]⟩,fun h=>⟨xs,hl i σ H hi p,h⟩⟩) (fun i v σ H H' hi p y=>by
 obtain⟨T,x,rfl,hT,rfl,hx⟩:=y;exact hs i x T σ H (hx xs (hl i σ H (RS hi) p)) hT p) hd
theorem vn {K:PySem.W.Frag}{D:gy} (Pv:Nat->St->Hp->Prop) (h0:Pv 0 σ H) (hl:∀ i σ H,i<=xs.length->Pv i σ H->SqL K H l xs)
  (hs:∀ i x T σ H,xs[i]?=some x->H T=none->Pv i σ H->g (.ref T) σ (upd H T (.tup [.int i,x])) fun σ2 H2=>tb { D with nx:=Pv (i + 1),ct:=Pv (i + 1),bk:=D.nx } σ2 H2) (hd:∀ σ H,Pv xs.length σ H->D.nx σ H):qk (Ite K l) D g tb σ H:=
 wk_ (n:=xs.length) Pv h0 (fun i σ H hi p=>⟨fun h=>⟨xs,xs[i],hl i σ H hi p,by simp[h]⟩,fun h=>⟨xs,hl i σ H hi p,h⟩⟩) (fun i v σ H H' hi p y=>by
 obtain⟨T,x,rfl,hT,rfl,hx⟩:=y;exact hs i x T σ H (hx xs (hl i σ H (RS hi) p)) hT p) hd
theorem z9 {K:PySem.W.Frag}{l2:Addr}{D:gy} (aj:xs.length=ys.length) (Pv:Nat->St->Hp->Prop) (h0:Pv 0 σ H) (hl:∀ i σ H,i<=xs.length->Pv i σ H->SqL K H l1 xs/\SqL K H l2 ys)
  (hs:∀ i x y T σ H,xs[i]?=some x->ys[i]?=some y->H T=none->Pv i σ H->g (.ref T) σ (upd H T (.tup [x,y])) fun σ2 H2=>tb { D with nx:=Pv (i + 1),ct:=Pv (i + 1),bk:=D.nx } σ2 H2) (hd:∀ σ H,Pv xs.length σ H->D.nx σ H):qk (Itz K l1 l2) D g tb σ H:=
 wk_ (n:=xs.length) Pv h0 (fun i σ H hi p=>⟨fun h=>⟨xs,ys,xs[i],ys[i],(hl i σ H hi p).1,(hl i σ H hi p).2,by simp[h],by simp[show i<ys.length by omega]⟩,fun h=>⟨xs,ys,(hl i σ H hi p).1,(hl i σ H hi p).2,.inl h⟩⟩) (fun i v σ H H' hi p y=>by
 obtain⟨T,x,y,rfl,hT,rfl,hx,hy⟩:=y;exact hs i x y T σ H (hx xs (hl i σ H (RS hi) p).1) (hy ys (hl i σ H (RS hi) p).2) hT p) hd
theorem GS  (h:i<ns.length):ns.getD i 0∈ns:=by
 rw[QV,QX h];exact Sw h
theorem GF {x:Int} (h:x∈ns):∃ j,j<ns.length/\ns.getD j 0=x:=by
 obtain⟨j,hj,e⟩:=List.getElem_of_mem h;exact⟨j,hj,by rw[QV,QX hj];exact e⟩
theorem Fj (f:Nat->Int):∀ k,argBest (fun i j=>decide (f i<f j)) k<=k/\∀ j,j<=k->f (argBest (fun i j=>decide (f i<f j)) k)<=f j
 | 0=>⟨QY _,fun j hj=>by rw[Nat.le_zero.mp hj];exact RF _⟩
 | k + 1=>by
  obtain⟨h1,h2⟩:=Fj f k;by_cases hb:f (k + 1)<f (argBest (fun i j=>decide (f i<f j)) k)
  ·have e:argBest (fun i j=>decide (f i<f j)) (k + 1)=k + 1:=by simp[argBest,hb]
   rw[e];refine⟨QY _,fun j hj=>?_⟩;rcases RZ j (k + 1) with z|z
   ·have:=h2 j (by omega);omega
   ·rw[show j=k + 1 by omega];exact RF _
  ·have e:argBest (fun i j=>decide (f i<f j)) (k + 1)=argBest (fun i j=>decide (f i<f j)) k:=by simp[argBest,hb]
   rw[e];refine⟨by omega,fun j hj=>?_⟩;rcases RZ j (k + 1) with z|z
   ·exact h2 j (by omega)
   ·rw[show j=k + 1 by omega];omega
theorem E2 (f:Nat->Int):∀ k,argBest (fun i j=>decide (f i > f j)) k<=k/\∀ j,j<=k->f (argBest (fun i j=>decide (f i > f j)) k) >= f j
 | 0=>⟨QY _,fun j hj=>by rw[Nat.le_zero.mp hj];exact RF _⟩
 | k + 1=>by
  obtain⟨h1,h2⟩:=E2 f k;by_cases hb:f (k + 1) > f (argBest (fun i j=>decide (f i > f j)) k)
  ·have e:argBest (fun i j=>decide (f i > f j)) (k + 1)=k + 1:=by simp[argBest,hb]
   rw[e];refine⟨QY _,fun j hj=>?_⟩;rcases RZ j (k + 1) with z|z
   ·have:=h2 j (by omega);omega
   ·rw[show j=k + 1 by omega];exact RF _
  ·have e:argBest (fun i j=>decide (f i > f j)) (k + 1)=argBest (fun i j=>decide (f i > f j)) k:=by simp[argBest,hb]
   rw[e];refine⟨by omega,fun j hj=>?_⟩;rcases RZ j (k + 1) with z|z
   ·exact h2 j (by omega)
   ·rw[show j=k + 1 by omega];omega
section
variable {wr:List Addr}{P:Nat->Value->Prop}{St:Nat->Heap->Prop}
end
theorem Mv:gD X (.builtin "min") (fun xs H Q=>∃ p,∃ ns:List Int,xs=[.ref p]/\SqL X.K H p (ns.map V.int)/\ns≠[]/\∀ m∈ns,(∀ x∈ns,m<=x)->Q (.int m) H):=by
 intro aa s σ H xs us Q I r h;obtain⟨p,ns,rfl,hq,eC,q⟩:=h;obtain⟨u,rfl,ru⟩:=gE r;obtain rfl:u=Value.ref p:=ru;obtain⟨ag,rv,pl,_⟩:=I.list hq;obtain⟨cs,cw,ch⟩:=I.hd.chain;have aY:p<s.heap.objs.size:=by obtain⟨o,e,_⟩:=pl.isList;exact QZ e
 have c7:s.heap.objs.size∉cs:=fun z=>Rl _ (ch.lt _ z)
 have aj:ag.length=ns.length:=by rw[<- rv.length,QT]
 have xD:0<ns.length:=List.length_pos_iff.mpr eC;refine call_min_walk (R5 pl.isList ⟨s.heap.objs.size,_,_,_,_,_,fun i j=>decide (ns.getD i 0<ns.getD j 0),O,qr (A:=X.A.in1) cw s.heap.objs.size p (Q5 aY) c7 ag.toArray,⟨⟨_,Q1 _ O,O,O⟩,pl.isList.push _,ch.mono fun b o _ e=>QU _ e⟩,?_,by simp;omega,CmpOf.ints_lt (fun i=>ns.getD i 0) fun i v hv=>sV rv (by simpa using hv),fun v h' tk hv hk=>?_⟩)
 ·intro b hb
  show b<(s.heap.push _).objs.size;rw[Rr];rcases Rp.mp hb with rfl|hb
  ·exact RW _
  ·rcases Rp.mp hb with rfl|hb
   ·exact RM aY
   ·exact RM (ch.lt _ hb)
 ·have c6:ag.toArray[argBest (fun i j=>decide (ns.getD i 0<ns.getD j 0)) (ag.toArray.size - 1)]?=some v:=hv
  rw[Uc] at c6;obtain⟨t,rfl⟩:=sV rv c6;obtain⟨b1,b2⟩:=Fj (fun i=>ns.getD i 0) (ag.toArray.size - 1);have e1:ag.toArray.size=ns.length:=by simp[aj]
  rw[e1] at b1 b2;have yD:∀ b o,s.heap.get? b=some o->h'.get? b=some o:=fun b o e=>hk b o (fun z=>by
   have:b=s.heap.objs.size:=by simpa using z
   exact absurd (QZ e) (by rw[this];exact Rl _)) (QU _ e)
  refine⟨.int _,H,I.kept yD,⟨_,O⟩,?_⟩;rw[e1];exact q _ (GS (by omega)) fun x hx=>by
   obtain⟨j,hj,rfl⟩:=GF hx;exact b2 j (by omega)
section
variable {wr:List Addr}{P:Nat->Value->Prop}{St:Nat->Heap->Prop}
theorem O4 (kw:List (Str×Value)) (W:Walks prog w A.in1 I fp wr n P St) (bt:Nat->Nat->Bool) (nU:CmpOf prog w A.in1 .Gt P bt) (S:Addr) (gK:S∉fp) :
  ∀ (k j:Nat) (s:Shared) (vb:Value) (c:Nat),n - (j + 1)=k->j + 1<=n->St (j + 1) s.heap->P (argBest bt j) vb->s.heap.get? S=some { cls:=.type "list",dict:=none,data:=.seq #[vb,vb] c,slots:=#[] } ->
  (∀ v h' tk,P (argBest bt (n - 1)) v->(∀ b o,b∉wr->b≠S->s.heap.get? b=some o->h'.get? b=some o)->R (.ok (.ret v)) { s with heap:=h',toks:=tk }) ->
  codeAny (model prog w) A (.builtin "max.loop" ⟨[.ref I,.none,.ref S],kw⟩) R s:=by
 have uR:S∉wr:=fun h=>gK (W.sub _ h)
 have ma:(toString "max"++toString ".loop":String)="max.loop":=by decide
 intro k
 induction k with
 | zero=>
  intro j s vb c hk hj cO uu hS hR;have hin:j + 1=n:=by omega
  refine codeAny_builtin F.entry_max_loop ?_;rw[Around.under_plainId F.plain_max_loop _];refine(show wpAny _ A.in1 (seqItems? (.ref S) >>= _) _ _ s from mJ (RG hS O ?_));refine(show wpAny _ A.in1 (tryCatch (pyNext (.ref I)) _ >>= _) _ _ s from mJ (RY (W.done s _ _ (hin ▸ cO) fun h' tk dh=>?_)));refine(show wpAny _ A.in1 (updateSeq S (fun _=>#[]) >>= _) _ _ _ from mJ (Sa (dh S _ uR hS) O (mJ (Sq (QW ?_)))));exact hR vb _ tk (by rw[<- hin];exact uu) fun b o ju kH e=>(Rh _ _ (Ne.symm kH)).trans (dh b o ju e)
 | succ k ih=>
  intro j s vb c hk hj cO uu hS hR;have aY:j + 1<n:=by omega
  refine codeAny_builtin F.entry_max_loop ?_;rw[Around.under_plainId F.plain_max_loop _];refine(show wpAny _ A.in1 (seqItems? (.ref S) >>= _) _ _ s from mJ (RG hS O ?_));refine(show wpAny _ A.in1 (tryCatch (pyNext (.ref I)) _ >>= _) _ _ s from mJ (RY (W.item (j + 1) s _ _ aY cO fun v h' tk hP ic dh=>?_)));have dG:=dh S _ uR hS;refine(show wpAny _ A.in1 (tryCatch (holding [v,v] (richCompare .Gt v vb >>= _)) _ >>= _) _ _ _ from mJ (RY (Rn (mJ (nU (j + 1) (argBest bt j) v vb _ _ _ hP uu ?_)))));refine mJ (Rn (R4 (mJ (Sq (QW ?_)))));cases hb:bt (j + 1) (argBest bt j) with
  | true=>
   simp only[if_true]
   refine mJ (Sa dG O (mJ (Sq ?_)));rw[ma];refine QW ⟨plainId_quiet F.plain_max_loop _,ih (j + 1) _ v _ (by omega) aY (W.frame _ _ _ ic fun b xO o e=>(Rh _ _ (fun h:S=b=>gK (by rw[h];exact xO))).trans e) (by simp only[argBest,hb,if_true];exact hP) (Rv _ dG O) fun v' cF jj jt i7=>?_⟩;exact hR v' cF jj jt fun b o ju kH e=>i7 b o ju kH ((Rh _ _ (Ne.symm kH)).trans (dh b o ju e))
  | false=>
   simp only[RE,if_false]
   refine mJ (Sq ?_);rw[ma];exact QW ⟨plainId_quiet F.plain_max_loop _,ih (j + 1) _ vb c (by omega) aY ic (by simp only[argBest,hb,RE,if_false];exact uu) dG fun v' cF jj jt i7=>hR v' cF jj jt fun b o ju kH e=>i7 b o ju kH (dh b o ju e)⟩
theorem My (kw:List (Str×Value)) (W:Walks prog w A.in1 I fp wr n P St) (bt:Nat->Nat->Bool) (nU:CmpOf prog w A.in1 .Gt P bt) (S:Addr) (gK:S∉fp) (hn:0<n) (cO:St 0 s.heap)
  (hS:s.heap.get? S=some { cls:=.type "list",dict:=none,data:=.seq #[] c,slots:=#[] })
  (hR:∀ v h' tk,P (argBest bt (n - 1)) v->(∀ b o,b∉wr->b≠S->s.heap.get? b=some o->h'.get? b=some o)->R (.ok (.ret v)) { s with heap:=h',toks:=tk }) :
  codeAny (model prog w) A (.builtin "max.loop" ⟨[.ref I,.none,.ref S],kw⟩) R s:=by
 have uR:S∉wr:=fun h=>gK (W.sub _ h)
 have ma:(toString "max"++toString ".loop":String)="max.loop":=by decide
 refine codeAny_builtin F.entry_max_loop ?_;rw[Around.under_plainId F.plain_max_loop _];refine(show wpAny _ A.in1 (seqItems? (.ref S) >>= _) _ _ s from mJ (RG hS O ?_));refine(show wpAny _ A.in1 (tryCatch (pyNext (.ref I)) _ >>= _) _ _ s from mJ (RY (W.item 0 s _ _ hn cO fun v h' tk hP ic dh=>?_)));have dG:=dh S _ uR hS;refine(show wpAny _ A.in1 (updateSeq S (fun _=>#[v,v]) >>= _) _ _ _ from mJ (Sa dG O ?_));rw[ma];exact QW ⟨plainId_quiet F.plain_max_loop _,O4 kw W bt nU S gK _ 0 _ v _ O hn (W.frame _ _ _ ic fun b xO o e=>(Rh _ _ (fun h:S=b=>gK (by rw[h];exact xO))).trans e) hP (Rv _ dG O) fun v' cF jj jt i7=>hR v' cF jj jt fun b o ju kH e=>i7 b o ju kH ((Rh _ _ (Ne.symm kH)).trans (dh b o ju e))⟩
theorem O9 (W:Walks prog w A.in1 I fp wr 0 P St) (S:Addr) (gK:S∉fp){d:Value} (cO:St 0 s.heap) (hS:s.heap.get? S=some { cls:=.type "list",dict:=none,data:=.seq #[] c,slots:=#[] })
  (hR:∀ h' tk,(∀ b o,b∉wr->s.heap.get? b=some o->h'.get? b=some o)->R (.ok (.ret d)) { s with heap:=h',toks:=tk }) :
  codeAny (model prog w) A (.builtin "max.loop" ⟨[.ref I,.none,.ref S],[(nm,d)]⟩) R s:=by
 refine codeAny_builtin F.entry_max_loop ?_;rw[Around.under_plainId F.plain_max_loop _];refine(show wpAny _ A.in1 (seqItems? (.ref S) >>= _) _ _ s from mJ (RG hS O ?_));refine(show wpAny _ A.in1 (tryCatch (pyNext (.ref I)) _ >>= _) _ _ s from mJ (RY (W.done s _ _ cO fun h' tk dh=>?_)));exact mJ (Sx (QW (hR h' tk dh)))
end
theorem Nt (a v:Value):argsOk "max" ⟨[a],[(Str.ofString "default",v)]⟩:=by unfold argsOk;kernel_rfl
theorem PY {a:Expr}{i:Int}{p pos bE aD:Pos} (hg:Gl X "max") (hm:X.mg "max"=none) (ha:PA X [a] ta)
  (hs:backTo pos (starEach [a] X.env)=(false,eval a X.env)::backTo pos (starEach [] X.env):=by rfl) (hp:(backTo pos (starEach [a] X.env)).any (·.1)=false:=by rfl) (rG:(backToKw pos (keywordEach [⟨some "default",.Constant (.int i) j aD,bE⟩] X.env)).all (·.1.isSome)=true:=by rfl)
  (rj:(backToKw pos (keywordEach [⟨some "default",.Constant (.int i) j aD,bE⟩] X.env)).any (·.1.isNone)=false:=by rfl) (mU:∀ u:Value,((backToKw pos (keywordEach [⟨some "default",.Constant (.int i) j aD,bE⟩] X.env)).filterMap (·.1)).zip [u]=[(Str.ofString "default",u)]:=by intro u;rfl) :
  PE X (.Call (.Name "max" p) [a] [⟨some "default",.Constant (.int i) j aD,bE⟩] pos) (fun σ H Q=>ta σ H fun vs H1=>∃ q,∃ ns:List Int,vs=[.ref q]/\SqL X.K H1 q (ns.map V.int)/\(ns=[]->Q (.int i) H1)/\∀ m∈ns,(∀ x∈ns,x<=m)->Q (.int m) H1):=by
 intro aa s σ H Q I h;refine RP (g8 I hg hm bt_max ?_);refine PyProof.Rows.callWith_kw (thn (ha pos aa s σ H _ I h) fun us s1=>L2.ex5 fun vs H1 I1 r1 a8=>?_) hs hp rG rj;obtain⟨l,ns,e,q1,k0,k1⟩:=a8;subst e;obtain⟨u,rfl,ru⟩:=gE r1;obtain rfl:u=Value.ref l:=ru;refine PyProof.Rows.kws_cons (Ul (PyProof.Rows.kws_nil ?_));rw[mU];obtain⟨ag,rv,pl,_⟩:=I1.list q1;obtain⟨cs,cw,ch⟩:=I1.hd.chain;have aY:l<s1.heap.objs.size:=by obtain⟨o,e,_⟩:=pl.isList;exact QZ e
 have c7:s1.heap.objs.size∉cs:=fun z=>Rl _ (ch.lt _ z)
 have aj:ag.length=ns.length:=by rw[<- rv.length,QT]
 have ma:(toString "max"++toString ".loop":String)="max.loop":=by decide
 refine kmk_tree PySem.F.kind_max PySem.F.plain_max PySem.F.entry_max (Nt _ _) ?_;refine(show wpAny _ _ (Builtin.Builtins.bindParams "max" ["key","default"] 0 ⟨[],[(Str.ofString "default",_)]⟩ >>= _) _ _ _ from mJ (R8 (show Builtin.Builtins.bindParams "max" ["key","default"] 0 ⟨[],[(Str.ofString "default",_)]⟩=pure [none,some _] from rfl) ?_));refine mJ (QW ?_);refine mJ (R5 (s:={ s1 with toks:=s1.toks + 1 }) pl.isList ?_);refine mJ (Uh ?_ (R9 _));rw[ma];have hz:(s1.heap.push { cls:=.type "list_iterator",data:=.fields #[.ref l,.int 0 0] }).objs.size=s1.heap.objs.size + 1:=Rr ..;have W:=qr (prog:=X.prog) (w:=X.w) (A:=X.A.in1) cw s1.heap.objs.size l (Q5 aY) c7 ag.toArray;have gK:(s1.heap.push { cls:=.type "list_iterator",data:=.fields #[.ref l,.int 0 0] }).objs.size∉s1.heap.objs.size::l::cs:=by
  rw[hz];intro z;rcases Rp.mp z with z|z
  ·exact absurd z (RV (RW _))
  ·rcases Rp.mp z with z|z
   ·exact absurd z (RV (RM aY))
   ·exact absurd (ch.lt _ z) (Nat.not_lt.mpr (RO _))
 have st0:((s1.heap.push { cls:=.type "list_iterator",data:=.fields #[.ref l,.int 0 0] }).push (seqObj "list" #[] 0)).IsListIter s1.heap.objs.size l 0/\((s1.heap.push { cls:=.type "list_iterator",data:=.fields #[.ref l,.int 0 0] }).push (seqObj "list" #[] 0)).IsList l ag.toArray/\Chn ((s1.heap.push { cls:=.type "list_iterator",data:=.fields #[.ref l,.int 0 0] }).push (seqObj "list" #[] 0)) cs:=
  ⟨⟨_,QU _ (Q1 _ rfl),rfl,rfl⟩,(pl.isList.push _).push _,ch.mono fun b o _ e=>QU _ (QU _ e)⟩
 refine QW ⟨plainId_quiet PySem.F.plain_max_loop _,?_⟩;have back:∀ (h':Heap),(∀ b o,b∉[s1.heap.objs.size]->b≠(s1.heap.push { cls:=.type "list_iterator",data:=.fields #[.ref l,.int 0 0] }).objs.size->((s1.heap.push { cls:=.type "list_iterator",data:=.fields #[.ref l,.int 0 0] }).push (seqObj "list" #[] 0)).get? b=some o->h'.get? b=some o)->∀ b o,s1.heap.get? b=some o->h'.get? b=some o:=fun h' hk b o e=>by
  have lt:=QZ e;refine hk b o (fun z=>?_) (fun z=>?_) (QU _ (QU _ e))
  ·rw[S1.mp z] at lt;exact Rl _ lt
  ·rw[z,hz] at lt;exact Rl _ (UB lt)
 by_cases hn:ns=[]
 ·subst hn
  have e0:ag=[]:=List.length_eq_zero_iff.mp (by rw[aj];rfl);subst e0;exact O9 W _ gK st0 (Q1 _ O) fun h' tk hk=>⟨.int i,H1,I1.kept (back h' fun b o h1 _ e=>hk b o h1 e),⟨_,O⟩,k0 O⟩
 ·have xD:0<ns.length:=List.length_pos_iff.mpr hn
  refine My _ W (fun i j=>decide (ns.getD i 0 > ns.getD j 0)) (CmpOf.ints_gt (fun i=>ns.getD i 0) fun i v hv=>sV rv (by simpa using hv)) _ gK (by simp;omega) st0 (Q1 _ rfl) fun v h' tk hv hk=>?_
  have c6:ag.toArray[argBest (fun i j=>decide (ns.getD i 0 > ns.getD j 0)) (ag.toArray.size - 1)]?=some v:=hv;rw[Uc] at c6;obtain⟨t,rfl⟩:=sV rv c6;obtain⟨b1,b2⟩:=E2 (fun i=>ns.getD i 0) (ag.toArray.size - 1);have e1:ag.toArray.size=ns.length:=by simp[aj]
  rw[e1] at b1 b2;refine⟨.int _,H1,I1.kept (back h' hk),⟨_,O⟩,?_⟩;rw[e1];exact k1 _ (GS (by omega)) fun x hx=>by
   obtain⟨j,hj,rfl⟩:=GF hx;exact b2 j (by omega)
def rGetL (K:PySem.W.Frag):V->V->Hp->VK->Prop:=fun o i H Q=>∃ p xs k v,o=.ref p/\i=.int k/\SqL K H p xs/\0<=k/\xs[k.toNat]?=some v/\Q v H
theorem oY:PGet X (rGetL X.K):=by
 intro aa s σ H o i ov iv Q I ro ri h;obtain⟨p,xs,k,v,rfl,rfl,hq,h0,hv,q⟩:=h;cases ro
 obtain⟨t,rfl⟩:=ri;obtain⟨ag,r,pl,hz⟩:=I.list hq;obtain⟨u,hu,ru⟩:=r.get hv;have h1:=(List.getElem?_eq_some_iff.mp hv).1;have hl:=r.length;have hn:=sS;exact wpAny_getItem_list pl.isList h0 (by omega) (by simpa using hu) ⟨v,H,I,ru,q⟩
variable {P q:Program}{ag xs ys:Array Value}{body:Expr}{fo oa ol:Obj}{kS r:Addr}{key:V->Int}{od:Option Addr}{p2:Pos}{params:Arguments}{ps:List Str}{st0 t':Nat}{t:Tok}{v:V}{vs:List Value}{x:Str}
theorem Aq:∀ {ns:List Str}{us:List Value},StrsAre us ns->aw (ns.map V.str) us
 | _,_,.nil=>.nil
 | _,_,.cons n t r=>.cons ⟨_,O⟩ (Aq r)
theorem Mp:gD X (.builtin "sorted") (fun xs H Q=>∃ l,∃ ss:List Str,xs=[.ref l]/\H l=some (.lst (ss.map V.str))/\ss.length<64 /\
  ∀ (r:Addr) (gQ:List Str),H r=none->gQ.Perm ss->sortedS gQ=true->Q (.ref r) (upd H r (.lst (gQ.map V.str)))):=by
 intro aa s σ H xs us Q I r h;obtain⟨l,ss,rfl,hl,pD,q⟩:=h;obtain⟨u,rfl,ru⟩:=gE r;obtain rfl:u=Value.ref l:=ru;obtain⟨z,ag,n,rv,hn,e⟩:=I.lstM hl;rw[QT] at hn;refine sorted_strs (vs:=ag) ⟨_,e,O,n,O⟩ (EQ rv) (by omega) fun out gQ a1 a2 a3=>?_
 obtain⟨ep,he⟩:=sortedAll_at s.heap ag out;have le:s.heap.objs.size<=s.heap.objs.size + 1:=RO _;have eN:gQ.length<=sizeLine:=by rw[a2.length_eq,Q3];omega
 have I':Inv X aa σ (upd H (s.heap.objs.size + 1) (.lst (gQ.map V.str))) { s with heap:=sortedAll s.heap ag out,toks:=s.toks }:=
  I.laid (fun _ _=>sortedAll_old) le ⟨by rw[QT];exact eN,out.toList,ep,Aq a1,by simpa using he⟩
 exact⟨.ref (s.heap.objs.size + 1),_,I',O,q _ _ (I.hok.fresh le) a2 a3⟩
theorem D9:∀ (p:Str) (l:List Str),risingS p l=true->(p::l).Pairwise (fun a b=>¬ b.cps.toList<a.cps.toList)
 | p,[],_=>List.pairwise_singleton ..
 | p,x::r,h=>by
  have h':(!ltCps x.cps.toList p.cps.toList && risingS x r)=true:=h;rw[RC,ltCps_eq] at h';have h1:¬ x.cps.toList<p.cps.toList:=by simpa using h'.1
  have h2:=D9 x r h'.2;refine List.pairwise_cons.mpr ⟨fun y hy=>?_,h2⟩;rcases Rp.mp hy with rfl|hy
  ·exact h1
  ·intro z
   exact h1 (List.lt_of_le_of_lt (List.not_lt.mp ((List.pairwise_cons.mp h2).1 y hy)) z)
theorem DH {l:List Str} (h:sortedS l=true):l.Pairwise (fun a b=>¬ b.cps.toList<a.cps.toList):=by
 cases l with
 | nil=>exact .nil
 | cons x r=>exact D9 x r h
theorem Nz {a b:List Str} (ha:sortedS a=true) (hb:sortedS b=true) (hp:a.Perm b):a=b:=by
 refine hp.eq_of_pairwise (fun x y _ _ h1 h2=>?_) (DH ha) (DH hb);have e:=List.le_antisymm (List.not_lt.mp h1) (List.not_lt.mp h2);cases x
 cases y
 exact congrArg Str.mk (Array.toList_inj.mp e)
def NN:V->List V->Hp->VK->Prop:=fun x vs H Q=>∃ l xs i y,x=.ref l/\vs=[.int i,y]/\H l=some (.lst xs)/\0<=i/\i<=xs.length/\xs.length<sizeLine/\Q .non (upd H l (.lst (xs.take i.toNat++y::xs.drop i.toNat)))
theorem DQ:MtM X "list.insert" NN:=by
 intro aa s σ H x vs v us Q I rx rv h;obtain⟨l,xs,i,y,rfl,rfl,hH,h0,h1,hz,q⟩:=h;cases rx
 obtain⟨u,w',rfl,⟨t,rfl⟩,ru⟩:=pY rv;obtain⟨z,ag,n,r,hl,e⟩:=I.lstM hH;have hf:Builtin.List.listFitsIndex i=true:=by
  unfold Builtin.List.listFitsIndex;rw[Q3] at hz;simp only[RC,decide_eq_true_eq]
  constructor <;> omega
 refine call_meets F.slot_list_insert ⟨_,e,O⟩ F.entry_list_insert (F.args_list_insert_3 _ _ _) (AutoSeq1.list_insert_list_int_val_1 l ag.toArray n i t w' (by simp[hf]) (by rw[Rc];omega)) ⟨e,?_⟩;refine⟨.non,_,I.lset (its':=ag.take i.toNat++w'::ag.drop i.toNat) hH e ?_ ((r.take _).append (.cons ru (r.drop _))) ?_,O,q⟩
 ·show(ag.toArray.extract 0 (if i<0 then(i + (ag.toArray.size:Int)).toNat else min i.toNat ag.toArray.size)).push w'++ag.toArray.extract (if i<0 then(i + (ag.toArray.size:Int)).toNat else min i.toNat ag.toArray.size)=_
  rw[if_neg (by omega),Rc,Nat.min_eq_left (by omega)];apply Array.toList_inj.mp;simp
  exact Rt (by simp)
 ·rw[Rm,Re,Rb,Sv]
  omega
theorem M6 {K:PySem.W.Frag}{l2:Addr}{xs ys:List V}{Q:VK} (h1:n<=xs.length) (h2:n<=ys.length) (h3:xs.length=n\/ys.length=n) (Pv:Nat->St->Hp->Prop) (h0:Pv 0 τ H) (hl:∀ i τ H,i<=n->Pv i τ H->SqL K H l1 xs/\SqL K H l2 ys)
  (hs:∀ i x y T τ H,i<n->xs[i]?=some x->ys[i]?=some y->H T=none->Pv i τ H->g (.ref T) τ (upd H T (.tup [x,y])) fun τ2 H2=>tt τ2 H2 fun b H3=>
   if b=true then te τ2 H3 fun y H4=>∃ ys,H4 D=some (.lst ys)/\ys.length<sizeLine/\Pv (i + 1) τ2 (upd H4 D (.lst (ys++[y]))) else Pv (i + 1) τ2 H3)
  (hd:∀ τ H,Pv n τ H->Q (.ref D) H):jK (Itz K l1 l2) D τ H g tt te Q:=
 wk_ (n:=n) Pv h0 (fun i σ H hi p=>⟨fun h=>⟨xs,ys,xs[i],ys[i],(hl i σ H hi p).1,(hl i σ H hi p).2,by simp[show i<xs.length by omega],by simp[show i<ys.length by omega]⟩,fun h=>⟨xs,ys,(hl i σ H hi p).1,(hl i σ H hi p).2,by omega⟩⟩) (fun i v σ H H' hi p y=>by
 obtain⟨T,x,y,rfl,hT,rfl,hx,hy⟩:=y;exact hs i x y T σ H hi (hx xs (hl i σ H (RS hi) p).1) (hy ys (hl i σ H (RS hi) p).2) hT p) hd
theorem O6 (xs:List V):eI xs (some 1) none=xs.drop 1:=by
 unfold eI;rw[HT.zhr];have e:HT.sIx xs.length 0 (some 1)=min 1 xs.length:=by
  unfold HT.sIx;dsimp only;rw[if_neg (by decide)];rfl
 rw[e];cases xs with
 | nil=>rfl
 | cons x l=>
  have:min 1 (x::l).length=1:=by rw[Re];omega
  rw[this];exact Rt (by simp)
theorem gC {k:Key} (e:H a=some (.dK kvs)) (h:aN kvs k=some v):fB H a (kV k) (some v):=h ▸ fB.k e
theorem none_of  (s:ae H H') (h:H' r=none):H r=none:=by
 cases e:H r with
 | none=>rfl
 | some o=>
  rw[s _ _ e] at h;cases h
theorem bv {o:HO} (nd:H d=none) (s:ae H H'):ae H (upd H' d o):=fun b u e=>by
 rw[ai (ap e nd)];exact s b u e
theorem Av {rs:List Addr}{x:V} (h:(rs.map V.ref)[i]?=some x):∃ r,rs[i]?=some r/\x=.ref r:=by
 rw[Q4] at h;cases e:rs[i]? with
 | none=>rw[e] at h;cases h
 | some n=>rw[e] at h;exact⟨n,O,(Option.some.inj h).symm⟩
theorem qe {x:V} (h:(ss.map V.str)[i]?=some x):∃ r,ss[i]?=some r/\x=.str r:=by
 rw[Q4] at h;cases e:ss[i]? with
 | none=>rw[e] at h;cases h
 | some n=>rw[e] at h;exact⟨n,O,(Option.some.inj h).symm⟩
theorem Am {K:PySem.W.Frag}{H:Hp}:∀ ns:List Str,aJ K H (ns.map Dt.str) (ns.map V.str)
 | []=>rfl
 | _::r=>⟨_,_,O,O,Am r⟩
theorem N4:gD X (.type "dict") (fun xs H Q=>∃ d kvs,xs=[.ref d]/\H d=some (.dK kvs)/\∀ l,H l=none->Q (.ref l) (upd H l (.dK kvs))):=by
 intro aa s σ H xs us Q I r h;obtain⟨d,kvs,rfl,e,q⟩:=h;obtain⟨u,rfl,ru⟩:=gE r;obtain rfl:u=Value.ref d:=ru;obtain⟨z,iz,vs,rel,dd⟩:=iT I.hok e;refine kt_call_dict iz dd (by rw[<- rel.length];exact z) fun h' bD aW=>?_
 have ne:(s.heap.objs.size == sysModules)=false:=(vt (P:=X.prog) (w:=X.w) (H:=H) s.heap I.big).2.1;refine⟨.ref s.heap.objs.size,_,I.laid (a:=s.heap.objs.size) (o:=.dK kvs) (t':=s.toks) (fun b o q=>aW.extBut b o (Q5 (QZ q)) (QU _ q)) (QY _) ⟨z,ne,vs,rel,bD⟩,O,q _ (I.hok.fresh (QY _))⟩
def pZ:List Expr->Option (List Str)
 | []=>some []
 | .Constant (.str x) _ _::es=>(pZ es).map (x::·)
 | _=>none
theorem Gk:∀ {es:List Expr}{xs:List Str},pZ es=some xs->PA X es (fun _ H Q=>Q (xs.map V.str) H)
 | [],_,h=>by
  cases h
  exact ak
 | e::es,xs,h=>by
  cases e with
  | Constant c j p=>
   cases c with
   | str x=>
    cases q:pZ es with
    | none=>
     unfold pZ at h;rw[q] at h;cases h
    | some ys=>
     unfold pZ at h;rw[q] at h;cases h
     exact af pe_str (Gk q) rfl
   | _=>cases h
  | _=>cases h
theorem ML {y:Str}{xs:List Str}{n:Int}{p1 p3 q1 q2 q3 pos:Pos}{ty:TE} (hxs:pZ es=some xs) (hy:PE X (.Name y q1) ty) (hN:X.N.Nodup) (hi:X.N[i]?=some x) (hx:Loc X.env.scope x)
  (hs:swapsWith (.Subscript (.List es p1) (.Slice none (some (.BinOp (.Name y q1) .Mod (.Constant (.int n) j q2) q3)) none p2) p3) (some (.Name x aU)) pos.line X.env=pure false) (hf:X.fn x=true\/X.env.scope.names.lookup x=some .local) :
  PS X (.Assign [.Name x aU] (.Subscript (.List es p1) (.Slice none (some (.BinOp (.Name y q1) .Mod (.Constant (.int n) j q2) q3)) none p2) p3) pos) (tAsg (tSl (rSlL X.K) (tLst fun _ H Q=>Q (xs.map V.str) H) ES (tPart (tOp (rI (fun _ j=>0<j) fun i j=>.int (i % j)) ty (tC (.int n))))) (bA i))=True:=
 eq_true (aQ hN hi hx (vW z8 (dJ (Gk hxs)) AW (tP (aI fV hy au))) hs hf)
section
variable {K:PySem.W.Frag} (hK:X.K=K)
include hK
end
theorem Ol:typeLookup (.type "list") "keys"=pure none:=am_miss_of_fast (by kernel_rfl)
theorem DZ {α:Type}{o:Value}{C6:Str}{Q:α->Shared->Prop} (hd:Hd A s.heap)
  (h:∀ h' tk e,(∀ b ob,s.heap.get? b=some ob->h'.get? b=some ob)->(∃ o',h'.get? e=some o'/\o'.cls=.type "AttributeError")->E (.ref e) { s with heap:=h',toks:=tk }) (hm:C6.length<=sizeLine:=by size_fits) :
  wpAny (model prog w) A (raiseAttrError o name C6:Sem α) Q E s:=by
 unfold raiseAttrError;refine mJ (wpAny_mkStr (mJ ?_) hm);unfold newExc newTuple;refine mJ (Su ?_ (by size_fits));refine mJ (m:=firstArgMember _ _) (R8 (a:=Value.none) (by simp only[firstArgMember,attrError_no_first];rfl) ?_);rw[ownMembersOf_AttributeError];refine Su ?_ (by size_fits);obtain⟨hp,g,d,tk,os⟩:=s;have f1:=sub_AttributeError
 repeat (any_goals (first|assumption|wp_step))
 dsimp only;have hU:∀ b ob,hp.get? b=some ob->b<hp.objs.size + 1:=fun b ob q=>RM (QZ q)
 refine Bf ?_ (Rv _ (Q1 _ O) O) O (by simp) fun h' o' lG k' e' c' _ _ _ _ _=>
  h h' _ _ (fun b ob q=>k' b ob ?_ ((Rh _ _ ?_).trans (QU _ (QU _ q)))) ⟨o',e',c'⟩
 ·rcases hd with hn|⟨a,cs,ha,c⟩
  ·exact .inl hn
  ·have lt:∀ b∈a::cs,b<hp.objs.size:=c.lt
   refine .inr ⟨a,cs,ha,c.mono fun b ob hb q=>(Rh _ _ ?_).trans (QU _ (QU _ q)),fun z=>?_⟩
   ·simp only[Rr]
    exact RV (hU b ob q)
   ·have:=lt _ z
    simp only[Rr] at this
    exact absurd (Ri this (RO _)) (Rl _)
 ·simp only[Rr]
  exact Q5 (hU b ob q)
 ·simp only[Rr]
  exact RV (hU b ob q)
theorem NV {tk:Tok}{Q:Fin->Shared->Prop} (hd:Hd A s.heap) (ho:s.heap.get? l=some ol) (hc:ol.cls=.type "list") (pF:ol.dict=none){nn:Nat} (om:ol.data=.seq ag nn)
  (h:∀ h' tk e,(∀ b ob,s.heap.get? b=some ob->h'.get? b=some ob)->(∃ o',h'.get? e=some o'/\o'.cls=.type "AttributeError")->E (.ref e) { s with heap:=h',toks:=tk }) :
  wpAny (model prog w) A (Builtin.«object.__getattribute__» ⟨[.ref l,.str "keys" tk],[]⟩) Q E s:=by
 have hT:s.TypeIs (.ref l) "list":=⟨_,ho,hc⟩;have f4:=Ol;unfold Builtin.«object.__getattribute__»;obtain⟨hp,g,d,eE,os⟩:=s;obtain⟨oc,od,Qu,dI⟩:=ol;dsimp only at hc pF om;subst hc pF om
 repeat (any_goals (first|assumption|wp_step))
 exact DZ hd h (attrMsg_fits (by decide +kernel) (by size_fits))
theorem Ld  (hd:Hd A s.heap) (ho:s.heap.get? l=some ol) (hc:ol.cls=.type "list") (pF:ol.dict=none){nn:Nat} (om:ol.data=.seq ag nn)
  (h:∀ h' tk,(∀ b ob,s.heap.get? b=some ob->h'.get? b=some ob)->Q none { s with heap:=h',toks:=tk }) :
  wpAny (model prog w) A (getAttr? (.ref l) "keys") Q E s:=by
 unfold getAttr? getAttrBy?;obtain⟨hp,g,d,eE,os⟩:=s;have hT:(⟨hp,g,d,eE + 1,os⟩:Shared).TypeIs (.ref l) "list":=⟨_,ho,hc⟩;have f1:=sub_AttributeError;have f2:=F.slot_list_getattribute.lookup;have f3:=F.slot_list_getattribute.bind (.ref l);have f5:typeLookup (.type "list") "__getattr__"=pure none:=am_miss_of_fast (by kernel_rfl);unfold getAttrBy
 repeat (any_goals (first|assumption|wp_step))
 refine codeAny_call_builtin F.slot_list_getattribute.plain F.entry_list_ga (F.slot_list_getattribute.check _ _ _ _ _ _ _ _ hT (F.args_list_getattribute_2 _ _) (NV (s:=⟨hp,g,d,eE + 1,os⟩) hd ho hc pF om fun h' ki e k' ⟨o',e1,e2⟩=>?_));dsimp only;show wpAny _ _ (getattributeRaised _ _ _ _ _ _ _) _ _ _;unfold getattributeRaised;have hE:(⟨h',g,d,ki,os⟩:Shared).TypeIs (.ref e) "AttributeError":=⟨_,e1,e2⟩
 repeat (any_goals (first|assumption|wp_step))
 exact h h' ki k'
theorem vF:entryFor table "dict.update.loop"=some Builtin.«dict.update.loop»:=entryFor_of_tree (by kernel_rfl)
theorem mh:plainId "dict.update.loop"=true:=by decide +kernel
section
variable {κ:Type} [DecidableEq κ] {knd:KeyKind prog w κ}{wr:List Addr}{G:Array GenState->Array GenState->Prop}{P:Nat->Value->Prop}{St:Nat->Shared->Prop}
theorem LX (W:WalksS prog w A.in1 I fp wr G n P St) (lU:d∉fp) (hn:n<=1000) (s0:Shared) (ks:Nat->κ) (vs:Nat->Value) (kvs:Nat->List (κ×Value)) (res:Value)
  (fZ:∀ i v,P i v->∃ t key,v=.ref t/\s0.heap.IsTuple t #[key,vs i]/\t∉d::wr/\knd.is (ks i) key=true)
  (hs:∀ i,kvs (i + 1)=stored (kvs i) (ks i) (vs i)) (hl:∀ i,(kvs i).length<=i) :
  ∀ (k i:Nat) (s:Shared),n - i=k->i<=n->St i s->Moved (d::wr) G s0 s->s.heap.DictOf knd d (kvs i) ->
   (∀ s',Moved (d::wr) G s0 s'->s'.heap.DictOf knd d (kvs n)->R (.ok (.ret res)) s') ->
   codeAny (model prog w) A (.builtin "dict.update.loop" ⟨[.ref d,.ref I,.int i 0,res],[]⟩) R s:=by
 have nF:d∉wr:=fun h=>lU (W.sub _ h)
 have qA:∀ b∈wr,b∈d::wr:=fun b hb=>Q6 _ hb
 intro k
 induction k with
 | zero=>
  intro i s hk hi cO m0 hD hR;have hin:i=n:=by omega
  subst hin;refine codeAny_builtin vF ?_;rw[Around.under_plainId mh _];show wpAny _ A.in1 (pyNext (.ref I) >>= _) _ _ s;refine mJ (W.done s _ _ cO fun s' hm=>?_);show wpAny _ A.in1 (pure () >>= fun _=>ret res) _ _ s';exact mJ (QW (QW (hR s' (Moved.trans W.gtrans m0 (hm.mono qA)) (by
   obtain⟨o,es,ep,ho,aT⟩:=hD;exact⟨o,es,ep,hm.heap d _ nF ho,aT⟩))))
 | succ k ih=>
  intro i s hk hi cO m0 hD hR;have aY:i<n:=by omega
  refine codeAny_builtin vF ?_;rw[Around.under_plainId mh _];show wpAny _ A.in1 (pyNext (.ref I) >>= _) _ _ s;refine mJ (W.item i s _ _ aY cO fun v s' hP ic hm=>?_);obtain⟨t,key,rfl,⟨ot,uO,Cs,nt,KN⟩,Hr,bZ⟩:=fZ i v hP;have m1:Moved (d::wr) G s0 s':=Moved.trans W.gtrans m0 (hm.mono qA);have iy:s'.heap.DictOf knd d (kvs i):=by
   obtain⟨o,es,ep,ho,aT⟩:=hD;exact⟨o,es,ep,hm.heap d _ nF ho,aT⟩
  have qV:=m1.heap t _ Hr uO;have hT:s'.TypeIs (.ref t) "tuple":=⟨_,qV,Cs⟩;dsimp only;refine mJ (Rn (mJ (RY ?_)));unfold Builtin.Dict.pairItems;refine mJ (SE hT ?_);rw[if_pos (by decide)];refine mJ (RG qV KN (QW ?_));show wpAny _ _ (holding [key,vs i] (dictSet d key (vs i))) _ _ s';refine Rn (Ui (knd:=knd) bZ iy (fun h' bD m5=>?_) (by rw[Q3];have:=hl i;omega));have e1:kvs (i + 1)=stored (kvs i) (ks i) (vs i):=hs i;rw[<- e1] at bD;refine QW ⟨plainId_quiet mh _,ih (i + 1) _ (by omega) aY (W.frame _ s' _ _ ic (RO _) fun b hb o e=>?_) ?_ bD hR⟩
  ·rw[m5.2 b (fun h:b=d=>lU (by rw[<- h];exact hb))];exact e
  ·refine m1.then_heap (RO _) fun b o hb e=>?_
   rw[m5.2 b (fun h:b=d=>hb (by rw[h];exact Q9))];exact e
end
section
variable {κ:Type} [DecidableEq κ] {knd:KeyKind prog w κ}
theorem OG {nn:Nat}{Q:Value->Shared->Prop} (hc:HdC A cs) (ch:Chn s.heap cs) (ho:s.heap.get? l=some ol) (kC:ol.cls=.type "list") (pF:ol.dict=none) (om:ol.data=.seq ag nn) (hz:ag.size<=1000)
  (ks:Nat->κ) (vs:Nat->Value) (kvs:Nat->List (κ×Value)) (h0:kvs 0=[]) (hs:∀ i,kvs (i + 1)=stored (kvs i) (ks i) (vs i)) (hl:∀ i,(kvs i).length<=i)
  (fZ:∀ i v,ag[i]?=some v->∃ t key,v=.ref t/\s.heap.IsTuple t #[key,vs i]/\knd.is (ks i) key=true)
  (h:∀ h' tk,h'.DictOf knd s.heap.objs.size (kvs ag.size)->(∀ b o,s.heap.get? b=some o->h'.get? b=some o)->Q (.ref s.heap.objs.size) { s with heap:=h',toks:=tk }) :
  wpAny (model prog w) A (call (.type "dict") [.ref l]) Q E s:=by
 refine callType_codes (Q₁:=fun obj s₁=>obj=.ref s.heap.objs.size/\s₁={ s with heap:=s.heap.push { cls:=.type "dict",data:=.dict #[] } }) F.kt_called_dict (F.kt_typeCall_dict_1 _) F.entry_dict_init (kt_code_dict_new _ ⟨O,O⟩) ?_;rintro obj s₁ ⟨rfl,rfl⟩
 have cC:(s.heap.push { cls:=.type "dict",data:=.dict #[] }).DictOf knd s.heap.objs.size []:=Heap.DictOf.new s.heap;have ir:(s.heap.push { cls:=.type "dict",data:=.dict #[] }).get? l=some ol:=QU _ ho;have lJ:Chn (s.heap.push { cls:=.type "dict",data:=.dict #[] }) cs:=ch.mono fun b o _ e=>QU _ e
 have lt:∀ b∈cs,b<s.heap.objs.size:=ch.lt;have hsz:(s.heap.push { cls:=.type "dict",data:=.dict #[] }).objs.size=s.heap.objs.size + 1:=Rr ..;have keep:∀ b o,s.heap.get? b=some o->(s.heap.push { cls:=.type "dict",data:=.dict #[] }).get? b=some o:=fun b o e=>QU _ e
 generalize s.heap.push { cls:=.type "dict",data:=.dict #[] }=hp at cC ir lJ hsz keep ⊢;refine⟨cC.typeIs,F.args_dict_init_2 _ _,?_⟩;unfold Builtin.«dict.__init__»;refine mJ ?_;unfold Builtin.Dict.selfAndRest;refine mJ (Ud cC.typeIs ?_);show wpAny _ _ (pure (s.heap.objs.size,[Value.ref l])) _ _ _;refine QW ?_;show wpAny _ _ (Builtin.Dict.updateFrom "dict.__init__" s.heap.objs.size (.ref l) [] .none) _ _ _;unfold Builtin.Dict.updateFrom;have hT:Shared.TypeIs { s with heap:=hp } (.ref l) "list":=⟨_,ir,kC⟩;refine mJ (SE hT ?_);rw[if_pos (by decide)];refine mJ ?_;refine Ld (s:={ s with heap:=hp }) (HdC.hd (A:=A.in1.in1) hc lJ) ir kC pF om fun h2 ki k2=>?_
 have fO:=k2 _ _ ir;have bY:h2.IsList l ag:=⟨_,fO,kC,nn,om⟩;have yI:Chn h2 cs:=lJ.mono fun b o _ e=>k2 b o e
 rw[if_pos (show(none:Option Value).isNone=true from rfl)];refine mJ (Sx ?_);refine mJ (R5 bY ?_);have sR:s.heap.objs.size<h2.objs.size:=by
  obtain⟨o,es,ep,hg,_⟩:=cC;exact QZ (k2 _ _ hg)
 have ll:l<s.heap.objs.size:=QZ ho;have W:=(qr (prog:=prog) (w:=w) (A:=A.in1.in1) hc h2.objs.size l (Q5 (Th ll sR)) (fun z=>absurd (Th (lt _ z) sR) (Rl _)) ag).toS;refine QW ⟨plainId_quiet mh _,LX (knd:=knd) (A:=A.in1) W (fun z=>?_) hz _ ks vs kvs .none (fun i v hv=>?_) hs hl (ag.size - 0) 0 _ O (R9 _) ⟨⟨_,Q1 _ O,O,O⟩,bY.push _,yI.mono fun b o _ e=>QU _ e⟩ ⟨fun _ _ _ e=>e,W.grefl _,O,O,QY _⟩ ?_ fun s' hm hD=>?_⟩
 ·rcases Rp.mp z with z|z
  ·exact absurd z (Q5 sR)
  ·rcases Rp.mp z with z|z
   ·exact absurd z (RV ll)
   ·exact Rl _ (lt _ z)
 ·obtain⟨t,key,e1,⟨ot,uO,r⟩,hk⟩:=fZ i v hv
  have tl:=QZ uO;refine⟨t,key,e1,⟨ot,QU _ (k2 _ _ (keep _ _ uO)),r⟩,fun z=>?_,hk⟩;rcases Rp.mp z with z|z
  ·exact absurd z (Q5 tl)
  ·exact absurd (S1.mp z) (Q5 (Th tl sR))
 ·rw[h0]
  obtain⟨o,es,ep,hg,aT⟩:=cC;exact⟨o,es,ep,QU _ (k2 _ _ hg),aT⟩
 ·obtain⟨h',g',d',eE,uA⟩:=s'
  have eg:g'=s.gens:=hm.gens;have ed:d'=s.drawn:=hm.drawn;have eo:uA=s.os:=hm.os;subst eg;subst ed;subst eo
  refine⟨O,h h' eE hD fun b o e=>hm.heap b o (fun z=>?_) (QU _ (k2 _ _ (keep _ _ e)))⟩;have bl:=QZ e;rcases Rp.mp z with z|z
  ·exact absurd z (Q5 bl)
  ·exact absurd (S1.mp z) (Q5 (Th bl sR))
end
def eG (K:PySem.W.Frag) (H:Hp):List (Key×V)->List V->Prop
 | [],ys=>ys=[]
 | kv::r,ys=>∃ t lH,ys=.ref t::lH/\SqT K H t [kV kv.1,kv.2]/\eG K H r lH
def ee (m:List (Key×V)) (kv:Key×V):List (Key×V):=aE m kv.1 kv.2
def mkD (kvs:List (Key×V)):List (Key×V):=kvs.foldl ee []
def stN (us:List (Key×Value)):Nat->List (Key×Value)
 | 0=>[]
 | i + 1=>stored (stN us i) (us.getD i (Sum.inl 0,.none)).1 (us.getD i (Sum.inl 0,.none)).2
theorem A7 (us:List (Key×Value)):∀ i,(stN us i).length<=i
 | 0=>QY _
 | i + 1=>Rz (stored_length_le _ _ _) (Nat.succ_le_succ (A7 us i))
theorem mkD_len:∀ (kvs m:List (Key×V)),(kvs.foldl ee m).length<=m.length + kvs.length
 | [],_=>QY _
 | kv::r,m=>by
  have h1:=mkD_len r (ee m kv);have h2:=vT m kv.1 kv.2;show(r.foldl ee (ee m kv)).length<=_;unfold ee at h1 ⊢;rw[Re];omega
theorem EO (I:Inv X aa σ H s):∀ {kvs:List (Key×V)}{ys:List V}{ag:List Value},eG X.K H kvs ys->aw ys ag->∃ us:List (Key×Value),us.length=ag.length/\kvs.length=us.length /\
  (∀ i v,ag[i]?=some v->∃ t key,v=.ref t/\s.heap.IsTuple t #[key,(us.getD i (Sum.inl 0,.none)).2]/\(bJ X.prog X.w).is (us.getD i (Sum.inl 0,.none)).1 key=true) /\
  ∀ i kv,kvs[i]?=some kv->kv.1=(us.getD i (Sum.inl 0,.none)).1/\av kv.2 (us.getD i (Sum.inl 0,.none)).2
 | [],_,_,h,r=>by
  obtain rfl:_=[]:=h;cases r
  exact⟨[],O,O,(fun i v hv=>by simp at hv),fun i kv hk=>by simp at hk⟩
 | kv::kvs,_,_,h,r=>by
  obtain⟨t,lH,rfl,ht,h'⟩:=h;cases r with
  | cons r1 r2=>
   obtain rfl:=(show _=Value.ref t from r1);obtain⟨us,e1,e2,e3,e4⟩:=EO I h' r2;obtain⟨ti,rv,hT,_⟩:=I.tuple ht;obtain⟨key,u,rfl,q1,q2⟩:=pY rv;refine⟨(kv.1,u)::us,by rw[Re,Re,e1],by rw[Re,Re,e2],fun i v hv=>?_,fun i CJ hk=>?_⟩
   ·cases i with
    | zero=>
     obtain rfl:Value.ref t=v:=Option.some.inj hv;exact⟨t,key,O,hT,kM q1⟩
    | succ i=>exact e3 i v hv
   ·cases i with
    | zero=>
     obtain rfl:kv=CJ:=Option.some.inj hk;exact⟨O,q2⟩
    | succ i=>exact e4 i CJ hk
theorem Bo {kvs:List (Key×V)}{us:List (Key×Value)} (h:∀ i kv,kvs[i]?=some kv->kv.1=(us.getD i (Sum.inl 0,.none)).1/\av kv.2 (us.getD i (Sum.inl 0,.none)).2):∀ i,i<=kvs.length->KV ((kvs.take i).foldl ee []) (stN us i)
 | 0,_=>by rw[S4];exact .nil
 | i + 1,hi=>by
  obtain⟨kv,hk⟩:∃ kv,kvs[i]?=some kv:=⟨_,QX (by omega)⟩;obtain⟨e1,e2⟩:=h i kv hk;have ih:=Bo h i (by omega);rw[TD,hk,RT];show KV (ee ((kvs.take i).foldl ee []) kv) (stored (stN us i) _ _);rw[<- e1];exact ih.put _ e2
theorem Ox:gD X (.type "dict") (fun xs H Q=>∃ p ys kvs,xs=[.ref p]/\SqL X.K H p ys/\eG X.K H kvs ys/\kvs.length<=1000/\∀ d,H d=none->Q (.ref d) (upd H d (.dK (mkD kvs)))):=by
 intro aa s σ H xs us Q I r h;obtain⟨p,ys,kvs,rfl,hq,hP,aj,q⟩:=h;obtain⟨u,rfl,ru⟩:=gE r;obtain rfl:u=Value.ref p:=ru;obtain⟨ag,rv,⟨ol,nn,e1,e2,e3,e4⟩,_⟩:=I.list hq;obtain⟨us,l1,l2,p1,p2⟩:=EO I hP rv;obtain⟨cs,cw,ch⟩:=I.hd.chain;have hz:ag.toArray.size=kvs.length:=by simp[l2,l1]
 refine OG (knd:=bJ X.prog X.w) cw ch e1 e2 e3 e4 (by rw[hz];exact aj) (fun i=>(us.getD i (Sum.inl 0,.none)).1) (fun i=>(us.getD i (Sum.inl 0,.none)).2) (stN us) O (fun _=>O) (A7 us) (fun i v hv=>p1 i v (by simpa using hv)) fun h' tk hD hk=>?_
 have ne:(s.heap.objs.size == sysModules)=false:=(vt (P:=X.prog) (w:=X.w) (H:=H) s.heap I.big).2.1;have rel:=Bo p2 kvs.length (QY _);rw[Rf] at rel;rw[hz] at hD;have z:(mkD kvs).length<=sizeLine:=by
  have:=mkD_len kvs [];have z0:([]:List (Key×V)).length=0:=rfl;rw[Q3];unfold mkD;omega
 refine⟨.ref s.heap.objs.size,_,I.laid (a:=s.heap.objs.size) (o:=.dK (mkD kvs)) (t':=tk) (fun b o e=>hk b o e) (QY _) ⟨z,ne,_,rel,hD⟩,O,q _ (I.hok.fresh (QY _))⟩
section
open PySem.SeqAt
open AutoSeq1 (wpAny_loadPart')
def EqP (prog:Program) (w:World) (A:Around) (s:Shared) (u v:Value):Prop:=
 ∀ (E:Value->Shared->Prop) (Q:Bool->Shared->Prop),Q true s->wpAny (model prog w) A (eqBool u v) Q E s
theorem EqP.of {v:Value} (h:EqAt A s u v true):EqP prog w A s u v:=fun E Q q=>h prog w E Q q
theorem EqP.refs {b:Addr} (h:∀ (E:Value->Shared->Prop) (Q:Value->Shared->Prop),Q (.bool true) s->wpAny (model prog w) A (richCompare .Eq (.ref a) (.ref b)) Q E s):EqP prog w A s (.ref a) (.ref b):=fun E Q q=>by
 by_cases e:a=b
 ·subst e
  exact EqP.of (EqAt.same _) E Q q
 ·unfold eqBool
  refine Rn (wpAny_ite_split (fun z=>?_) fun _=>mJ (h E _ (R4 q)));have z':=eq_of_beq z;injection z' with z'
  exact(e z').elim
theorem Lz {b:Addr} (ha:s.heap.IsTuple a xs) (hb:s.heap.IsTuple b ys) (sz:xs.size=ys.size) (hu:A.units<cLine)
  (al:∀ j (h1:j<xs.size) (h2:j<ys.size),EqP prog w A.in1 s xs[j] ys[j]){Q:Value->Shared->Prop} (q:Q (.bool true) s):wpAny (model prog w) A (richCompare .Eq (.ref a) (.ref b)) Q E s:=by
 obtain⟨⟨c1,d1,p1,l1⟩,o1,e1,n1,f1⟩:=id ha;obtain⟨⟨c2,d2,p2,l2⟩,o2,e2,n2,f2⟩:=id hb;dsimp only at e1 f1 e2 f2;subst e1 f1 e2 f2;have t1:s.TypeIs (.ref a) "tuple":=⟨_,o1,O⟩;have t2:s.TypeIs (.ref b) "tuple":=⟨_,o2,O⟩;refine wpAny_richCompare_same_room (op:=.Eq) t1 t2 PySem.F.slot_tuple_eq (RB PySem.F.slot_tuple_eq t1 PySem.F.entry_tuple_eq ?_ (PySem.F.args_tuple_eq_2 _ _)) hu;obtain⟨hp,gn,dd,tk,os⟩:=s;have sub:=AutoSeq1.sub_tuple_tuple
 wp_walk using wpAny_loadPart' o1,wpAny_loadPart' o2,wpAny_forIn_list _ (fun aT r z=>r.1=none/\z=⟨hp,gn,dd,tk,os⟩/\∃ i,aT=(xs.toList.zip ys.toList).drop i) _
 case turn=>
  rintro⟨u,v⟩ aT r z ⟨hr,rfl,i,hi⟩
  have li:i<(xs.toList.zip ys.toList).length:=by
   by_cases c:i<(xs.toList.zip ys.toList).length
   ·exact c
   ·rw[List.drop_of_length_le (by omega)] at hi
    cases hi
  have k1:i<xs.size:=by simp at li;omega
  have k2:i<ys.size:=by omega
  rw[TK li] at hi;injection hi with hu' hrest
  have px:u=xs[i]:=by simpa using congrArg Prod.fst hu'
  have mW:v=ys[i]:=by simpa using congrArg Prod.snd hu'
  subst px mW;refine mJ (al i k1 k2 _ _ ?_)
  wp_walk
  exact⟨O,O,i + 1,hrest⟩
 case fin=>
  rintro⟨r1,r2⟩ z ⟨hr,rfl,i,hi⟩
  dsimp only at hr;subst hr
  wp_walk
  refine⟨_,O,nofun,?_⟩;rw[sz]
  simpa [Builtin.Tuple.tupleCompareSizes] using q
 case h=>exact⟨O,O,0,O⟩
def vV (K:PySem.W.Frag) (H:Hp) (kvs:List (Key×V)):Prop:=∀ p∈kvs,∃ d,DtV K H d p.2/\jP 20 d
theorem NQ:(kvs.map (·.1)).Nodup->∀ p∈kvs,aN kvs p.1=some p.2:=by
 induction kvs with
 | nil=>intro _ p hp;cases hp
 | cons q r ih=>
  intro nd p hp;rw[RN,SX] at nd;rcases Rp.mp hp with rfl|hp
  ·exact fU rfl
  ·rw[eA (fun e=>nd.1 (by rw[e];exact List.mem_map_of_mem hp))]
   exact ih nd.2 p hp
theorem Inv.dicHits (I:Inv X aa σ H s){kb:List (Key×Value)} (rb:KV kvs kb) (nd:(kvs.map (·.1)).Nodup) (f:vV X.K H kvs) (hu:A.units + 20<cLine) :
  ∀ {l:List (Key×V)}{ka:List (Key×Value)},KV l ka->(∀ p∈l,p∈kvs)->PySem.W.KeqHits A s kb ka true:=by
 intro l ka r
 induction r with
 | nil=>exact fun _=>.nil
 | @cons p p' l ka r0 r ih=>
  intro m;obtain⟨k,y⟩:=p;obtain⟨k',v⟩:=p';have e:k=k':=r0.1;have ry:av y v:=r0.2;subst e;have hv:=NQ nd (k,y) (m _ Q9);have rel:=rb.val k;dsimp only at hv;rw[hv] at rel;cases e:valueAt kb k with
  | none=>rw[e] at rel;exact rel.elim
  | some v'=>
   rw[e] at rel;obtain⟨d,hd,dd⟩:=f _ (m _ Q9);have q:=I.eqAt (A:=A) hd hd ry rel dd hu;rw[vZ] at q;exact .hit e q (ih fun p hp=>m p (Q6 _ hp))
def Ab (K:PySem.W.Frag) (H:Hp) (x y:V):Prop:=(∃ d,DtV K H d x/\DtV K H d y/\jP 30 d)\/∃ a b kvs,x=.ref a/\y=.ref b/\H a=some (.dK kvs)/\H b=some (.dK kvs)/\vV K H kvs
def mz (K:PySem.W.Frag) (H:Hp):List V->List V->Prop
 | [],[]=>True
 | x::xs,y::ys=>Ab K H x y/\mz K H xs ys
 | _,_=>False
theorem mz.len {K:PySem.W.Frag}{H:Hp}:∀ {xs ys:List V},mz K H xs ys->xs.length=ys.length
 | [],[],_=>rfl
 | _::_,_::_,h=>by rw[Re,Re,mz.len h.2]
 | [],_::_,h=>h.elim
 | _::_,[],h=>h.elim
theorem mz.at {K:PySem.W.Frag}{H:Hp}:∀ {xs ys:List V}{j:Nat}{x y:V},mz K H xs ys->xs[j]?=some x->ys[j]?=some y->Ab K H x y
 | x::xs,y::ys,0,_,_,h,e1,e2=>by
  cases e1
  cases e2
  exact h.1
 | x::xs,y::ys,j + 1,_,_,h,e1,e2=>mz.at (j:=j) h.2 (by simpa using e1) (by simpa using e2)
 | [],[],_,_,_,_,e1,_=>by simp at e1
 | [],_::_,_,_,_,h,_,_=>h.elim
 | _::_,[],_,_,_,h,_,_=>h.elim
theorem Inv.dics (I:Inv X aa σ H s){b:Addr} (ha:H a=some (.dK kvs)) (hb:H b=some (.dK kvs)) (f:vV X.K H kvs) (hu:A.units + 21<cLine){Q:Value->Shared->Prop} (q:Q (.bool true) s) :
  wpAny (model X.prog X.w) A (richCompare .Eq (.ref a) (.ref b)) Q E s:=by
 obtain⟨_,na,va,ra,da⟩:=iT I.hok ha;obtain⟨_,nb,vb,rb,db⟩:=iT I.hok hb;have nd:(kvs.map (·.1)).Nodup:=by
  obtain⟨_,_,_,_,_,_,_,_,nd⟩:=da;rw[ra.keys];exact nd
 refine PySem.W.keq_eq na nb da db (by omega) (fun _=>I.dicHits (A:=A.in1) rb nd f (show A.units + 1 + 20<cLine by omega) ra fun p hp=>hp) ?_;rw[<- ra.length,<- rb.length]
 simpa using q
theorem Inv.alike (I:Inv X aa σ H s){x:V}{v:Value} (h:Ab X.K H x y) (rx:av x u) (ry:av y v) (hu:A.units + 31<cLine):EqP X.prog X.w A s u v:=by
 rcases h with⟨d,h1,h2,hd⟩|⟨a,b,kvs,rfl,rfl,ha,hb,f⟩
 ·have q:=I.eqAt (A:=A) h1 h2 rx ry hd (by omega)
  rw[vZ] at q;exact EqP.of q
 ·obtain rfl:u=Value.ref a:=rx
  obtain rfl:v=Value.ref b:=ry;exact EqP.refs fun E Q q=>I.dics ha hb f (by omega) q
def rEqT (K:PySem.W.Frag):R2:=fun x y H Q=>∃ a b xs ys,x=.ref a/\y=.ref b/\SqT K H a xs/\SqT K H b ys/\mz K H xs ys/\Q (.bl true) H
theorem op_eqT (hu:X.A.units + 64<cLine):OpR X (compareOp .Eq) (rEqT X.K):=by
 intro aa s σ H x y v u Q I rx ry h;obtain⟨a,b,xs,ys,rfl,rfl,ha,hb,al,q⟩:=h;obtain rfl:v=Value.ref a:=rx;obtain rfl:u=Value.ref b:=ry;obtain⟨ag,rv,hl⟩:=I.isT ha;obtain⟨its',cg,cP⟩:=I.isT hb;have n1:xs.length=ag.length:=rv.length;have n2:ys.length=its'.length:=cg.length;have n3:=al.len;refine Lz hl cP (by simp;omega) (by omega) (fun j j1 j2=>?_) ⟨.bl true,H,I,O,q⟩;have j1:j<ag.length:=by simpa using j1
 have j2:j<its'.length:=by simpa using j2
 obtain⟨x',dC⟩:=eB (l:=xs) (j:=j) (by omega);obtain⟨y',bT⟩:=eB (l:=ys) (j:=j) (by omega);obtain⟨u',hu',ru⟩:=rv.get dC;obtain⟨v',c6,eY⟩:=cg.get bT;have q1:ag.toArray[j]=u':=by simpa using (List.getElem?_eq_some_iff.mp hu').2
 have q2:its'.toArray[j]=v':=by simpa using (List.getElem?_eq_some_iff.mp c6).2
 rw[q1,q2];exact I.alike (al.at dC bT) ru eY (show X.A.units + 1 + 31<cLine by omega)
end
def Mh:V->List V->Hp->VK->Prop:=fun x vs H Q=>∃ d kvs,x=.ref d/\vs=[]/\H d=some (.dK kvs)/\Q .non (upd H d (.dK []))
theorem Pp:MtR X "dict.clear" Mh:=by
 intro aa s σ H x vs v us Q I rx rv h;obtain⟨d,kvs,rfl,rfl,e,q⟩:=h;obtain rfl:v=Value.ref d:=rx;cases rv
 exact Ly I e fun s' I'=>⟨.non,_,I',O,q⟩
section
variable {pos:Pos}
end
section
variable {st:Expr}{ts:TE}{pos:Pos}
end
theorem Pu:OpR X (binaryOp .FloorDiv) (rI (fun _ j=>0<j/\j<2 ^ 62) fun i j=>.int (i / j)):=opI fun i j _ _ _ _ _ hc q=>by
 have h1:(0:Int)<j:=hc.1;have h2:j<2 ^ 62:=hc.2;refine floordiv_int (by omega) (by rw[Tv i (by omega)];exact q) (.inl (PyProof.noPylong_of_log2 ?_));exact(Nat.log2_lt (by omega)).mpr (Ri (by omega:j.natAbs<2 ^ 62) (Tl (by decide) (by decide)))
section
open Sem (wp)
theorem LL {pos:Pos}{T:String}{x:Sem Value}{aT:List (Bool×Sem Value)}{mO:List (Option Str×Sem Value)}{Q:Value->Shared->Prop}
  (hp:aT.any (·.1)=false) (hk:mO.any (·.1.isNone)=false) (ha:mO.all (·.1.isSome)=true)
  (h:wpAny M A (spliced ((false,x)::aT)) (fun vs s1=>wpAny M A (evalAll (mO.map (·.2))) (fun ks s2=>wpAny M A (call (.type T) vs ((mO.filterMap (·.1)).zip ks)) Q E s2) E s1) E s) :
  wpAny M A (callWith pos (.type T) [] ((false,x)::aT) mO) Q E s:=by
 unfold callWith;refine mJ (Rn (evalArgs_kwB ha (RJ h (fun vs s1 h1=>RJ h1 (fun ks s2 h2=>?_) fun _ _ z=>z) fun _ _ z=>z)));refine mJ (SI ?_);have hs:(((false,x)::aT).any (·.1) || mO.any (·.1.isNone))=false:=by rw[SQ,hp,hk];rfl
 simp only[hs]
 refine mJ (QW ?_);exact mJ (RJ h2 (fun r s3 hr=>mJ (Rn (wpAny_point (QW hr)))) fun _ _ z=>z)
theorem OS (l:Addr) (items:Array Value) (n:Nat) (yF:Option Addr) (sl:Array (Option Value)) (k:Nat) (t:Tok) (hk:k<2 ^ 62) :
  Meets (Builtin.«enumerate.__new__» ⟨[.type "enumerate",.ref l],[(Str.ofString "start",.int k t)]⟩) (fun _ R s=>s.heap.get? l=some { cls:=.type "list",dict:=yF,data:=.seq items n,slots:=sl } /\
   R (.ok (.ret (.ref (s.heap.push { cls:=.type "list_iterator",data:=.fields #[.ref l,.int 0 0] }).objs.size))) { s with heap:=(s.heap.push { cls:=.type "list_iterator",data:=.fields #[.ref l,.int 0 0] }).push { cls:=.type "enumerate",data:=.fields #[.none,.bool false,.ref s.heap.objs.size,rawInt k,.none,.none] } }):=
 .of_wp fun prog w A R s h=>by
  obtain⟨hp,g,d,tk,os⟩:=s;obtain⟨hl,h⟩:=h;have sub:=sub_enumerate;have hL:Heap.IsList (Shared.heap ⟨hp,g,d,tk,os⟩) l items:=⟨_,hl,O,n,O⟩
  wp_walk using AutoSeq1.wpAny_loadPart' hl
  have fit:(!Builtin.SmallTypes.fitsIndex (k:Int))=false:=by
   unfold Builtin.SmallTypes.fitsIndex;rw[Ro (by omega),Ro (by omega)];rfl
  refine wpAny_stack_any fun st=>QW ?_
  split
  ·rename_i c _ _ _ _ _
   cases (c == Value.type "enumerate")
   ·simp only[RE,if_false]
    refine mJ ?_;refine R8 (a:=(Value.ref l,some (Value.int (k:Int) t))) ?e1 ?_
    case e1=>kernel_rfl
    refine mJ ?_;refine R8 (a:=Value.int (k:Int) t) ?e2 ?_
    case e2=>rfl
    refine mJ ?_;refine R8 (a:=some (k:Int)) ?e3 ?_
    case e3=>rfl
    dsimp only;rw[if_neg (by rw[fit];exact Ra)];refine mJ (R5 hL ?_)
    wp_walk
    exact⟨_,O,h⟩
   ·simp only[if_true]
    refine mJ ?_;refine R8 (a:=(Value.ref l,some (Value.int (k:Int) t))) ?e1 ?_
    case e1=>kernel_rfl
    refine mJ ?_;refine R8 (a:=Value.int (k:Int) t) ?e2 ?_
    case e2=>rfl
    refine mJ ?_;refine R8 (a:=some (k:Int)) ?e3 ?_
    case e3=>rfl
    dsimp only;rw[if_neg (by rw[fit];exact Ra)];refine mJ (R5 hL ?_)
    wp_walk
    exact⟨_,O,h⟩
  ·simp only[RE,if_false]
   refine mJ ?_;refine R8 (a:=(Value.ref l,some (Value.int (k:Int) t))) ?e1 ?_
   case e1=>kernel_rfl
   refine mJ ?_;refine R8 (a:=Value.int (k:Int) t) ?e2 ?_
   case e2=>rfl
   refine mJ ?_;refine R8 (a:=some (k:Int)) ?e3 ?_
   case e3=>rfl
   dsimp only;rw[if_neg (by rw[fit];exact Ra)];refine mJ (R5 hL ?_)
   wp_walk
   exact⟨_,O,h⟩
theorem Mg {T nw:String}{Bn:Builtin}{as:List Value}{kw:List (Str×Value)}{S:PySem.Spec}{Q:Value->Shared->Prop} (ft:TypeCalled T nw "object.__init__")
  (eC:(some nw != some "object.__new__")=true) (Cs:checkTypeCall T ⟨as,kw⟩=pure ()) (JQ:checkBuiltinCall nw ⟨.type T::as,kw⟩=pure ()) (hok:∀ o,argsOk "object.__init__" ⟨o::as,kw⟩)
  (hin:∀ o,Meets (Builtin.«object.__init__» ⟨o::as,kw⟩) (fun _ R s=>s.TypeIs o T/\R (.ok (.ret .none)) s))
  (en:entryFor table nw=some Bn) (g:Meets (Bn ⟨.type T::as,kw⟩) S) (h:S A.in1 (wants (fun o s1=>s1.TypeIs o T/\Q o s1) E) s):wpAny (model prog w) A (call (.type T) as kw) Q E s:=by
 obtain⟨c1,Qf,KZ⟩:=ft.mro;have f1:=ft.made;have f2:=ft.sub;have f3:=ft.notType;have f4:=ft.canCreate;refine SJ (codeAny_of_tree (show wpAny _ _ (callAny (.type T) _) _ _ _ from QW ⟨Code.quiet_builtin _ (by decide +kernel),codeAny_builtin F.entry_type_call ?_⟩));rw[Around.under_plain (weight_type_call_type T as kw) (units_type_call_type T as kw)]
 repeat (any_goals (first|assumption|wp_step))
 refine codeAny_mono (codeAny_call_builtin ft.plain en (R8 JQ (g prog w A.in1 _ s h))) fun r s1 hr=>?_
 match r,hr with
 | .error _,hr=>exact hr
 | .ok (.ret o),hr=>
  obtain⟨hT,hq⟩:=hr;have i1:=ft.init.lookup;have i2:=ft.init.bind o
  repeat (any_goals (first|assumption|wp_step))
  refine codeAny_mono (codeAny_call_builtin ft.init.plain F.entry_object_init (ft.init.check _ _ _ _ _ _ _ _ hT (hok o) (hin o prog w A.in1 (wants (fun r s2=>r=.none/\s2=s1) (fun _ _=>False)) s1 ⟨hT,O,O⟩))) fun r2 s2 g9=>?_
  match r2,g9 with
  | .error _,g9=>exact g9.elim
  | .ok (.ret v),g9=>
   obtain⟨rfl,rfl⟩:=g9
   repeat (any_goals (first|assumption|wp_step))
  | .ok .next,g9=>exact g9.elim
  | .ok .brk,g9=>exact g9.elim
  | .ok .cont,g9=>exact g9.elim
 | .ok .next,hr=>exact hr.elim
 | .ok .brk,hr=>exact hr.elim
 | .ok .cont,hr=>exact hr.elim
theorem Mn (o x:Value) (kw:List (Str×Value)):Meets (Builtin.«object.__init__» ⟨[o,x],kw⟩) (fun _ R s=>s.TypeIs o "enumerate"/\R (.ok (.ret .none)) s):=by
 refine Meets.of_wp fun prog w A R s hs=>?_
 obtain⟨hT,hq⟩:=hs;have l1:=F.called_enumerate.init.lookup;have l2:=F.called_enumerate.made
 repeat (any_goals (first|assumption|wp_step))
 exact⟨_,O,hq⟩
theorem Ms {items:Array Value}{k:Nat} (hk:k<2 ^ 62){Q:Value->Shared->Prop} (hL:s.heap.IsList l items)
  (h:∀ h',IsEnum h' (s.heap.objs.size + 1) s.heap.objs.size k .none->h'.IsListIter s.heap.objs.size l 0->(∀ b o,s.heap.get? b=some o->h'.get? b=some o)->Q (.ref (s.heap.objs.size + 1)) { s with heap:=h' }) :
  wpAny (model prog w) A (call (.type "enumerate") [.ref l] [(Str.ofString "start",.int k t)]) Q E s:=by
 obtain⟨⟨c,yF,dt,sl⟩,hl,hc,n,hd⟩:=hL;dsimp only at hc hd;subst hc hd;have hz:(s.heap.push { cls:=.type "list_iterator",data:=.fields #[.ref l,.int 0 0] }).objs.size=s.heap.objs.size + 1:=Rr ..;refine Mg F.called_enumerate (by decide) (by kernel_rfl) (by kernel_rfl) (fun o=>by first|rfl|kernel_rfl) (fun o=>Mn o _ _) F.entry_enumerate_new (OS l items n yF sl k t hk) ⟨hl,?_⟩;show _/\_;rw[hz];have he:=Q1 (s.heap.push { cls:=.type "list_iterator",data:=.fields #[.ref l,.int 0 0] }) (o:={ cls:=.type "enumerate",data:=.fields #[.none,.bool false,.ref s.heap.objs.size,rawInt k,.none,.none] }) rfl;rw[hz] at he;exact⟨⟨_,he,O⟩,h _ he ⟨_,QU _ (Q1 _ O),O,O⟩ fun b o e=>QU _ (QU _ e)⟩
theorem K7 {e:Addr}{j:Int}{x:Value}{Q:Value->Shared->Prop} (he:IsEnum s.heap e it j old) (hit:s.heap.IsListIter it l i) (hl:s.heap.IsList l xs) (hx:xs[i]?=some x) (ne:e≠it)
  (hQ:∀ h',IsEnumOut h' e it (j + 1) x s.heap.objs.size->h'.IsListIter it l (i + 1)->h'.get? s.heap.objs.size=some { cls:=.type "tuple",data:=.seq #[.int j s.toks,x] }->(∀ b o,b≠e->b≠it->s.heap.get? b=some o->h'.get? b=some o) ->
   Q (.ref s.heap.objs.size) { s with heap:=h',toks:=s.toks + 1 }) :
  wpAny (model prog w) A (Builtin.«enumerate.__next__» ⟨[.ref e],[]⟩) (fun fin s'=>∃ v,fin=.done (.ret v)/\Q v s') E s:=by
 obtain⟨hp,gn,dr,tk,os⟩:=s;refine(show wpAny _ _ (field (.ref e) 2 >>= _) _ _ _ from mJ (Rq he O (x:=.ref it) O (mJ (Sy hit hl hx fun g1 Hl b1=>?_))))
 replace b1:Heap.SameBut it hp g1:=b1
 have e1:IsEnum g1 e it j old:=(b1.2 e ne).trans he;refine(show wpAny _ _ (field (.ref e) 3 >>= _) _ _ ⟨g1,gn,dr,tk,os⟩ from mJ (Rq e1 O (x:=rawInt j) O ?_));refine(show wpAny _ _ (field (.ref e) 4 >>= _) _ _ ⟨g1,gn,dr,tk,os⟩ from mJ (Rq e1 O (x:=.none) O ?_));refine(show wpAny _ _ (mkInt j >>= _) _ _ ⟨g1,gn,dr,tk,os⟩ from mJ (wpAny_mkInt ?_));refine(show wpAny _ _ (setField (.ref e) 3 (rawInt (j + 1)) >>= _) _ _ ⟨g1,gn,dr,tk + 1,os⟩ from mJ (Sc e1 (by simp) fun g2 e2 b2=>?_))
 replace b2:Heap.SameBut e g1 g2:=b2
 replace e2:IsEnum g2 e it (j + 1) old:=e2
 refine(show wpAny _ _ (setField (.ref e) 4 .none >>= _) _ _ ⟨g2,gn,dr,tk + 1,os⟩ from mJ (Sc e2 (by simp) fun g3 e3 b3=>?_))
 replace b3:Heap.SameBut e g2 g3:=b3
 replace e3:IsEnum g3 e it (j + 1) old:=e3
 refine(show wpAny _ _ (newTuple [.int j tk,x] >>= _) _ _ ⟨g3,gn,dr,tk + 1,os⟩ from mJ (wpAny_newTuple ?_));have e4:IsEnum (g3.push { cls:=.type "tuple",data:=.seq #[.int j tk,x] }) e it (j + 1) old:=QU _ e3;have z3:g3.objs.size=hp.objs.size:=by rw[b3.1,b2.1,b1.1]
 have el:e<hp.objs.size:=QZ he;have tu:(g3.push { cls:=.type "tuple",data:=.seq #[.int j tk,x] }).get? hp.objs.size=some { cls:=.type "tuple",data:=.seq #[.int j tk,x] }:=by
  rw[<- z3];exact Q1 _ rfl
 have kp:∀ b o,b≠e->b≠it->hp.get? b=some o->(g3.push { cls:=.type "tuple",data:=.seq #[.int j tk,x] }).get? b=some o:=fun b o n1 n2 q=>QU _ (b3.extBut b o n1 (b2.extBut b o n1 (b1.extBut b o n2 q)))
 have Bu:(g3.push { cls:=.type "tuple",data:=.seq #[.int j tk,x] }).IsListIter it l (i + 1):=by
  obtain⟨o,ho,r⟩:=(Hl.extBut b2.extBut (Ne.symm ne)).extBut b3.extBut (Ne.symm ne);exact⟨o,QU _ ho,r⟩
 generalize g3.push { cls:=.type "tuple",data:=.seq #[.int j tk,x] }=g4 at e4 tu kp Bu;refine(show wpAny _ _ (Builtin.SmallTypes.ownedTupleIsFree (.ref e) >>= _) _ _ ⟨g4,gn,dr,tk + 1,os⟩ from ?_);rw[z3];refine mJ ?_;unfold Builtin.SmallTypes.ownedTupleIsFree;refine mJ (Rq e4 O (x:=.none) O (QW ?_));simp only[if_true]
 refine mJ (Sx (mJ (Rq e4 O (x:=old) O (mJ (Sc e4 (by simp) fun g5 e5 b5=>?_)))))
 replace b5:Heap.SameBut e g4 g5:=b5
 replace e5:IsEnum g5 e it (j + 1) x:=e5
 refine(show wpAny _ _ (Builtin.SmallTypes.ownedTupleHandOut (.ref e) (.ref hp.objs.size) >>= _) _ _ ⟨g5,gn,dr,tk + 1,os⟩ from mJ ?_);unfold Builtin.SmallTypes.ownedTupleHandOut;refine mJ (Sc e5 (by simp) fun g6 e6 b6=>?_)
 replace b6:Heap.SameBut e g5 g6:=b6
 replace e6:IsEnumOut g6 e it (j + 1) x hp.objs.size:=e6
 refine Sc e6 (by simp) fun g7 e7 b7=>?_
 replace b7:Heap.SameBut e g6 g7:=b7
 replace e7:IsEnumOut g7 e it (j + 1) x hp.objs.size:=e7
 have on:∀ b o,b≠e->g4.get? b=some o->g7.get? b=some o:=fun b o n q=>b7.extBut b o n (b6.extBut b o n (b5.extBut b o n q))
 refine mJ (Sq (QW ⟨_,O,hQ g7 e7 ?_ (on _ _ (RV el) tu) fun b o n1 n2 q=>on b o n1 (kp b o n1 n2 q)⟩));exact((Bu.extBut b5.extBut (Ne.symm ne)).extBut b6.extBut (Ne.symm ne)).extBut b7.extBut (Ne.symm ne)
theorem NC {e:Addr}{j:Int}{x:Value} (he:IsEnum s.heap e it j old) (hit:s.heap.IsListIter it l i) (hl:s.heap.IsList l xs) (hx:xs[i]?=some x) (ne:e≠it)
  (hQ:∀ h',IsEnumOut h' e it (j + 1) x s.heap.objs.size->h'.IsListIter it l (i + 1)->h'.get? s.heap.objs.size=some { cls:=.type "tuple",data:=.seq #[.int j s.toks,x] }->(∀ b o,b≠e->b≠it->s.heap.get? b=some o->h'.get? b=some o) ->
   Q (some (.ref s.heap.objs.size)) { s with heap:=h',toks:=s.toks + 1 }):wpAny (model prog w) A (pyNext (.ref e)) Q E s:=by
 have ty:s.TypeIs (.ref e) "enumerate":=⟨_,he,O⟩;unfold pyNext;refine mJ (Sh (Ry (name:=Str.ofString "__next__") ty F.slot_enumerate_next (RB F.slot_enumerate_next ty F.entry_enumerate_next ?_ (F.args_enumerate_next_1 _))));exact K7 he hit hl hx ne fun h' a b c d=>QW (hQ h' a b c d)
theorem O2 {e:Addr}{j:Int}{items:Array Value} (hd:Hd A s.heap)
  (he:IsEnum s.heap e it j old) (hit:s.heap.IsListIter it l i) (hl:s.heap.IsList l items) (hx:items[i]?=none)
  (hQ:∀ h',Heap.ExtBut it s.heap h'->Q none { s with heap:=h' }):wpAny (model prog w) A (pyNext (.ref e)) Q E s:=by
 have ht:s.TypeIs (.ref e) "enumerate":=⟨_,he,O⟩;unfold pyNext;refine mJ (Sh (Ry (name:=Str.ofString "__next__") ht F.slot_enumerate_next (RB F.slot_enumerate_next ht F.entry_enumerate_next ?_ (F.args_enumerate_next_1 _))));refine(show wpAny _ _ (field (.ref e) 2 >>= _) _ _ _ from mJ (Rq he O (x:=.ref it) O ?_));refine mJ (p9 (A:=A.in1) hd hit hl hx fun h' x dE dC=>?_);obtain⟨o,ho,hc⟩:=dC;exact mJ (R3 (T:="StopIteration") (b:=true) ⟨o,ho,hc⟩ isSubtype_stop (QW (hQ _ dE)))
def IteK (K:PySem.W.Frag) (l:Addr) (k:Nat):It:=
  ⟨fun i H=>∃ xs x,SqL K H l xs/\xs[i]?=some x,
   fun i H v H'=>∃ T x,v=.ref T/\H T=none/\H'=upd H T (.tup [.int ((k:Int) + i),x])/\∀ xs,SqL K H l xs->xs[i]?=some x,
   fun i H=>∃ xs,SqL K H l xs/\xs.length<=i⟩
def OV (h:Heap) (e it l:Addr) (k i:Nat):Prop:=∃ old,IsEnum h e it ((k:Int) + i) old/\h.IsListIter it l i
theorem OC {K:PySem.W.Frag}{kx:Nat}{pos:Pos}{e:Addr} (eC:e≠it) :
  k9 P w K (.Tuple es kx pos) (IteK K l st0) [e,it] e (fun i h=>OV h e it l st0 i) where
 mem:=by simp
 obj:=fun i h st b hb=>by
  obtain⟨old,he,⟨o1,e1,c1,d1⟩⟩:=st;simp only[Rp,Rk,or_false] at hb
  rcases hb with rfl|rfl
  ·exact⟨_,he,fun v q=>by simp at q⟩
  ·exact⟨_,e1,fun v q=>by rw[d1] at q;cases q⟩
 keep:=fun i h h' st k=>by
  obtain⟨old,he,h1⟩:=st;exact⟨old,k e (by simp) _ he,h1.at fun o q=>k it (by simp) o q⟩
 item:=by
  intro X hP hw hK hc i aa s σ H E I hf st hg;subst hP hw hK;obtain⟨xs,x,q1,hx⟩:=hg;obtain⟨old,he,h1⟩:=st;obtain⟨ag,rv,pl,_⟩:=I.list q1;obtain⟨u,hu,ru⟩:=rv.get hx;have nf:∀ b∈[e,it],b∉frs X.stack:=fun b hb q=>(Rp.mp (I.stkSub b q)).elim (hf b hb).2.1 (hf b hb).2.2.1
  refine NC he h1 pl.isList (x:=u) (by simpa using hu) eC fun h' a1 a2 a3 hk=>⟨_,O,?_⟩
  refine Tz (s:={ s with heap:=h',toks:=s.toks + 1 }) a1 fun cF eN aW=>?_
  replace aW:Heap.SameBut e h' cF:=aW
  have mL:H s.heap.objs.size=none:=I.hok.fresh (QY _);have yq:=QZ he;have mT:∀ b o,b≠e->b≠it->s.heap.get? b=some o->cF.get? b=some o:=fun b o n1 n2 q=>aW.extBut b o n1 (hk b o n1 n2 q)
  have I1:Inv X aa σ (upd H s.heap.objs.size (.tup [.int ((st0:Int) + i),x])) { s with heap:=s.heap.push { cls:=.type "tuple",data:=.seq #[.int ((st0:Int) + i) s.toks,u] },toks:=s.toks + 1 }:=
   I.laid (t':=s.toks + 1) (fun b o q=>QU _ q) (QY _) ⟨by show 2<=sizeLine;decide,[.int ((st0:Int) + i) s.toks,u],.cons ⟨_,O⟩ (.cons ru .nil),⟨_,Q1 _ rfl,O,_,O⟩⟩
  have lu:∀ b∈[e,it],bw X aa (upd H s.heap.objs.size (.tup [.int ((st0:Int) + i),x])) b:=fun b hb=>by
   obtain⟨f0,r⟩:=hf b hb;refine⟨?_,r⟩;have lt:b<s.heap.objs.size:=by
    simp only[Rp,Rk,or_false] at hb
    rcases hb with rfl|rfl
    ·exact yq
    ·obtain⟨o,q,_⟩:=h1;exact QZ q
   rw[ai (Q5 lt)];exact f0
  have I2:Inv X aa σ (upd H s.heap.objs.size (.tup [.int ((st0:Int) + i),x])) { s with heap:=cF,toks:=s.toks + 1 }:=by
   have back:∀ b o,(s.heap.push { cls:=.type "tuple",data:=.seq #[.int ((st0:Int) + i) s.toks,u] }).get? b=some o->b≠e->b≠it->cF.get? b=some o:=fun b o q n1 n2=>by
    rcases SO q with⟨rfl,rfl⟩|q
    ·exact aW.extBut _ _ n1 a3
    ·exact mT b o n1 n2 q
   refine I1.slots (ch:=[e,it]) (tk:=s.toks + 1) lu (fun b o _ hc q=>?_) (fun b o hb q=>⟨o.slots,?_⟩) (fun b hb o q=>?_)
   ·simp only[Rp,Rk,or_false,not_or] at hc
    exact back b o q hc.1 hc.2
   ·exact back b o q (fun z=>nf e (by simp) (z ▸ hb)) (fun z=>nf it (by simp) (z ▸ hb))
   ·simp only[Rp,Rk,or_false] at hb
    rcases hb with rfl|rfl
    ·exact⟨_,eN⟩
    ·obtain⟨o,q,_⟩:=a2;exact⟨_,aW.extBut _ _ eC.symm q⟩
  refine⟨.ref s.heap.objs.size,_,I2,O,⟨_,x,O,mL,O,fun Cv q=>by rw[I.list_inj q q1];exact hx⟩,?_,fun b hb=>(lu b hb).1⟩;exact⟨u,by rw[show((st0:Int) + ((i + 1:Nat):Int))=(st0:Int) + i + 1 by omega];exact eN,a2.extBut aW.extBut eC.symm⟩
 done:=by
  intro X hP hw hK hc i aa s σ H E I hf st hg;subst hP hw hK;obtain⟨xs,q1,aj⟩:=hg;obtain⟨old,he,h1⟩:=st;obtain⟨ag,rv,pl,_⟩:=I.list q1;have e1:=rv.length;have nf:∀ b∈[e,it],b∉frs X.stack:=fun b hb q=>(Rp.mp (I.stkSub b q)).elim (hf b hb).2.1 (hf b hb).2.2.1
  refine O2 I.hd he h1 pl.isList (by simp;omega) fun h' hk=>⟨O,?_⟩
  refine I.slot0 (ch:=[e,it]) (tk:=s.toks) hf (fun b o _ hc q=>?_) (fun b o hb q=>⟨o.slots,?_⟩)
  ·simp only[Rp,Rk,or_false,not_or] at hc
   exact hk b o hc.2 q
  ·exact hk b o (fun z=>nf it (by simp) (z ▸ hb)) q
 self:=fun _ _ s _ _ st h=>by
  obtain⟨old,he,_⟩:=st;exact S6 he h
def iEnumK (K:PySem.W.Frag) (ta:TA) (tb:TE):TI:=fun σ H R=>ta σ H fun vs H1=>tb σ H1 fun y H2=>∃ l,∃ k:Nat,vs=[.ref l]/\y=.int k/\k<2 ^ 62/\(∃ xs,SqL K H2 l xs)/\R (IteK K l k) H2
theorem M4 {kx:Nat}{p pos bE:Pos}{a b:Expr}{tb:TE} (hg:Gl X "enumerate") (hm:X.mg "enumerate"=none) (ha:PA X [a] ta) (hb:PE X b tb)
  (hs:backTo pos (starEach [a] X.env)=(false,eval a X.env)::backTo pos (starEach [] X.env):=by rfl) (hp:(backTo pos (starEach [] X.env)).any (·.1)=false:=by rfl)
  (rG:(backToKw pos (keywordEach [⟨some "start",b,bE⟩] X.env)).all (·.1.isSome)=true:=by rfl) (rj:(backToKw pos (keywordEach [⟨some "start",b,bE⟩] X.env)).any (·.1.isNone)=false:=by rfl)
  (mU:∀ u:Value,((backToKw pos (keywordEach [⟨some "start",b,bE⟩] X.env)).filterMap (·.1)).zip [u]=[(Str.ofString "start",u)]:=by intro u;rfl) :
  PI X (.Tuple es kx tpos) (.Call (.Name "enumerate" p) [a] [⟨some "start",b,bE⟩] pos) (iEnumK X.K ta tb):=by
 intro aa s σ H R I h;refine RP (g8 I hg hm boot_enumerate ?_);have z:=ha pos aa s σ H _ I h;rw[hs] at z ⊢;refine LL hp rj rG (thn z fun us s1=>L2.ex5 fun vs H1 I1 r1 q1=>?_);refine PyProof.Rows.kws_cons (thn (hb aa s1 σ H1 _ I1 q1) fun u s2 ⟨y,H2,I2,r2,l,k,e1,e2,hk,⟨xs,hx⟩,q⟩=>PyProof.Rows.kws_nil ?_);rw[mU];subst e1 e2;obtain⟨v,rfl,rv⟩:=gE r1;obtain rfl:v=Value.ref l:=rv;obtain⟨t,rfl⟩:=r2;obtain⟨ag,rx,pl,_⟩:=I2.list hx;refine Ms hk pl.isList fun h' b1 b2 ko=>?_
 refine S6 (s:={ s2 with heap:=h' }) b1 ?_;refine⟨s2.heap.objs.size + 1,[s2.heap.objs.size + 1,s2.heap.objs.size],_,_,H2,O,I2.kept (t':=s2.toks) ko,OC (st0:=k) (RV (RW _)),⟨_,by rw[show((k:Int) + ((0:Nat):Int))=k by omega];exact b1,b2⟩,fun b hb=>?_,q⟩;have ge:s2.heap.objs.size<=b:=by
  simp only[Rp,Rk,or_false] at hb
  rcases hb with rfl|rfl
  ·exact RA _ _
  ·exact QY _
 exact I2.fpOk ge (I2.hok.fresh ge)
theorem MO {K:PySem.W.Frag}{xs:List V}{D:gy} (Pv:Nat->St->Hp->Prop) (h0:Pv 0 σ H) (hl:∀ i σ H,i<=xs.length->Pv i σ H->SqL K H l xs)
  (hs:∀ i x T σ H,xs[i]?=some x->H T=none->Pv i σ H->g (.ref T) σ (upd H T (.tup [.int ((st0:Int) + i),x])) fun σ2 H2=>tb { D with nx:=Pv (i + 1),ct:=Pv (i + 1),bk:=D.nx } σ2 H2) (hd:∀ σ H,Pv xs.length σ H->D.nx σ H):qk (IteK K l st0) D g tb σ H:=
 wk_ (n:=xs.length) Pv h0 (fun i σ H hi p=>⟨fun h=>⟨xs,xs[i],hl i σ H hi p,by simp[h]⟩,fun h=>⟨xs,hl i σ H hi p,h⟩⟩) (fun i v σ H H' hi p y=>by
 obtain⟨T,x,rfl,hT,rfl,hx⟩:=y;exact hs i x T σ H (hx xs (hl i σ H (RS hi) p)) hT p) hd
end
def alike (c:Int) (l:List Keyed):List Keyed:=l.filter fun p=>numOf p.1 == c
structure Dn (U0:List Keyed) (x Cr:Nat) (l U B C O1:List Keyed) (b:Int):Prop where
 arr:l=U++B++C
 org:U0=O1++B++C
 len:U.length + B.length=x
 lb:B.length=Cr + 1
 fil:∀ c,alike c U=(alike c O1).reverse
 eqb:∀ p∈B,numOf p.1=b
 gt:∀ p∈U,b<numOf p.1
 dec:U.Pairwise fun p q=>numOf q.1<=numOf p.1
section
variable {U0 U B C O1:List Keyed}{x Cr:Nat}{b:Int}{xs:Array Keyed}{p:Keyed}
end
section
variable {Ar:Around}{a₀:Array Keyed}{U0:List Keyed}
end
section
variable {pos:Pos}{c P:Addr}
abbrev kO (X:Cx):Str:=X.env.qual++"<lambda>"
def ve (X:Cx) (scope:Scope) (params:Arguments) (body:Expr) (pm:Value) (c':Addr) (fP:Value):Obj:=
 PySem.W.kla_obj "<lambda>" (kO X) params body scope (dz X.env.cells scope.names []) pm c' fP
def ue (H:Hp) (c' P:Addr) (qual:Str):Prop:=∃ oc vs t,H c'=some (.frz oc (.own P))/\oc.data=.fields vs/\vs[1]?=some (.str qual t)
theorem ue.rec {c' P:Addr} (x:ue H c' P qual) (k:HOk prog w H h):h.CodeRec (.ref c') qual:=by
 obtain⟨oc,vs,t,e1,e2,e3⟩:=x;obtain⟨z,_⟩:=k c' _ e1;exact⟨c',oc,vs,t,O,z,e2,e3⟩
theorem P1 {Q:Value->Shared->Prop} (I:Inv X aa σ H s) (gH:X.env.code=.ref c) (hc:PySem.W.codeHdIn X.K c P=true) (hP:H P=some (.tbl pos (kO X)))
  (ok:dL X.env.scope scope X.N N cap=true) (nY:defaultsOf params X.env=([],[]))
  (h:∀ f c' pm fP H' s',Inv X aa σ H' s'->ae H H'->s.heap.objs.size<=f->H' f=none->s'.heap.get? f=some (ve X scope params body pm c' fP)->ue H' c' P (kO X)->Q (.ref f) s') :
  wpAny M A (eval (.Lambda params body scope pos) X.env) Q E s:=by
 have tb:=I.hok P _ hP;obtain⟨bm,ob,b1,b2,b3,b4,b5,b6⟩:=I.ok.mod.bmain;have hg:s.heap.Ns mainGlobals X.mg:=I.ok.mod.glob.keeps I.bk;have cl:=Ah (I.clos ok);have IE:mainGlobals≠P:=fun z=>by
  obtain⟨o,_,_,e,_⟩:=I.ok.mod.glob;have:=(I.bs _ _ e).2;rw[z,hP] at this;cases this
 have KY:bm≠P:=fun z=>by
  have:=(I.bs _ _ b3).2;rw[z,hP] at this;cases this
 have HE:bm≠mainGlobals:=fun z=>by
  obtain⟨o,es,ep,e,hd,_⟩:=I.ok.mod.glob;rw[z,e] at b3;cases b3;rw[hd] at b6;cases b6
 have C:=PySem.W.codeHd_of_K I.kIn hc;have hb:s.heap.BuiltinsAt X.mg P:=⟨bm,ob,b1,b2,HE,KY,I.bk _ _ b3,b4,b5,b6⟩;refine PySem.W.kla_eval nY ?_;rcases tb with tb|⟨c',oc,vs,t,e1,e2,e3,tb⟩
 ·refine PySem.W.kla_makeFunction cl I.ok.glob hg gH C tb trivial O IE hb fun c' fP h' tk hx ib aY yt iZ=>?_
  obtain⟨c₂,oc,vs,t,q,qF,hd,hv⟩:=yt;cases q
  have hn:H c'=none:=I.hok.fresh ib;have QD:c'≠P:=fun z=>by rw[z,hP] at hn;cases hn
  have nP:∀ b,H b=none->b≠P:=fun b n z=>by rw[z,hP] at n;cases n
  have k:∀ (o:Obj) b u,b≠P->s.heap.get? b=some u->(h'.push o).get? b=some u:=fun o b u n q=>QU _ (hx b u n q)
  have qt:∀ o:Obj,(h'.push o).get? P=some (PySem.W.tabObj (#[]++#[rawInt pos.line,rawInt pos.col,.ref c'])):=fun o=>QU _ iZ
  have nX:∀ b u,H b=some u->upd H c' (.frz oc (.own P)) b=some u:=fun b u q=>by rw[ai (ap q hn)];exact q
  have un:∀ o:Obj,Un X.fs [] H (upd H c' (.frz oc (.own P))) s.heap (h'.push o):=fun o=>by
   refine⟨fun b u q n _ _=>k o b u (nP b n) q,fun b u q n _ _=>⟨u.slots,k o b u (nP b n) q⟩,fun b u q n _=>?_,fun b u q _=>?_,fun b xs q=>nX _ _ q,fun b u v q=>nX _ _ q,fun b p r q=>nX _ _ q⟩
   ·rw[ai (Q5 (Ri (QZ q) ib))];exact n
   ·by_cases z:b=P
    ·exact⟨_,z ▸ qt o⟩
    ·exact⟨u,k o b u z q⟩
  have hok:∀ o:Obj,HOk X.prog X.w (upd H c' (.frz oc (.own P))) (h'.push o):=fun o b u q=>by
   by_cases z:b=c'
   ·subst z
    rw[ah] at q;cases q
    exact⟨QU _ qF,_,QU _ qF⟩
   ·rw[ai z] at q
    by_cases z2:b=P
    ·subst z2
     rw[hP] at q;cases q
     exact .inr ⟨c',oc,vs,t,ah,hd,hv,qt o⟩
    ·refine(I.hok b u q).stay (fun d v hd q'=>k o d v ?_ q') (fun d r=>nX _ _ r) (fun d xs r=>nX _ _ r) fun d ob r=>nX _ _ r
     rcases hd with hd|hd
     ·rw[hd];exact z2
     ·intro z3
      rw[z3,hP] at hd;cases hd
  have hsz:s.heap.objs.size<=h'.objs.size:=Rz ib (RS aY);refine h _ c' _ fP (upd H c' (.frz oc (.own P))) _ (I.un (t':=tk) (un _) (hok _)) (fun b u q=>nX b u q) hsz ?_ (Q1 _ O) ⟨oc,vs,t,ah,hd,hv⟩;rw[ai (RV aY)];exact I.hok.fresh hsz
 ·have ht:TriplesOk (#[rawInt pos.line,rawInt pos.col,Value.ref c']:Array Value).toList:=by simp[TriplesOk,rawInt]
  have hf:codeAmong pos (#[rawInt pos.line,rawInt pos.col,Value.ref c']:Array Value).toList=some (.ref c'):=by simp[codeAmong,rawInt]
  refine PySem.W.kla_makeFunctionHit cl I.ok.glob hg gH C tb ht hf hb fun fP h' tk hk hsz=>?_
  exact h _ c' _ fP H _ (I.kept (t':=tk) fun b u q=>QU _ (hk b u q)) (ae.refl H) hsz (I.hok.fresh hsz) (Q1 _ O) ⟨oc,vs,t,e1,e2,e3⟩
abbrev sW (X:Cx) (scope:Scope) (f:Addr) (cd:Value) (L:Addr):Env:=PySem.W.envX (kO X) scope L f cd (dz X.env.cells scope.names [])
def tN (X:Cx) (scope:Scope) (N:List Str) (f:Addr) (cd:Value) (A:Around) (s:Shared) (H:Hp):Cx:=
 { X with A:=A.deeper (sW X scope f cd s.heap.objs.size),N:=N,s₀:=s,H₀:=H,env:=sW X scope f cd s.heap.objs.size,outer:=X.stack,stack:=sW X scope f cd s.heap.objs.size::X.stack,ex:=[],fn:=fun _=>false,calm:=true,pn:=[],xe:=fun _ _=>False }
abbrev lamS (cap:List (Option Nat)) (σ:St) (v:V):St:=(gZ cap σ).set 0 (some v)
theorem M7 {tk:Nat} (I:Inv X aa σ H s) (hA:A.frames=X.A.frames) (hh:A.handled=X.A.handled) (ok:dL X.env.scope scope X.N N cap=true)
  (hx:N[0]?=some x) (hl:scope.names.lookup x=some .local) (rH:cap[0]?=some none) (rv:av v u)
  (hn:h₁.Ns s.heap.objs.size (fun y=>[(x,u)].reverse.lookup y)) (hs:Heap.SameBut s.heap.objs.size (s.heap.push fo) h₁) :
  Inv (tN X scope N f cd A s H) [] (lamS cap σ v) H { s with heap:=h₁,toks:=tk }:=by
 have ly:=ok;simp only[dL,RC,Sg,beq_iff_eq] at ok
 obtain⟨⟨⟨⟨a9,bu⟩,_⟩,_⟩,eZ⟩:=ok;have cl:=I.clos ly;have old:∀ b o,s.heap.get? b=some o->h₁.get? b=some o:=fun b o e=>hs.extBut b o (Q5 (QZ e)) (QU _ e)
 have aL:∀ x c,(dz X.env.cells scope.names []).lookup x=some c->X.env.cells.lookup x=some c:=fun x c e=>by
  rcases ub cl e with q|q
  ·simp at q
  ·exact q
 have nO:∀ b:Addr,b∉(tN X scope N f cd A s H).ex:=fun b z=>absurd (show b∈([]:List Addr) from z) (by simp)
 have hd:iK (A.deeper (sW X scope f cd s.heap.objs.size)) H:=by
  rcases I.hdAt with z|⟨a,cs,z,r⟩
  ·exact .inl (hh.trans z)
  ·exact .inr ⟨a,cs,hh.trans z,r⟩
 refine⟨⟨I.ok.mod,a9,O,O,QY _,fun y z c h1 h2=>I.ok.inj y z c (aL y c h1) (aL z c h2),fun y hy=>?_,fun y c hf _=>Bool.noConfusion hf,hd,Around.frames_deeper (hA.trans I.ok.frames),.inr ⟨O,O⟩,fun b z=>absurd z (nO b),
   I.bs,Rz I.ok.bsz I.sz,fun b _ _=>nO b,fun b z=>absurd z (nO b),I.stack,I.stkFree⟩,
  rfl,I.bare,Un.kept old,⟨_,hn,fun i y v' h1 h2 h3=>?_⟩,fun y c e=>?_,I.hok.fresh (QY _),fun y c e=>I.freeC y c (aL y c e),fun p hp=>absurd (show p∈([]:List (Addr×Obj)) from hp) (by simp),I.hok.kept old,?_⟩
 ·have hy:scope.names.lookup y=some .cell\/scope.names.lookup y=some .free:=hy
  rcases hy with hy|hy
  ·exact absurd (show(NameKind.cell != NameKind.cell)=true from bu _ (PySem.mem_of_lookup hy)) (by decide)
  ·exact Option.isSome_iff_exists.mp (tQ (.inl (PySem.mem_of_lookup hy)))
 ·have h1:N[i]?=some y:=h1
  by_cases hi:i=0
  ·subst hi
   rw[hx] at h1;cases h1
   have aj:0<(gZ cap σ).length:=by
    unfold gZ;rw[QT];exact(List.getElem?_eq_some_iff.mp rH).1
   have h2:((gZ cap σ).set 0 (some v))[0]?=some (some v'):=h2;rw[S8 aj] at h2;cases h2
   refine⟨u,rv,.inl ⟨hl,?_⟩⟩;show(([(x,u)]:List (Str×Value)).lookup x)=some u;rw[Sf,beq_self_eq_true]
  ·have h2:((gZ cap σ).set 0 (some v))[i]?=some (some v'):=h2
   rw[Tc (Ne.symm hi)] at h2;have hj:∃ j,cap[i]?=some (some j)/\σ[j]?=some (some v'):=by
    unfold gZ at h2;rw[Q4] at h2;cases e:cap[i]? with
    | none=>rw[e] at h2;cases h2
    | some o=>
     rw[e] at h2;cases o with
     | none=>cases h2
     | some j=>
      refine⟨j,O,?_⟩;have fH:(σ[j]?).join=some v':=Option.some.inj h2;cases e2:σ[j]? with
      | none=>rw[e2] at fH;cases fH
      | some o2=>rw[e2] at fH;rw[show o2=some v' from fH]
   obtain⟨j,hj,hv⟩:=hj;obtain⟨hX,m9⟩:=wb eZ hj h1;have i6:(y,NameKind.free)∈scope.names:=PySem.mem_of_lookup m9;have rZ:=ly;simp only[dL,RC,Sg] at rZ
   have h':isCF (X.env.scope.names.lookup y)=true:=by simpa using rZ.1.2 _ i6
   have hk:X.env.scope.names.lookup y=some .cell\/X.env.scope.names.lookup y=some .free:=by
    cases e:X.env.scope.names.lookup y with
    | none=>rw[e] at h';cases h'
    | some k=>
     rw[e] at h';cases k <;> first|exact .inl rfl|exact .inr rfl|cases h'
   obtain⟨m,_,KW⟩:=I.loc;obtain⟨u',ru,lk⟩:=KW j y v' hX hv (hk.elim (fun q=>.inr (.inl q)) fun q=>.inr (.inr q));refine⟨u',ru,.inr ⟨.inr m9,?_⟩⟩;rcases lk with⟨q,_⟩|⟨_,c,hc,o,ho,iA⟩
   ·have q:X.env.scope.names.lookup y=some .local:=q
    rcases hk with z|z <;> rw[q] at z <;> cases z
   ·obtain⟨c2,fX⟩:=Option.isSome_iff_exists.mp (tQ (cells:=X.env.cells) (acc:=[]) (.inl i6))
    have:=aL y c2 fX;rw[hc] at this;cases this
    exact⟨c,fX,o,old c o ho,iA⟩
 ·obtain⟨w',o,ho,iA⟩:=I.cell y c (aL y c e)
  exact⟨w',o,old c o ho,iA⟩
 ·show((gZ cap σ).set 0 (some v)).length=N.length
  rw[RD];unfold gZ;rw[QT];exact wd eZ
theorem OU {c':Addr}{fP:Value}{Q:VK} (I:Inv X aa σ H s) (hA:A.frames=X.A.frames) (hh:A.handled=X.A.handled) (rP:A.depth<recursionLimit)
  (ho:s.heap.get? f=some (ve X scope params body pm c' fP)) (j7:ue H c' P (kO X)) (ok:dL X.env.scope scope X.N N cap=true) (hx:N[0]?=some x) (hl:scope.names.lookup x=some .local) (rH:cap[0]?=some none)
  (eU:bindArgs (PySem.W.kla_fn "<lambda>" (kO X) params body scope (dz X.env.cells scope.names []) pm (.ref c') fP) ⟨[u],[]⟩=pure [(x,u)]) (zo:scope.isCoroutine=false) (oh:scope.isGenerator=false) (rv:av v u)
  (he:PE (tN X scope N f (.ref c') A s H) body te) (ht:te (lamS cap σ v) H Q) :
  codeAny (model X.prog X.w) A (.call (.ref f) ⟨[u],[]⟩) (fun r s'=>∃ u',r=.ok (.ret u')/\CE X.stack X.prog X.w H s Q u' s') s:=by
 have ly:=ok;simp only[dL,RC,Sg,beq_iff_eq] at ly
 obtain⟨⟨⟨⟨a9,bu⟩,_⟩,_⟩,_⟩:=ly;have wE:s.heap.NoLimit:=I.ok.mod.nolimit.keeps I.bk;refine PySem.W.kla_callFunE rP ho O zo oh O (j7.rec I.hok) ?_;rw[eU];refine QW (Uf (fun y hy=>by simpa using bu y hy) (fun y hy=>by rw[S1.mp hy];exact hl) (fun h₁ nK m5=>⟨wE.fresh _ m5,?_⟩) a9);show codeAny _ _ (.expr body (sW X scope f (.ref c') s.heap.objs.size)) _ _;have J:Inv (tN X scope N f (.ref c') A s H) [] (lamS cap σ v) H { s with heap:=h₁,toks:=s.toks + [(x,u)].length }:=M7 I hA hh ok hx hl rH rv nK m5;refine PySem.W.kla_codeExpr (RJ (he [] _ _ H Q J ht) (fun w' s' hq=>?_) fun _ _ z=>z.elim);obtain⟨v',H',J',r',q'⟩:=hq;exact⟨w',O,v',H',J'.os,J'.bare,J'.base,J'.hok,r',q'⟩
end
section
theorem Inv.repin {o':Obj} (I:Inv X (aa++[(kS,o)]) σ H s) (fp:bw X aa H1 kS) (k:∀ b u,b≠kS->s.heap.get? b=some u->h'.get? b=some u) (e:h'.get? kS=some o') (hd:∀ v,o'.data≠.cell v) :
  Inv X (aa++[(kS,o')]) σ H { s with heap:=h',toks:=t' }:=by
 obtain⟨_,f1,f2,f3,f4,f5⟩:=fp;have pk:=I.pin (kS,o) (Q8 _ (Q8 _ (S1.mpr O)));have I0:Inv X aa σ H s:=I.pins_of fun p hp=>I.pin p (Q8 _ (Ru _ hp))
 have I1:=I0.turned (t':=t') k pk.2.1 f1 f3 f4 f5;refine I1.pins_of fun p hp=>?_
 rcases T0.mp hp with z|z
 ·exact I1.pin p (Q8 _ z)
 ·rw[S1.mp z]
  exact⟨e,pk.2.1,f1,f2,hd⟩
def vm (X:Cx) (A:Around) (f:Addr) (fo:Obj) (σ:St) (H1:Hp) (key:V->Int) (xs:List V):Prop:=
 ∀ (x:V) (u:Value) (aa:List (Addr×Obj)) (Hi:Hp) (si:Shared),x∈xs->av x u->Inv X aa σ Hi si->ae H1 Hi->si.heap.get? f=some fo ->
  wpAny (model X.prog X.w) A (call (.ref f) [u]) (EP X aa σ fun k H3=>k=.int (key x)/\ae Hi H3) (fun _ _=>False) si
variable {P:PySem.Fin->Shared->Prop}{xs:List V}{e1:Nat}
end
def vp (K:PySem.W.Frag) (f:Addr):Option Value:=match K.lookup f with
 | some ⟨_,_,.func fd,_⟩=>some fd.code
 | _=>none
theorem Lv {K:PySem.W.Frag}{c:Addr}{sl:Array (Option Value)} (l:K.lookup f=some ⟨oc,od,.func fd,sl⟩) (h:fd.code=.ref c):vp K f=some (.ref c):=by
 unfold vp;rw[l];exact congrArg some h
structure AI (K:PySem.W.Frag) (f P:Addr):Prop where
 ex:∃ c,vp K f=some (.ref c)/\PySem.W.codeHdIn K c P=true
 no:K.lookup P=none
structure Ay (K:PySem.W.Frag) (mg:Str->Option Value) (x:Str) (P:Addr):Prop where
 ex:∃ f,mg x=some (.ref f)/\AI K f P
section
variable {K:PySem.W.Frag}
theorem fq.okL {TP:Addr}{k:Nat} (F:fq K x qual st f fd) (L:AI K f TP) (S:aZ N ps (aC st)) (len:∀ vs H Q E,sp vs H Q E->vs.length=ps.length)
  (cT:∀ (c:Addr) (A:Around) (outer:List Env) (s:Shared) (H:Hp) (vs:List V) (Q:VK) (E:XK),PySem.W.codeHdIn K c TP=true->bj k (A.deeper (envOfC qual (aC st) s.heap.objs.size f (.ref c)))->sp vs H Q E ->
   ∃ t,PSs (jn CX0 P w K mg base N qual (aC st) f (.ref c) A outer s H E).nox (md st) t/\t { nx:=fun _ H'=>Q .non H',rt:=Q } (start N vs) H):cM P w K mg base CX0 (k + 1) f fd ps sp:=by
 obtain⟨oc,od,dV,kV,bL,pm,an,aA,ct,dI,rfl,lk,eS⟩:=F.ex;obtain⟨c,e1,e2⟩:=L.ex;have e:aA=.ref c:=by
  unfold vp at e1;rw[lk] at e1;exact Option.some.inj e1
 subst e;refine A8 lk eS S len fun A outer s H vs Q E hr iC=>?_
 obtain⟨t,h,q⟩:=cT c A outer s H vs Q E e2 hr iC;exact⟨t,h.nox,q⟩
theorem Def.calL {k:Nat}{TP:Addr} (D:Def K mg x st ps aP) (L:Ay K mg x TP) (h:∀ f fd,fq K x x st f fd->AI K f TP->cM P w K mg base CX k f fd ps sp):Cal P w K mg base CX k x ps aP sp:=by
 obtain⟨f,fd,ds,F,e,r⟩:=D.ex;obtain⟨f',e',l⟩:=L.ex;rw[e] at e';cases e'
 exact⟨f,fd,ds,h f fd F l,e,r⟩
end
abbrev Tab:=Addr×Pos×Str
def ug (ts:List Tab) (H:Hp):Prop:=(∀ t∈ts,H t.1=some (.tbl t.2.1 t.2.2))/\∀ b u,H b=some u->(∃ o xs,u=.frz o (.lst xs))\/∃ t∈ts,b=t.1/\u=.tbl t.2.1 t.2.2
def o9:List Tab->Hp->Hp
 | [],H=>H
 | t::ts,H=>upd (o9 ts H) t.1 (.tbl t.2.1 t.2.2)
theorem AD:∀ {ts:List Tab}{H:Hp},(ts.map (·.1)).Nodup->∀ t∈ts,o9 ts H t.1=some (.tbl t.2.1 t.2.2)
 | [],_,_,t,h=>by simp at h
 | q::ts,H,nd,t,h=>by
  rcases Rp.mp h with z|z
  ·rw[z];exact ah
  ·have n:t.1≠q.1:=fun y=>(SX.mp (show(q.1::ts.map (·.1)).Nodup from nd)).1 (List.mem_map.mpr ⟨t,z,y⟩)
   show upd _ _ _ _=_;rw[ai n];exact AD (SX.mp nd).2 t z
theorem A3:∀ {ts:List Tab}{H:Hp}{b:Addr}{u:HO},o9 ts H b=some u->H b=some u\/∃ t∈ts,b=t.1/\u=.tbl t.2.1 t.2.2
 | [],_,_,_,h=>.inl h
 | q::ts,H,b,u,h=>by
  have h:upd (o9 ts H) q.1 (.tbl q.2.1 q.2.2) b=some u:=h;by_cases z:b=q.1
  ·rw[z,ah] at h
   exact .inr ⟨q,Q9,z,(Option.some.inj h).symm⟩
  ·rw[ai z] at h
   rcases A3 h with y|⟨t,h1,h2⟩
   ·exact .inl y
   ·exact .inr ⟨t,Q6 _ h1,h2⟩
theorem Eg:∀ {ts:List Tab}{H:Hp}{b:Addr},(∀ t∈ts,b≠t.1)->o9 ts H b=H b
 | [],_,_,_=>rfl
 | q::ts,H,b,h=>by
  show upd _ _ _ _=_;rw[ai (h q Q9)];exact Eg fun t ht=>h t (Q6 _ ht)
theorem Ou {K:PySem.W.Frag}{mb:Str->Option Value}{k:Nat}{fa:Addr}{s₁:Shared}{ts:List Tab}
  (KX:K.In s₁.heap) (nK:s₁.heap.Ns mainGlobals mg) (hb:s₁.heap.Ns builtinsNs mb) (Kw:∀ x:Str,x≠"__name__"->mb x=bootBuiltins x) (xb:s₁.heap.NoLimit)
  (wK:∃ bm ob,mg "__builtins__"=some (.ref bm)/\bm≠builtinsNs/\s₁.heap.get? bm=some ob/\ob.cls=.type "module"/\ob.dict=some builtinsNs/\ob.data=.plain) (hg:s₁.gens=#[])
  (ha:s₁.heap.get? a=some { cls:=.type "list",data:=.seq vs.toArray }) (hi:IntsAre vs ns) (hl:ns.length<=sizeLine) (hr:bj k callerA)
  (nd:(ts.map (·.1)).Nodup) (qN:∀ t∈ts,s₁.heap.get? t.1=some (PySem.W.tabObj #[])/\(∃ c,PySem.W.codeHdIn K c t.1=true)/\K.lookup t.1=none)
  (F:∀ base:Heap,K.In base->base.Ns mainGlobals mg->cM P w K mg base CX k fa fd [x] sp) (eU:∀ (s:Shared) (u:Value),BindsTo s fd ⟨[u],[]⟩ [(x,u)])
  (iC:∀ H:Hp,ug ts H->SqL K H a (ns.map V.int)->sp [.ref a] H (fun v _=>v=.bl true) fun _ _ _=>False)
  (Ki:∀ H e s',CX [] H s₁ (fun _ _ _=>False) e s'->False) :
  codeAny (model P w) callerA (.call (.ref fa) ⟨[.ref a],[]⟩) (fun r s'=>r=.ok (.ret (.bool true))/\OldK s₁.heap s'.heap/\s'.os=s₁.os/\AllBare s'.gens) s₁:=by
 have rv:=Fm hi;have yM:=hi.length;have qG:∀ H:Hp,(∀ t∈ts,H t.1=some (.tbl t.2.1 t.2.2))->(∀ b u,H b=some u->(b=a/\K.lookup a=none/\u=.frz { cls:=.type "list",data:=.seq vs.toArray } (.lst (ns.map V.int)))\/∃ t∈ts,b=t.1/\u=.tbl t.2.1 t.2.2)->SqL K H a (ns.map V.int) ->
   codeAny (model P w) callerA (.call (.ref fa) ⟨[.ref a],[]⟩) (fun r s'=>r=.ok (.ret (.bool true))/\OldK s₁.heap s'.heap/\s'.os=s₁.os/\AllBare s'.gens) s₁:=by
  intro H h1 h2 hS;have hO:ug ts H:=⟨h1,fun b u q=>(h2 b u q).elim (fun z=>.inl ⟨_,_,z.2.2⟩) .inr⟩;have hok:HOk P w H s₁.heap:=fun b u q=>by
   rcases h2 b u q with⟨rfl,_,rfl⟩|⟨t,ht,rfl,rfl⟩
   ·exact⟨ha,by rw[QT];exact hl,vs,_,rv,ha⟩
   ·exact .inl (qN t ht).1
  have free:∀ {b:Addr}{o:Obj},s₁.heap.get? b=some o->(∀ xs n,o.data≠.seq xs n)->(∀ xs,o.data≠.fields xs)->H b=none:=fun {b o} e n1 n2=>by
   cases q:H b with
   | none=>rfl
   | some u=>
    rcases h2 b u q with⟨rfl,_,_⟩|⟨t,ht,rfl,_⟩
    ·rw[ha] at e;cases e
     exact(n1 _ _ O).elim
    ·rw[(qN t ht).1] at e;cases e
     exact(n2 _ O).elim
  have uY:∀ {b:Addr}{m:Str->Option Value},s₁.heap.Ns b m->(mj s₁.heap H).Ns b m:=fun {b m} ⟨o,es,ep,e,d,r⟩=>⟨o,es,ep,A5 e (free e (by rw[d];intro _ _ z;cases z) (by rw[d];intro _ z;cases z)),d,r⟩
  have BQ:K.In (mj s₁.heap H):=fun b o e=>A5 (KX b o e) (by
   cases q:H b with
   | none=>rfl
   | some u=>
    rcases h2 b u q with⟨rfl,z,_⟩|⟨t,ht,rfl,_⟩
    ·rw[z] at e;cases e
    ·rw[(qN t ht).2.2] at e;cases e)
  have hM:Mod K mg (mj s₁.heap H):=⟨BQ,uY nK,⟨mb,uY hb,Kw⟩,let ⟨mc,y1,y2⟩:=xb;⟨mc,uY y1,y2⟩,by
   obtain⟨bm,ob,a1,a2,a3,a4,a5,a6⟩:=wK;exact⟨bm,ob,a1,a2,A5 a3 (free a3 (by rw[a6];intro _ _ z;cases z) (by rw[a6];intro _ z;cases z)),a4,a5,a6⟩⟩
  have e0:oN P w K mg (mj s₁.heap H) callerA [] s₁ H:=⟨O,hM,fun b o e=>NB e,S0 (OZ _ _),trivial,fun b hb=>absurd (show b∈([]:List Addr) from hb) (by simp),hok,.of_eq hg,.inl rfl⟩;refine codeAny_mono ((F _ BQ (uY nK)).run callerA [] s₁ H ⟨[.ref a],[]⟩ [.ref a] [.ref a] _ _ hr e0 (eU s₁ (.ref a)) (.cons O .nil) (iC H hO hS)) fun r s' h=>?_
  cases r with
  | error e=>exact(Ki H e s' h).elim
  | ok fl=>
   cases fl with
   | next=>exact False.elim h
   | brk=>exact False.elim h
   | cont=>exact False.elim h
   | ret u=>
    obtain⟨v,H',os,bare,un,so,r',q⟩:=h;have q':v=.bl true:=q;subst q';obtain rfl:u=Value.bool true:=r';have no:∀ b:Addr,b∉frs []:=fun b z=>absurd (show b∈([]:List Addr) from z) (by simp)
    refine⟨O,⟨fun b o e=>?_,fun b o e=>un.there b o e (by simp)⟩,os,bare⟩;cases q:H b with
    | none=>exact .inl (un.keep b o e q (no b) (by simp))
    | some u=>
     rcases h2 b u q with⟨rfl,_,rfl⟩|⟨t,ht,rfl,rfl⟩
     ·obtain⟨y1,_⟩:=hok _ _ q
      obtain⟨y2,_⟩:=so _ _ (un.frzs _ _ _ q);rw[e] at y1;cases y1
      exact .inl y2
     ·obtain⟨g1,⟨c,g2⟩,_⟩:=qN t ht
      rw[e] at g1;cases g1
      rcases so _ _ (un.tbls _ _ _ q) with y|⟨c',oc,xs,tt,_,_,_,y⟩
      ·exact .inl y
      ·exact .inr (.inl ⟨((PySem.W.codeHd_of_K KX g2).tab e).isCodeTable,O,#[],#[rawInt t.2.1.line,rawInt t.2.1.col,.ref c'],O,y⟩)
 have apart:∀ t∈ts,a≠t.1:=fun t ht z=>by
  have y:=(qN t ht).1;rw[<- z,ha] at y;cases y
 cases hk:K.lookup a with
 | some o=>
  have e:=KX a o hk;rw[ha] at e;cases e
  refine qG (o9 ts fun _=>none) (AD nd) (fun b u q=>.inr ((A3 q).elim (fun z=>by cases z) id)) (.inr ⟨_,vs.toArray,_,hk,rfl,rfl,rfl,by rw[Rc,yM];exact hl,by simpa using rv⟩)
 | none=>
  refine qG (o9 ts (upd (fun _=>none) a (.frz { cls:=.type "list",data:=.seq vs.toArray } (.lst (ns.map V.int))))) (AD nd) (fun b u q=>?_) (.inl (.inr ⟨_,by rw[Eg apart];exact ah⟩));rcases A3 q with z|z
  ·by_cases y:b=a
   ·rw[y,ah] at z
    exact .inl ⟨y,hk,(Option.some.inj z).symm⟩
   ·rw[ai y] at z;cases z
  ·exact .inr z
theorem zlk {l:PySem.W.OpenLaw}{k:Nat}{dB:List Str}{XP:(Str->Option Value)->Heap->Prop}{YP:World->Heap->Prop}{d:DefRec}{K:Params->PySem.W.Frag}{TS:List Addr}
  (hn:l.most=some n) (n9:n<=sizeLine) (lU:d.params.defaults=[]) (hr:bj k callerA)
  (hY:∀ (w:World) (h:Heap),YP w h->(K w.params).In h/\∀ P∈TS,h.get? P=some (PySem.W.tabObj #[]))
  (F:∀ (w:World) (mg:Str->Option Value) (fa:Addr) (h:Heap),(K w.params).In h->h.Ns mainGlobals mg->mg d.name=some (.ref fa) ->
   ∃ (fd:FuncData) (ts:List Tab) (sp:Sp),(∀ (s:Shared) (u:Value),BindsTo s fd ⟨[u],[]⟩ [(x,u)])/\(ts.map (·.1)).Nodup/\(∀ t∈ts,t.1∈TS/\(∃ c,PySem.W.codeHdIn (K w.params) c t.1=true)/\(K w.params).lookup t.1=none) /\
    (∀ (H:Hp) (a:Addr) (ns:List Int),ns.length<=n->ug ts H->SqL (K w.params) H a (ns.map V.int)->sp [.ref a] H (fun v _=>v=.bl true) fun _ _ _=>False) /\
    ∀ base:Heap,(K w.params).In base->base.Ns mainGlobals mg->cM l.prog w (K w.params) mg base CX0 k fa fd [x] sp) :
  PySem.W.WalkO q dB XP YP l.row.toRowW d [] (fun f vs=>PySem.call f vs):=by
 refine Att.zgZ hn lU fun w s₀ s₁ mg mb fa o pm cd bL a vs ns G Y ho hd eS qH oq i0 aj hg=>?_
 obtain⟨KX,tb⟩:=hY w _ Y;obtain⟨fd,ts,sp,hb,nd,ht,iC,hF⟩:=F w mg fa _ KX G.T.g qH;exact Ou KX G.T.g G.T.b G.T.builtins G.T.nolimit G.T.bmain hg oq i0 (Rz aj n9) hr nd (fun t m=>⟨tb _ (ht t m).1,(ht t m).2⟩) hF hb (fun H hO hS=>iC H a ns aj hO hS) fun H e s' z=>z
section
variable {a b:Expr}{aT:List Expr}{ta tb:TE}{pos:Pos}
end
theorem tM {i:Int} (h1:-(2 ^ 62)<=i) (h2:i<=2 ^ 62):Builtin.Range.rangeFitsLong i=true:=by
 unfold Builtin.Range.rangeFitsLong;rw[Ro (by omega),Ro (by omega)];rfl
def la (key:V->Int) (xs:List V) (m:V):Prop:=∃ i:Nat,xs[i]?=some m/\(∀ (j:Nat) x,xs[j]?=some x->key m<=key x)/\∀ (j:Nat) x,j<i->xs[j]?=some x->key m<key x
section
theorem bw.more {b:Addr} (fp:bw X aa H a) (ne:b≠a):bw X (aa++[(b,o)]) H a:=by
 obtain⟨g0,g1,g2,g3,g4,g5⟩:=fp;refine⟨g0,g1,g2,g3,g4,fun p hp=>?_⟩;rcases T0.mp hp with z|z
 ·exact g5 p (Ru _ z)
 ·rcases T0.mp z with y|y
  ·exact g5 p (Q8 _ y)
  ·rw[S1.mp y]
   exact ne
theorem Inv.swap {p q:Addr×Obj} (I:Inv X ((aa++[p])++[q]) σ H s):Inv X ((aa++[q])++[p]) σ H s:=I.pins_of fun r hr=>I.pin r (Q8 _ (by
  simp only[T0,S1] at hr ⊢
  rcases hr with(h|h)|h
  ·exact .inl (.inl h)
  ·exact .inr h
  ·exact .inl (.inr h)))
theorem Inv.less {p:Addr×Obj} (I:Inv X (aa++[p]) σ H s):Inv X aa σ H s:=I.pins_of fun r hr=>I.pin r (Q8 _ (Ru _ hr))
variable {es:Array DictEntry}
theorem DO (I:Inv X aa σ H s) (hd:H d=some (.frz o (.dK kvs))) (ao:o.data=.dict es ep):∃ vs,KV kvs vs/\s.heap.DictAt (bJ X.prog X.w) d vs ep:=by
 obtain⟨ho,kG⟩:=I.hok _ _ hd;obtain⟨z,iz,vs,rel,⟨o',uo,uP,fO,ja,bR,r2⟩⟩:=kG;rw[ho] at fO;cases fO
 rw[ao] at bR;cases bR
 exact⟨vs,rel,⟨o,es,ho,ja,ao,r2⟩⟩
theorem Gv {k:Key}{x:V} (gT:bw X aa H1 it) (I:Inv X (aa++[(it,oI)]) σ H s) (hd:H d=some (.frz o (.dK kvs))) (ao:o.data=.dict es ep) (hit:s.heap.IsKeyIter it d j kvs.length ep) (hx:kvs[j]?=some (k,x))
  (h:∀ u h' kd,av (kV k) u->Inv X (aa++[(it,kd)]) σ H { s with heap:=h' }->h'.IsKeyIter it d (j + 1) kvs.length ep->h'.get? it=some kd->Q (some u) { s with heap:=h' }):wpAny (model X.prog X.w) A (pyNext (.ref it)) Q E s:=by
 obtain⟨vs,rel,dS⟩:=DO I hd ao;obtain⟨u,hu,ru⟩:=rel.get hx;have aj:kvs.length=vs.length:=rel.length;rw[aj] at hit;refine T5 hit dS hu fun v h' bZ bi aW=>?_
 obtain⟨oi,ei,ci,di⟩:=id bi;have I1:=I.repin (t':=s.toks) (h':=h') gT (fun b o hb e=>aW.extBut b o hb e) ei (by intro v z;rw[di] at z;cases z);exact h v h' oi (AH bZ) I1 (by rw[aj];exact bi) ei
theorem Mz  (hh:A.handled=X.A.handled) (gT:bw X aa H1 it) (I:Inv X (aa++[(it,oI)]) σ H s) (hd:H d=some (.frz o (.dK kvs))) (ao:o.data=.dict es ep) (hit:s.heap.IsKeyIter it d kvs.length kvs.length ep)
  (h:∀ h',Inv X aa σ H { s with heap:=h' }->Q none { s with heap:=h' }):wpAny (model X.prog X.w) A (pyNext (.ref it)) Q E s:=by
 obtain⟨vs,rel,dS⟩:=DO I hd ao;have aj:kvs.length=vs.length:=rel.length;obtain⟨f0,f1,f2,f3,f4,f5⟩:=gT;have hn:=(I.pin (it,oI) (Q8 _ (Q8 _ (S1.mpr O)))).2.1;rw[aj] at hit;have I0:=I.less;refine Ec (by have:=I.hd;unfold Hd at this ⊢;rw[hh];exact this) hit dS (R7 (QY _)) fun h' eb=>h h' (I0.turned (t':=s.toks) (fun b o hb e=>eb b o hb e) hn f1 f3 f4 f5)
def zbm (kvs:List (Key×V)):List V:=kvs.map fun p=>kV p.1
def Ba (key:V->Int) (xs:List V) (i n:Nat):Prop:=∀ (j:Nat) x m,j<n->xs[j]?=some x->xs[i]?=some m->key m<=key x/\(j<i->key m<key x)
theorem N7 (hh:A.handled=X.A.handled) (kr:vm X A.in1 f fo σ H1 key (zbm kvs)) (hf:(f,fo)∈aa) (hd:H1 d=some (.frz o (.dK kvs))) (ao:o.data=.dict es ep) (gT:bw X aa H1 it) (jC:bw X aa H1 S) (ne:S≠it)
  (hR:∀ i m v H' s',(zbm kvs)[i]?=some m->av m v->Ba key (zbm kvs) i kvs.length->Inv X aa σ H' s'->ae H1 H'->R (.ok (.ret v)) s') :
  ∀ (r j i:Nat) (s:Shared) (H:Hp) (m:V) (vb:Value) (tb:Tok) (c:Nat) (oI:Obj),kvs.length - (j + 1)=r->j + 1<=kvs.length->Inv X ((aa++[(S,seqObj "list" #[vb,.int (key m) tb] c)])++[(it,oI)]) σ H s->ae H1 H->s.heap.IsKeyIter it d (j + 1) kvs.length ep ->
   (zbm kvs)[i]?=some m->av m vb->i<=j->Ba key (zbm kvs) i (j + 1)->codeAny (model X.prog X.w) A (.builtin "min.loop" ⟨[.ref it,.ref f,.ref S],[]⟩) R s:=by
 have dA:(toString "min"++toString ".loop":String)="min.loop":=by decide
 have lD:(zbm kvs).length=kvs.length:=QT _;have Il:A.in1.handled=X.A.handled:=hh;intro r
 induction r with
 | zero=>
  intro j i s H m vb tb c oI hr hj I sm hit hm rm w9 eO;have hin:j + 1=kvs.length:=by omega
  rw[hin] at hit eO;have nS:=I.pin (S,seqObj "list" #[vb,.int (key m) tb] c) (by simp);refine codeAny_builtin PySem.F.entry_min_loop ?_;rw[Around.under_plainId PySem.F.plain_min_loop _];show wpAny _ A.in1 (seqItems? (.ref S) >>= _) _ _ _;refine mJ (RG nS.1 O ?_);show wpAny _ A.in1 (tryCatch (pyNext (.ref it)) _ >>= _) _ _ _;refine mJ (RY (Mz Il (gT.more ne) I (sm _ _ hd) ao hit fun h' I1=>?_));have CZ:=I1.pin (S,seqObj "list" #[vb,.int (key m) tb] c) (by simp);have s1:=Heap.SameBut.update h' S (Obj.mapSeq fun _=>(#[]:Array Value));show wpAny _ A.in1 (updateSeq S (fun _=>#[]) >>= _) _ _ _;refine mJ ?_;refine Sa CZ.1 O (mJ (Sq (QW ?_)));obtain⟨f0,f1,f2,f3,f4,f5⟩:=jC;exact hR i m vb H _ hm rm eO (I1.less.turned (t':=s.toks) (fun b o z q=>(s1.2 b z).trans q) CZ.2.1 f1 f3 f4 f5) sm
 | succ r ih=>
  intro j i s H m vb tb c oI hr hj I sm hit hm rm w9 eO;have aY:j + 1<kvs.length:=by omega
  have nS:=I.pin (S,seqObj "list" #[vb,.int (key m) tb] c) (by simp);refine codeAny_builtin PySem.F.entry_min_loop ?_;rw[Around.under_plainId PySem.F.plain_min_loop _];show wpAny _ A.in1 (seqItems? (.ref S) >>= _) _ _ _;refine mJ (RG nS.1 O ?_);show wpAny _ A.in1 (tryCatch (pyNext (.ref it)) _ >>= _) _ _ _;obtain⟨⟨k,y⟩,hx⟩:∃ p,kvs[j + 1]?=some p:=⟨kvs[j + 1],by simp[aY]⟩;have lF:(zbm kvs)[j + 1]?=some (kV k):=by unfold zbm;rw[Q4,hx];rfl
  refine mJ (RY (Gv (gT.more ne) I (sm _ _ hd) ao hit hx fun v h' kd rv I1 bi mV=>?_));show wpAny _ A.in1 (tryCatch (holding [v] (call (.ref f) [v])) _ >>= _) _ _ _;have pf:=I1.pin (f,fo) (Q8 _ (Ru _ (Ru _ hf)));refine mJ (RY (Rn (RJ (kr (kV k) v _ H _ (Q0 lF) rv I1 sm pf.1) (fun kv s2 hq=>?_) fun _ _ z=>z.elim)));obtain⟨kk,H3,I3,rk,rfl,uU⟩:=hq;obtain⟨t2,rfl⟩:∃ t,kv=Value.int (key (kV k)) t:=rk;have qY:=I3.pin (S,seqObj "list" #[vb,.int (key m) tb] c) (by simp);have xq:=I3.pin (it,kd) (by simp);have qC:s2.heap.IsKeyIter it d (j + 1 + 1) kvs.length ep:=by
   obtain⟨o2,e2,c2,d2⟩:=bi;rw[mV] at e2;cases e2
   exact⟨_,xq.1,c2,d2⟩
  show wpAny _ A.in1 (tryCatch (holding [v,.int (key (kV k)) t2] (richCompare .Lt (.int (key (kV k)) t2) (.int (key m) tb) >>= _)) _ >>= _) _ _ _;refine mJ (RY (Rn (mJ (CmpOf.ints_lt (prog:=X.prog) (w:=X.w) (A:=A.in1) (P:=fun i v=>∃ t,v=.int (if i=0 then key m else key (kV k)) t) (fun i=>if i=0 then key m else key (kV k)) (fun i v h=>h) 1 0 _ _ _ _ _ ⟨t2,O⟩ ⟨tb,O⟩ ?_))));refine mJ (Rn (R4 ?_));refine mJ (Sq (QW ?_));show wpAny _ A.in1 (if decide (key (kV k)<key m)=true then _ else _) _ _ _;by_cases hb:key (kV k)<key m
  ·have s1:=Heap.SameBut.update s2.heap S (Obj.mapSeq fun _=>#[v,.int (key (kV k)) t2])
   rw[if_pos (Ro hb)];refine mJ ?_;refine Sa qY.1 O (mJ (Sq ?_));rw[dA];have I4:=I3.swap.repin (t':=s2.toks) (jC.more ne.symm) (fun b o z q=>(s1.2 b z).trans q) (get?_update_seq qY.1 fun _=>#[v,.int (key (kV k)) t2]) (by intro v z;cases z);refine QW ⟨plainId_quiet PySem.F.plain_min_loop _,ih (j + 1) (j + 1) _ H3 (kV k) v t2 _ kd (by omega) aY I4.swap (sm.trans uU) ?_ lF rv (QY _) ?_⟩
   ·obtain⟨o2,e2,c2,d2⟩:=qC
    exact⟨o2,(s1.2 it (Ne.symm ne)).trans e2,c2,d2⟩
   ·intro j' x m' h1 h2 h3
    rw[lF] at h3;cases h3
    by_cases e:j'=j + 1
    ·subst e
     rw[lF] at h2;cases h2
     exact⟨RF _,fun z=>absurd z (Rl _)⟩
    ·have q:=(eO j' x m (by omega) h2 hm).1
     exact⟨by omega,fun _=>by omega⟩
  ·rw[if_neg (by rw[RQ hb];decide)]
   refine mJ (Sq ?_);rw[dA];refine QW ⟨plainId_quiet PySem.F.plain_min_loop _,ih (j + 1) i _ H3 m vb tb c kd (by omega) aY I3 (sm.trans uU) qC hm rm (by omega) ?_⟩;intro j' x m' h1 h2 h3;by_cases e:j'=j + 1
   ·subst e
    rw[lF] at h2;rw[hm] at h3;cases h2
    cases h3
    exact⟨by omega,fun z=>by omega⟩
   ·exact eO j' x m' (by omega) h2 h3
theorem OY (hh:A.handled=X.A.handled) (kr:vm X A.in1 f fo σ H1 key (zbm kvs)) (hf:(f,fo)∈aa) (hd:H1 d=some (.frz o (.dK kvs))) (ao:o.data=.dict es ep) (gT:bw X aa H1 it) (jC:bw X aa H1 S) (ne:S≠it) (hn:0<kvs.length)
  (I:Inv X ((aa++[(S,seqObj "list" #[] c)])++[(it,oI)]) σ H s) (sm:ae H1 H) (hit:s.heap.IsKeyIter it d 0 kvs.length ep)
  (hR:∀ i m v H' s',(zbm kvs)[i]?=some m->av m v->Ba key (zbm kvs) i kvs.length->Inv X aa σ H' s'->ae H1 H'->R (.ok (.ret v)) s'):codeAny (model X.prog X.w) A (.builtin "min.loop" ⟨[.ref it,.ref f,.ref S],[]⟩) R s:=by
 have dA:(toString "min"++toString ".loop":String)="min.loop":=by decide
 have nS:=I.pin (S,seqObj "list" #[] c) (by simp);refine codeAny_builtin PySem.F.entry_min_loop ?_;rw[Around.under_plainId PySem.F.plain_min_loop _];show wpAny _ A.in1 (seqItems? (.ref S) >>= _) _ _ _;refine mJ (RG nS.1 O ?_);show wpAny _ A.in1 (tryCatch (pyNext (.ref it)) _ >>= _) _ _ _;obtain⟨⟨k,y⟩,hx⟩:∃ p,kvs[0]?=some p:=⟨kvs[0],by simp[hn]⟩;have lF:(zbm kvs)[0]?=some (kV k):=by unfold zbm;rw[Q4,hx];rfl
 refine mJ (RY (Gv (gT.more ne) I (sm _ _ hd) ao hit hx fun v h' kd rv I1 bi mV=>?_));show wpAny _ A.in1 (tryCatch (holding [v] (call (.ref f) [v])) _ >>= _) _ _ _;have pf:=I1.pin (f,fo) (Q8 _ (Ru _ (Ru _ hf)));refine mJ (RY (Rn (RJ (kr (kV k) v _ H _ (Q0 lF) rv I1 sm pf.1) (fun kv s2 hq=>?_) fun _ _ z=>z.elim)));obtain⟨kk,H3,I3,rk,rfl,uU⟩:=hq;obtain⟨t2,rfl⟩:∃ t,kv=Value.int (key (kV k)) t:=rk;have qY:=I3.pin (S,seqObj "list" #[] c) (by simp);have xq:=I3.pin (it,kd) (by simp);have s1:=Heap.SameBut.update s2.heap S (Obj.mapSeq fun _=>#[v,.int (key (kV k)) t2]);show wpAny _ A.in1 (updateSeq S (fun _=>#[v,.int (key (kV k)) t2]) >>= _) _ _ _;refine mJ (Sa qY.1 O ?_);rw[dA];have I4:=I3.swap.repin (t':=s2.toks) (jC.more ne.symm) (fun b o z q=>(s1.2 b z).trans q) (get?_update_seq qY.1 fun _=>#[v,.int (key (kV k)) t2]) (by intro v z;cases z);refine QW ⟨plainId_quiet PySem.F.plain_min_loop _,N7 hh kr hf hd ao gT jC ne hR _ 0 0 _ H3 (kV k) v t2 _ kd O hn I4.swap (sm.trans uU) ?_ lF rv (QY _) ?_⟩
 ·obtain⟨o2,e2,c2,d2⟩:=bi
  rw[mV] at e2;cases e2
  exact⟨_,(s1.2 it (Ne.symm ne)).trans xq.1,c2,d2⟩
 ·intro j' x m' h1 h2 h3
  obtain rfl:j'=0:=by omega
  rw[h2] at h3;cases h3
  exact⟨RF _,fun z=>absurd z (Rl _)⟩
theorem MC {Q:Value->Shared->Prop} (hd:H d=some (.dK kvs)) (hn:0<kvs.length) (hf:(f,fo)∈aa) (I:Inv X aa σ H s)
  (kr:∀ o,vm X X.A.in1 f fo σ (upd H d (.frz o (.dK kvs))) key (zbm kvs))
  (h:∀ m v H' s',la key (zbm kvs) m->av m v->Inv X aa σ H' s'->ae H H'->Q v s') :
  wpAny (model X.prog X.w) X.A (call (.builtin "min") [.ref d] [(Str.ofString "key",.ref f)]) Q E s:=by
 obtain⟨z,iz,vs,rel,dd⟩:=iT I.hok hd;obtain⟨o,cR,ep,ho,hx,ao,r⟩:=id dd;have dS:s.heap.DictAt (bJ X.prog X.w) d vs ep:=⟨o,cR,ho,hx,ao,r⟩;have nf:=I.notFrz hd;have dA:(toString "min"++toString ".loop":String)="min.loop":=by decide
 refine kmk_tree PySem.F.kind_min PySem.F.plain_min PySem.F.entry_min (kmk_min_key _ _) ?_;refine(show wpAny _ _ (Builtin.Builtins.bindParams "min" ["key","default"] 0 ⟨[],[(Str.ofString "key",Value.ref f)]⟩ >>= _) _ _ _ from mJ (R8 (show Builtin.Builtins.bindParams "min" ["key","default"] 0 ⟨[],[(Str.ofString "key",Value.ref f)]⟩=pure [some (Value.ref f),none] from rfl) ?_));refine mJ (QW ?_);refine mJ (Uz iz dS ?_);refine mJ (Uh ?_ (R9 _));rw[dA];refine QW ⟨plainId_quiet PySem.F.plain_min_loop _,?_⟩;have hz:(s.heap.push { cls:=.type "dict_keyiterator",data:=.fields #[.ref d,.int 0 0,.int vs.length 0,.int ep 0] }).objs.size=s.heap.objs.size + 1:=Rr ..;have nd:∀ b,s.heap.objs.size<=b->upd H d (.frz o (.dK kvs)) b=none:=fun b hb=>by
  rw[ai (Ne.symm (Q5 (Ri (QZ ho) hb)))];exact I.hok.fresh hb
 have If:=I.freeze hd ho;have gT:bw X aa (upd H d (.frz o (.dK kvs))) s.heap.objs.size:=If.fpOk (QY _) (nd _ (QY _));have jC:bw X aa (upd H d (.frz o (.dK kvs))) (s.heap.objs.size + 1):=If.fpOk (RO _) (nd _ (RO _));rw[hz];have ne:s.heap.objs.size + 1≠s.heap.objs.size:=Nat.succ_ne_self _;have I2:=If.kept (t':=s.toks) (h':=(s.heap.push { cls:=.type "dict_keyiterator",data:=.fields #[.ref d,.int 0 0,.int vs.length 0,.int ep 0] }).push (seqObj "list" #[] 0)) fun b o e=>QU _ (QU _ e)
 have oS:((s.heap.push { cls:=.type "dict_keyiterator",data:=.fields #[.ref d,.int 0 0,.int vs.length 0,.int ep 0] }).push (seqObj "list" #[] 0)).get? (s.heap.objs.size + 1)=some (seqObj "list" #[] 0):=by
  rw[<- hz];exact Q1 _ rfl
 have oI:((s.heap.push { cls:=.type "dict_keyiterator",data:=.fields #[.ref d,.int 0 0,.int vs.length 0,.int ep 0] }).push (seqObj "list" #[] 0)).get? s.heap.objs.size=some { cls:=.type "dict_keyiterator",data:=.fields #[.ref d,.int 0 0,.int vs.length 0,.int ep 0] }:=QU _ (Q1 _ O);refine OY (S:=s.heap.objs.size + 1) (it:=s.heap.objs.size) (c:=0) (oI:={ cls:=.type "dict_keyiterator",data:=.fields #[.ref d,.int 0 0,.int vs.length 0,.int ep 0] }) O (kr o) hf ah ao gT jC ne hn (I2.pins_of fun p hp=>?_) (ae.refl _) ?_ fun i m v H' s' hm rm eO I' sm=>?_
 ·rcases T0.mp hp with z|z
  ·rcases T0.mp z with y|y
   ·exact I2.pin p (Q8 _ y)
   ·rw[S1.mp y]
    exact⟨oS,jC.1,jC.2.1,jC.2.2.1,by intro v z;cases z⟩
  ·rw[S1.mp z]
   exact⟨oI,gT.1,gT.2.1,gT.2.2.1,by intro v z;cases z⟩
 ·rw[rel.length]
  exact⟨_,oI,O,O⟩
 ·have e':=sm d _ ah
  refine h m v _ s' ⟨i,hm,fun j x hx=>(eO j x m (by have:=(List.getElem?_eq_some_iff.mp hx).1;unfold zbm at this;rw[QT] at this;exact this) hx hm).1,fun j x hj hx=>(eO j x m (by have:=(List.getElem?_eq_some_iff.mp hx).1;unfold zbm at this;rw[QT] at this;exact this) hx hm).2 hj⟩ rm (I'.thaw nf e') fun b u q=>?_
  by_cases c:b=d
  ·subst c
   rw[hd] at q;cases q
   exact ah
  ·rw[ai c]
   exact sm b u (by rw[ai c];exact q)
end
def tMinK (P:Addr) (gq:Pos) (qual:Str) (cap:List (Option Nat)) (ta:TA) (te:TE):TE:=fun σ H Q=>ta σ H fun us H1=>∃ (d:Addr) (kvs:List (Key×V)) (key:V->Int),us=[.ref d]/\H1 d=some (.dK kvs)/\0<kvs.length/\H1 P=some (.tbl gq qual) /\
 (∀ x∈zbm kvs,∀ o H2,ae (upd H1 d (.frz o (.dK kvs))) H2->te (lamS cap σ x) H2 fun k H3=>k=.int (key x)/\ae H2 H3)/\∀ m H',ae H1 H'->la key (zbm kvs) m->Q m H'
theorem OO {a:Expr}{p pos bE gq:Pos}{c P:Addr}{k:Nat} (hg:Gl X "min") (hm:X.mg "min"=none) (hr:bj k X.A) (ha:PA X [a] ta)
  (gH:X.env.code=.ref c) (hc:PySem.W.codeHdIn X.K c P=true) (ok:dL X.env.scope scope X.N N cap=true)
  (he:∀ f c' s H,PE (tN X scope N f (.ref c') X.A.in1 s H) body te)
  (hx:N[0]?=some x:=by rfl) (hl:scope.names.lookup x=some .local:=by rfl) (rH:cap[0]?=some none:=by rfl)
  (zo:scope.isCoroutine=false:=by rfl) (oh:scope.isGenerator=false:=by rfl)
  (nY:defaultsOf params X.env=([],[]):=by rfl)
  (eU:∀ pm c' fP u,bindArgs (PySem.W.kla_fn "<lambda>" (kO X) params body scope (dz X.env.cells scope.names []) pm (.ref c') fP) ⟨[u],[]⟩=pure [(x,u)]:=by intro _ _ _ _;rfl)
  (hs:backTo pos (starEach [a] X.env)=(false,eval a X.env)::backTo pos (starEach [] X.env):=by rfl) (hp:(backTo pos (starEach [a] X.env)).any (·.1)=false:=by rfl) (rG:(backToKw pos (keywordEach [⟨some "key",.Lambda params body scope gq,bE⟩] X.env)).all (·.1.isSome)=true:=by rfl)
  (rj:(backToKw pos (keywordEach [⟨some "key",.Lambda params body scope gq,bE⟩] X.env)).any (·.1.isNone)=false:=by rfl)
  (mU:∀ u:Value,((backToKw pos (keywordEach [⟨some "key",.Lambda params body scope gq,bE⟩] X.env)).filterMap (·.1)).zip [u]=[(Str.ofString "key",u)]:=by intro u;rfl) :
  PE X (.Call (.Name "min" p) [a] [⟨some "key",.Lambda params body scope gq,bE⟩] pos) (tMinK P gq (kO X) cap ta te):=by
 intro aa s σ H Q I h;refine RP (g8 I hg hm u9 ?_);refine PyProof.Rows.callWith_kw (thn (ha pos aa s σ H _ I h) fun us s1=>L2.ex5 fun vs H1 I1 r1 a8=>?_) hs hp rG rj;obtain⟨d,kvs,key,e,q1,hn,hP,bZ,fin⟩:=a8;subst e;obtain⟨u,rfl,ru⟩:=gE r1;obtain rfl:u=Value.ref d:=ru;refine PyProof.Rows.kws_cons (P1 I1 gH hc hP ok nY fun f c' pm fP H2 s2 I2 pQ hsz IU Kq lc=>PyProof.Rows.kws_nil ?_);rw[mU];have I3:Inv X (aa++[(f,ve X scope params body pm c' fP)]) σ H2 s2:=I2.pins_of fun q hq=>by
  rcases T0.mp hq with z|z
  ·exact I2.pin q (Q8 _ z)
  ·rw[S1.mp z]
   exact⟨Kq,IU,RV (Ri I1.lt hsz),I1.nofs hsz,by intro v y;cases y⟩
 have Kd:∀ o,ae (upd H1 d (.frz o (.dK kvs))) (upd H2 d (.frz o (.dK kvs))):=fun o b u q=>by
  by_cases z:b=d
  ·subst z
   rw[ah] at q ⊢;exact q
  ·rw[ai z] at q ⊢
   exact pQ b u q
 have kr:∀ o,vm X X.A.in1 f (ve X scope params body pm c' fP) σ (upd H2 d (.frz o (.dK kvs))) key (zbm kvs):=by
  intro o v u iX Hi si hv rv Ii DB HV;have IZ:ue Hi c' P (kO X):=by
   obtain⟨oc,ws,t,e1,e2,e3⟩:=lc;exact⟨oc,ws,t,DB _ _ (by rw[ai (fun z=>by rw[z,pQ _ _ q1] at e1;cases e1)];exact e1),e2,e3⟩
  have xM:=OU (A:=X.A.in1) (x:=x) (Q:=fun k H3=>k=.int (key v)/\ae Hi H3) Ii O O hr.depth HV IZ ok hx hl rH (eU pm c' fP u) zo oh rv (he f c' si Hi) (bZ v hv o Hi ((Kd o).trans DB));refine SJ (codeAny_mono xM fun r s' hq=>?_);obtain⟨u',rfl,ce⟩:=hq;exact Ii.after ce
 refine MC (pQ _ _ q1) hn (Q8 _ (S1.mpr O)) I3 kr fun m v H' s' fm rm I' sm=>?_
 exact⟨m,H',I'.less,rm,fin m H' (pQ.trans sm) fm⟩
theorem PM (hc:HdC A cs) (I:Addr) (hI:I∉cs) (n:Nat):Walks prog w A I (I::cs) [I] n (fun i v=>∃ t,v=.int i t) (fun i h=>IsRangeIter h I (i:Nat) ((n:Int) - (i:Nat)) 1/\Chn h cs) where
 sub:=fun b hb=>by simp at hb;simp[hb]
 frame:=fun _ _ _ x hk=>⟨hk I (by simp) _ x.1,x.2.mono fun b o hb e=>hk b (by simp[hb]) o e⟩
 item:=fun i s Q E hi x hQ=>by
  refine TW x.1 (by omega) fun h' bi aW=>?_
  refine hQ _ h' _ ⟨_,O⟩ ⟨?_,x.2.but hI aW.extBut⟩ fun b o hb e=>aW.extBut b o (fun h=>hb (by simp[h])) e
  rw[show(((i + 1:Nat):Int))=(i:Int) + 1 by omega,show(n:Int) - ((i:Int) + 1)=(n:Int) - (i:Int) - 1 by omega];exact bi
 done:=fun s Q E x hQ=>GO (hc.hd x.2) x.1 (by omega) fun h' dE=>hQ h' s.toks fun b o hb e=>dE b o (fun h=>hb (by simp[h])) e
 self:=fun _ _ _ _ x hQ=>T4 x.1 hQ
theorem Of  (hc:HdC A cs){u v:Tok} (hr:IsRange s.heap r 0 n 1 t u v) (c:Chn s.heap cs) (aj:n<=2 ^ 24) (S:Addr) (res:Value) (c₀:Nat) (hS:s.heap.get? S=some { cls:=.type "list",data:=.seq #[] c₀ }) (sv:S∉cs)
  (hR:∀ h' tk bB c',(∀ b o,b≠S->s.heap.get? b=some o->h'.get? b=some o)->h'.get? S=some { cls:=.type "list",dict:=none,data:=.seq bB c',slots:=#[] }->ItemsOf (fun i v=>∃ t,v=.int i t) bB n->R (.ok (.ret res)) { s with heap:=h',toks:=tk }) :
  wpAny (model prog w) A.in1 (Builtin.List.listExtendWith (.ref S) (.ref r) res) (fun fin s'=>match fin with|.done f=>R (.ok f) s'|.again c'=>c'.quiet=true/\codeAny (model prog w) A c' R s') (fun e s'=>R (.error e) s') s:=by
 have hn:Builtin.Range.rangeSize 0 n 1=n:=by rw[rangeSize_one];split <;> omega
 have mX:Builtin.Range.small 0 n 1=true:=by
  unfold Builtin.Range.small;rw[tM (i:=0) (by decide) (by decide),tM (i:=(n:Int)) (by omega) (by omega),tM (i:=1) (by decide) (by decide),hn,tM (i:=(n:Int)) (by omega) (by omega),if_pos (by decide),tM (i:=(n:Int) + (1 - 1)) (by omega) (by omega),Uq];rfl
 have Jg:S≠r:=fun e=>by rw[e,hr] at hS;simp at hS
 have qD:S≠s.heap.objs.size:=Q5 (QZ hS);have mQ:s.heap.objs.size∉cs:=fun z=>Rl _ (c.lt _ z)
 have gK:S∉s.heap.objs.size::cs:=by simp[qD,sv]
 have W:=(PM (prog:=prog) (w:=w) (A:=A.in1) hc s.heap.objs.size mQ n).toS;have key:∀ (h:Heap) (c₁ tk:Nat),IsRangeIter h s.heap.objs.size ((0:Nat):Int) ((n:Int) - ((0:Nat):Int)) 1->Chn h cs->(∀ b o,b≠S->s.heap.get? b=some o->h.get? b=some o) ->
   h.get? S=some { cls:=.type "list",data:=.seq #[] c₁ }->codeAny (model prog w) A (.builtin "list.extend.loop" ⟨[.ref S,.ref s.heap.objs.size,res],[]⟩) R { s with heap:=h,toks:=tk }:=by
  intro h c₁ tk hit ch hk yH;refine codeAny_extend_loopS W (by rw[Q3];omega) S gK res n 0 _ #[] c₁ rfl (R9 _) ⟨hit,ch⟩ yH (ItemsOf.nil _) fun s' bB c' mv dG bC=>?_
  rw[Moved.eq_with mv];refine hR s'.heap s'.toks bB c' (fun b o hb e=>mv.heap b o (fun z=>?_) (hk b o hb e)) dG bC;rcases Rp.mp z with e'|z
  ·exact hb e'
  ·exact absurd (QZ e) (by rw[S1.mp z];exact Rl _)
 unfold Builtin.List.listExtendWith;refine mJ (SE (T:="range") ⟨_,hr,O⟩ ?_);have h1:Builtin.List.listSameRef (.ref S) (.ref r)=false:=by simp[Builtin.List.listSameRef,Jg]
 have h2:(Value.type "range" == Value.type "list")=false:=by decide
 have h3:(Value.type "range" == Value.type "tuple")=false:=by decide
 simp only[h1,h2,h3,Bool.or_false,RE,if_false]
 refine mJ (Um hr mX ?_);refine mJ (Rn (wpAny_hint_range (n:=n) (QU _ hr) hn aj ?_));rw[hn];have rq:IsRangeIter (s.heap.push { cls:=.type "range_iterator",data:=.fields #[rawInt 0,rawInt n,rawInt 1] }) s.heap.objs.size ((0:Nat):Int) ((n:Int) - ((0:Nat):Int)) 1:=by
  rw[show(n:Int) - ((0:Nat):Int)=n by omega];exact Q1 _ rfl
 have pL:=QU { cls:=.type "range_iterator",data:=.fields #[rawInt 0,rawInt n,rawInt 1] } hS;have Ck:Chn (s.heap.push { cls:=.type "range_iterator",data:=.fields #[rawInt 0,rawInt n,rawInt 1] }) cs:=c.mono fun b o _ e=>QU _ e
 refine wpAny_ite_split (fun _=>?_) (fun _=>QW ⟨plainId_quiet F.plain_extend_loop _,key _ c₀ _ rq Ck (fun b o _ e=>QU _ e) pL⟩);refine mJ (Sx ?_);refine mJ ?_;show wpAny _ _ (updateSeq S (·.push .none) >>= fun _=>updateSeq S (·.pop)) _ _ _;refine mJ (Sa pL O ?_);have oj:=Rv (Obj.mapSeq (·.push Value.none)) pL rfl;refine Sa (hz:=by seq_fits) oj rfl ?_;have uQ:=Rv (Obj.mapSeq (·.pop)) oj rfl;have dP:∀ b o,b≠S->(s.heap.push { cls:=.type "range_iterator",data:=.fields #[rawInt 0,rawInt n,rawInt 1] }).get? b=some o->(((s.heap.push { cls:=.type "range_iterator",data:=.fields #[rawInt 0,rawInt n,rawInt 1] }).update S (Obj.mapSeq (·.push Value.none))).update S (Obj.mapSeq (·.pop))).get? b=some o:=fun b o hb e=>
  (Rh _ _ (Ne.symm hb)).trans ((Rh _ _ (Ne.symm hb)).trans e)
 exact QW ⟨plainId_quiet F.plain_extend_loop _,key _ _ _ (dP _ _ (Ne.symm qD) rq) (Ck.mono fun b o hb e=>dP b o (fun z=>sv (by rw[<- z];exact hb)) e) (fun b o hb e=>dP b o hb (QU _ e)) uQ⟩
theorem MF {Q:Value->Shared->Prop} (hc:HdC A cs){u v:Tok} (hr:IsRange s.heap r 0 n 1 t u v) (c:Chn s.heap cs) (aj:n<=2 ^ 24)
  (hQ:∀ h' tk bB c',(∀ b o,s.heap.get? b=some o->h'.get? b=some o)->h'.get? s.heap.objs.size=some { cls:=.type "list",dict:=none,data:=.seq bB c',slots:=#[] }->ItemsOf (fun i v=>∃ t,v=.int i t) bB n->Q (.ref s.heap.objs.size) { s with heap:=h',toks:=tk }) :
  wpAny (model prog w) A (call (.type "list") [.ref r]) Q E s:=by
 refine callType_codes (Q₁:=fun obj s₁=>obj=.ref s.heap.objs.size/\s₁={ s with heap:=s.heap.push { cls:=.type "list",data:=.seq #[] } }) F.called_list (F.typeCall_list_1 _) F.entry_list_init (code_list_new _ ⟨O,O⟩) fun obj s₁ h₁=>?_
 obtain⟨rfl,rfl⟩:=h₁;have hS:(s.heap.push { cls:=.type "list",data:=.seq #[] }).get? s.heap.objs.size=some { cls:=.type "list",data:=.seq #[] }:=Q1 _ rfl;have mQ:s.heap.objs.size∉cs:=fun z=>Rl _ (c.lt _ z)
 refine⟨⟨_,hS,O⟩,F.args_list_init_2 _ _,?_⟩;refine(show wpAny _ A.in1.in1 (do let old <- Builtin.List.listItems (.ref s.heap.objs.size);Builtin.List.listUpdate (.ref s.heap.objs.size) (fun _=>#[]);letGo old.toList.reverse;Builtin.List.listExtendWith (.ref s.heap.objs.size) (.ref r) .none) _ _ _ from mJ ?_);unfold Builtin.List.listItems;refine mJ (RG hS O (QW ?_));refine(show wpAny _ A.in1.in1 (updateSeq s.heap.objs.size (fun _=>#[]) >>= fun _=>letGo (#[]:Array Value).toList.reverse >>= fun _=>Builtin.List.listExtendWith (.ref s.heap.objs.size) (.ref r) .none) _ _ _ from mJ (Sa hS O (mJ (Sq ?_))));have oj:=Rv (Obj.mapSeq (fun _=>(#[]:Array Value))) hS rfl;have dP:∀ b o,s.heap.get? b=some o->((s.heap.push { cls:=.type "list",data:=.seq #[] }).update s.heap.objs.size (Obj.mapSeq (fun _=>(#[]:Array Value)))).get? b=some o:=fun b o e=>
  (Rh _ _ (Ne.symm (Q5 (QZ e)))).trans (QU _ e)
 exact Of (A:=A.in1) hc (dP r _ hr) (c.mono fun b o _ e=>dP b o e) aj _ .none _ oj mQ fun h' tk acc c' k dG bC=>⟨O,hQ h' tk acc c' (fun b o e=>k b o (Q5 (QZ e)) (dP b o e)) dG bC⟩
def rng (n:Nat):List V:=(List.range n).map fun i=>V.int (i:Nat)
theorem Lr {acc:Array Value} (h:ItemsOf (fun i v=>∃ t,v=Value.int i t) acc n):aw (rng n) acc.toList:=by
 have gen:∀ (k m:Nat) (us:List Value),us.length=k->(∀ i u,us[i]?=some u->∃ t,u=Value.int ((m + i:Nat):Int) t)->aw ((List.range' m k).map fun i=>V.int (i:Nat)) us:=fun k=>by
  induction k with
  | zero=>
   intro m us hl _;obtain rfl:=List.length_eq_zero_iff.mp hl;exact .nil
  | succ k ih=>
   intro m us hl hu;cases us with
   | nil=>cases hl
   | cons u us=>
    refine .cons ?_ (ih (m + 1) us (by simpa using hl) fun i x e=>?_)
    ·obtain⟨t,e⟩:=hu 0 u rfl
     exact⟨t,e⟩
    ·obtain⟨t,e⟩:=hu (i + 1) x (by simpa using e)
     refine⟨t,?_⟩;rw[e,show m + (i + 1)=m + 1 + i by omega]
 unfold rng;rw[List.range_eq_range'];refine gen n 0 acc.toList (by rw[SR];exact h.1) fun i u e=>?_
 rw[S2];exact h.2 i u (by rw[Array.getElem?_toList] at e;exact e)
theorem Nk {a:Expr}{p pos dZ:Pos} (HZ:Gl X "list") (xR:X.mg "list"=none) (hg:Gl X "range") (hm:X.mg "range"=none) (ha:PA X [a] ta) (hs:starEach [a] X.env=[(false,eval a X.env)]:=by rfl)
  (dD:starEach [.Call (.Name "range" p2) [a] [] dZ] X.env=[(false,eval (.Call (.Name "range" p2) [a] [] dZ) X.env)]:=by rfl) :
  PE X (.Call (.Name "list" p) [.Call (.Name "range" p2) [a] [] dZ] [] pos) (fun σ H Q=>ta σ H fun vs H1=>∃ j:Nat,vs=[.int j]/\j<=10000/\∀ r,H1 r=none->Q (.ref r) (upd H1 r (.lst (rng j)))):=by
 intro aa s σ H Q I h;refine RP (g8 I HZ xR vH ?_);refine PyProof.Rows.callWith_type1 ?_ dD rfl;rw[dD];refine Calls.spliced_cons ?_;refine Call_ (g8 I hg hm boot_range (PyProof.Rows.callWith_type1 (thn (ha dZ aa s σ H _ I h) fun us s1=>L2.ex5 fun vs H1 I1 r1 q1=>?_) hs O));obtain⟨j,e,j1,q⟩:=q1;subst e;cases r1 with
 | cons r rr=>
  cases rr
  obtain⟨t,rfl⟩:=r;refine call_range_1 (Calls.spliced_nil ?_);obtain⟨cs,cw,ch⟩:=I1.hd.chain;have hz:(s1.heap.push { cls:=.type "range",data:=.fields #[.int 0 s1.toks,.int j t,.int 1 (s1.toks + 1)] }).objs.size=s1.heap.objs.size + 1:=Rr ..;refine MF (s:={ s1 with heap:=s1.heap.push { cls:=.type "range",data:=.fields #[.int 0 s1.toks,.int j t,.int 1 (s1.toks + 1)] },toks:=s1.toks + 1 + 1 }) cw (r:=s1.heap.objs.size) (n:=j) (Q1 _ O) (ch.mono fun b o _ e=>QU _ e) (by omega) fun h' tk acc c' k hS bC=>?_
  dsimp only at k hS;rw[hz] at hS;have fr:H1 (s1.heap.objs.size + 1)=none:=I1.hok.fresh (RO _);refine⟨.ref (s1.heap.objs.size + 1),upd H1 (s1.heap.objs.size + 1) (.lst (rng j)),I1.laid (t':=tk) (fun b o e=>k b o (QU _ e)) (RO _) ⟨by unfold rng;rw[QT,RU,Q3];omega,acc.toList,c',Lr bC,by simpa using hS⟩,?_,q _ fr⟩;show Value.ref _=Value.ref _;rw[hz]
theorem Gu {D:gy} (Pv:Nat->St->Hp->Prop) (h0:Pv 0 σ H) (hf:∀ i σ H,i<=kvs.length->Pv i σ H->H d=some (.frz o (.dK kvs)))
  (hs:∀ i k x T σ H,kvs[i]?=some (k,x)->H T=none->Pv i σ H->g (.ref T) σ (upd H T (.tup [kV k,x])) fun σ2 H2=>tb { D with nx:=Pv (i + 1),ct:=Pv (i + 1),bk:=D.nx } σ2 H2) (hd:∀ σ H,Pv kvs.length σ H->D.nx σ H):qk (Iti d o kvs) D g tb σ H:=
 wk_ (n:=kvs.length) Pv h0 (fun i σ H hi p=>⟨fun h=>⟨hf i σ H hi p,h⟩,fun h=>⟨hf i σ H hi p,h⟩⟩) (fun i v σ H H' hi p y=>by
 obtain⟨T,k,x,rfl,hT,hx,rfl⟩:=y;exact hs i k x T σ H hx hT p) hd
abbrev oP (h:Heap) (z TI TO T:Addr) (f:Bool):Prop:=h.get? z=some { cls:=.type "zip",dict:=none,data:=.fields #[rawInt T,.bool f,.bool false,.ref TI,.ref TO],slots:=#[] }
theorem FM {TI TO:Addr}{f:Bool}{Q:Bool->Shared->Prop} (hz:oP s.heap z TI TO T f) (ha:s.heap.get? T=some oa) (h:∀ h',oP h' z TI TO T true->Heap.SameBut z s.heap h'->Q false { s with heap:=h' }) :
  wpAny (model prog w) A (Builtin.SmallTypes.ownedTupleIsFree (.ref z)) Q E s:=by
 unfold Builtin.SmallTypes.ownedTupleIsFree;refine mJ (Rq hz O (x:=rawInt T) O ?_);show wpAny _ _ (loadIfAlive ((T:Int).toNat) >>= _) _ _ _;rw[Q7];refine mJ (PySem.W.kdx_alive ha ?_);simp only[Option.isNone_some,RE,if_false]
 refine mJ (Rq hz O (x:=.bool f) O ?_);cases f with
 | true=>
  rw[if_neg (show ¬ ((Value.bool true != Value.bool true)=true) from Ra)];exact QW (h s.heap hz (Heap.SameBut.refl _ _))
 | false=>
  rw[if_pos (show(Value.bool false != Value.bool true)=true from rfl)];refine mJ (Sc hz (by simp) fun h₃ KC ff=>?_);exact QW (h h₃ KC ff)
theorem Mj {TI TO l2:Addr}{f:Bool}{x y:Value} (D:ZipApart z TI TO i1 i2 l1 l2)
  (hz:oP s.heap z TI TO T f) (ha:s.heap.get? T=some oa) (b8:IsPair s.heap TI (.ref i1) (.ref i2))
  (h1:s.heap.IsListIter i1 l1 k1) (h2:s.heap.IsListIter i2 l2 k2) (cx:s.heap.IsList l1 xs) (bY:s.heap.IsList l2 ys) (hx:xs[k1]?=some x) (hy:ys[k2]?=some y)
  (hQ:∀ h',oP h' z TI TO T true->h'.IsListIter i1 l1 (k1 + 1)->h'.IsListIter i2 l2 (k2 + 1)->IsPair h' s.heap.objs.size x y ->
   (∀ c o,c≠z->c≠i1->c≠i2->s.heap.get? c=some o->h'.get? c=some o)->Q (some (.ref s.heap.objs.size)) { s with heap:=h' }) :
  wpAny (model prog w) A (pyNext (.ref z)) Q E s:=by
 have hT:s.TypeIs (.ref z) "zip":=⟨_,hz,O⟩;unfold pyNext;refine mJ (Sh (Ry (name:=Str.ofString "__next__") hT F.slot_zip_next (RB F.slot_zip_next hT F.entry_zip_next ?_ (F.args_zip_next_1 _))));refine(show wpAny _ _ (field (.ref z) 2 >>= _) _ _ _ from mJ (Rq hz O (x:=.bool false) O ?_));refine(show wpAny _ _ (field (.ref z) 3 >>= _) _ _ _ from mJ (Rq hz O (x:=.ref TI) O (mJ (RG b8 O ?_))));refine(show wpAny _ _ (Builtin.SmallTypes.ownedTupleIsFree (.ref z) >>= _) _ _ _ from mJ (FM hz ha fun h₁ nV bq=>?_));simp only[RE,if_false,Ur,SW,Ua]
 refine mJ (mJ (mJ (Rn ?_)));refine(show wpAny _ _ (Builtin.SmallTypes.nextOf (.ref i1) >>= _) _ _ _ from mJ (Sy (h1.extBut bq.extBut D.i1z) (cx.extBut bq.extBut D.l1z) hx fun h₂ zk cZ=>QW (QW ?_)));refine mJ (mJ (Rn ?_));refine(show wpAny _ _ (Builtin.SmallTypes.nextOf (.ref i2) >>= _) _ _ _ from mJ (Sy ((h2.extBut bq.extBut D.i2z).extBut cZ.extBut D.i12.symm) ((bY.extBut bq.extBut D.l2z).extBut cZ.extBut D.l2i1) hy fun h₃ J9 ff=>QW (QW (QW ?_))));refine(show wpAny _ _ (newTuple [x,y] >>= _) _ _ _ from mJ (wpAny_newTuple ?_));have hsz:h₃.objs.size=s.heap.objs.size:=by rw[ff.1,cZ.1,bq.1]
 have up:∀ c o,c≠z->c≠i1->c≠i2->s.heap.get? c=some o->(h₃.push { cls:=.type "tuple",data:=.seq #[x,y] }).get? c=some o:=fun c o c1 c2 c3 e=>
  QU _ (ff.extBut _ _ c3 (cZ.extBut _ _ c2 (bq.extBut _ _ c1 e)))
 have IN:oP (h₃.push { cls:=.type "tuple",data:=.seq #[x,y] }) z TI TO T true:=QU _ (ff.extBut _ _ D.i2z.symm (cZ.extBut _ _ D.i1z.symm nV));have CK:IsPair (h₃.push { cls:=.type "tuple",data:=.seq #[x,y] }) h₃.objs.size x y:=Q1 _ rfl;have Jo:(h₃.push { cls:=.type "tuple",data:=.seq #[x,y] }).IsListIter i1 l1 (k1 + 1):=zk.at fun o e=>QU _ (ff.extBut _ _ D.i12 e)
 have IB:(h₃.push { cls:=.type "tuple",data:=.seq #[x,y] }).IsListIter i2 l2 (k2 + 1):=J9.at fun o e=>QU _ e
 rw[hsz] at CK;refine QW ⟨_,O,QW ?_⟩;have fin:=hQ _ IN Jo IB CK up;rw[<- hsz] at fin;exact fin
theorem Np {TI TO l2:Addr}{f:Bool} (hc:HdC A cs) (c:Chn s.heap cs) (nz:z∉cs) (n1:i1∉cs) (D:ZipApart z TI TO i1 i2 l1 l2)
  (hz:oP s.heap z TI TO T f) (ha:s.heap.get? T=some oa) (b8:IsPair s.heap TI (.ref i1) (.ref i2))
  (h1:s.heap.IsListIter i1 l1 k1) (h2:s.heap.IsListIter i2 l2 k2) (cx:s.heap.IsList l1 xs) (bY:s.heap.IsList l2 ys) (ia:xs[k1]?=none\/ys[k2]?=none)
  (hQ:∀ h',(∀ c o,c≠z->c≠i1->c≠i2->s.heap.get? c=some o->h'.get? c=some o)->Q none { s with heap:=h' }):wpAny (model prog w) A (pyNext (.ref z)) Q E s:=by
 have hT:s.TypeIs (.ref z) "zip":=⟨_,hz,O⟩;have fin:∀ h' e,(∀ c o,c≠z->c≠i1->c≠i2->s.heap.get? c=some o->h'.get? c=some o)->(∃ o,h'.get? e=some o/\o.cls=.type "StopIteration") ->
   wpAny (model prog w) A (do if <- isInstance (.ref e) (.type "StopIteration") then pure none else throw (.ref e)) Q E { s with heap:=h' }:=fun h' e k ⟨o,ho,kC⟩=>
  mJ (R3 (T:="StopIteration") (b:=true) ⟨o,ho,kC⟩ isSubtype_stop (QW (hQ _ k)))
 unfold pyNext;refine mJ (Sh (Ry (name:=Str.ofString "__next__") hT F.slot_zip_next (RB F.slot_zip_next hT F.entry_zip_next ?_ (F.args_zip_next_1 _))));refine(show wpAny _ _ (field (.ref z) 2 >>= _) _ _ _ from mJ (Rq hz O (x:=.bool false) O ?_));refine(show wpAny _ _ (field (.ref z) 3 >>= _) _ _ _ from mJ (Rq hz O (x:=.ref TI) O (mJ (RG b8 O ?_))));refine(show wpAny _ _ (Builtin.SmallTypes.ownedTupleIsFree (.ref z) >>= _) _ _ _ from mJ (FM hz ha fun h₁ nV bq=>?_));have c₁:Chn h₁ cs:=c.but nz bq.extBut;simp only[RE,if_false,Ur,SW,Ua]
 refine mJ (mJ (mJ (Rn ?_)));cases hx:xs[k1]? with
 | none=>
  exact(show wpAny _ _ (Builtin.SmallTypes.nextOf (.ref i1) >>= _) _ _ _ from mJ (p9 (A:=A.in1) (HdC.hd (A:=A.in1) hc c₁) (h1.extBut bq.extBut D.i1z) (cx.extBut bq.extBut D.l1z) hx fun h₂ e cZ he=>
   fin h₂ e (fun c o c1 c3 _ x=>cZ _ _ c3 (bq.extBut _ _ c1 x)) he))
 | some x=>
  have hy:ys[k2]?=none:=by rcases ia with h|h;rw[hx] at h;cases h;exact h
  refine(show wpAny _ _ (Builtin.SmallTypes.nextOf (.ref i1) >>= _) _ _ _ from mJ (Sy (h1.extBut bq.extBut D.i1z) (cx.extBut bq.extBut D.l1z) hx fun h₂ zk cZ=>QW (QW ?_)));refine mJ (mJ (Rn ?_));have c₂:Chn h₂ cs:=c₁.but n1 cZ.extBut;exact(show wpAny _ _ (Builtin.SmallTypes.nextOf (.ref i2) >>= _) _ _ _ from mJ (p9 (A:=A.in1) (HdC.hd (A:=A.in1) hc c₂) ((h2.extBut bq.extBut D.i2z).extBut cZ.extBut D.i12.symm) ((bY.extBut bq.extBut D.l2z).extBut cZ.extBut D.l2i1) hy fun h₃ e ff he=>
   fin h₃ e (fun c o c1 c2 c3 x=>ff _ _ c3 (cZ.extBut _ _ c2 (bq.extBut _ _ c1 x))) he))
def ZS (h:Heap) (z TI TO i1 i2 l1 l2 d:Addr) (xs ys:Array Value) (i:Nat):Prop:=
 (IsZip h z TI TO .none\/∃ T f oa,oP h z TI TO T f/\h.get? T=some oa/\T≠z/\T≠i1/\T≠i2/\T≠d)/\IsPair h TI (.ref i1) (.ref i2)/\(∃ a b,IsPair h TO a b)/\h.IsListIter i1 l1 i/\h.IsListIter i2 l2 i/\h.IsList l1 xs/\h.IsList l2 ys
theorem Me {TI TO l2:Addr}{x y:Value} (D:ZipApart z TI TO i1 i2 l1 l2) (dl:d<s.heap.objs.size) (st:ZS s.heap z TI TO i1 i2 l1 l2 d xs ys i) (hx:xs[i]?=some x) (hy:ys[i]?=some y)
  (hQ:∀ h',ZS h' z TI TO i1 i2 l1 l2 d xs ys (i + 1)->IsPair h' s.heap.objs.size x y->(∀ c o,c≠z->c≠TO->c≠i1->c≠i2->s.heap.get? c=some o->h'.get? c=some o)->Q (some (.ref s.heap.objs.size)) { s with heap:=h' }) :
  wpAny (model prog w) A (pyNext (.ref z)) Q E s:=by
 obtain⟨zs,b8,⟨a,b,dF⟩,h1,h2,cx,bY⟩:=st;have lt:∀ {c o},s.heap.get? c=some o->s.heap.objs.size≠c:=fun e=>RV (QZ e)
 have n1:s.heap.objs.size≠i1:=by obtain⟨_,e,_⟩:=h1;exact lt e
 have n2:s.heap.objs.size≠i2:=by obtain⟨_,e,_⟩:=h2;exact lt e
 rcases zs with hz|⟨T,f,oa,hz,ha,t1,t2,t3,t4⟩
 ·refine Ub D hz b8 dF h1 h2 cx bY hx hy fun h' a1 a2 a3 a4 a5 a6 hk=>?_
  exact hQ h' ⟨.inr ⟨s.heap.objs.size,false,_,a1,a5,lt hz,n1,n2,RV dl⟩,hk _ _ D.TIz D.TITO D.TIi1 D.TIi2 b8,⟨_,_,a2⟩,a3,a4,cx.at fun o e=>hk _ o D.l1z D.l1TO D.l1i1 D.l1i2 e,bY.at fun o e=>hk _ o D.l2z D.l2TO D.l2i1 D.l2i2 e⟩ a5 hk
 ·refine Mj D hz ha b8 h1 h2 cx bY hx hy fun h' a1 a3 a4 a5 hk=>?_
  exact hQ h' ⟨.inr ⟨T,true,oa,a1,hk _ _ t1 t2 t3 ha,t1,t2,t3,t4⟩,hk _ _ D.TIz D.TIi1 D.TIi2 b8,⟨_,_,hk _ _ D.TOz D.TOi1 D.TOi2 dF⟩,a3,a4,cx.at fun o e=>hk _ o D.l1z D.l1i1 D.l1i2 e,bY.at fun o e=>hk _ o D.l2z D.l2i1 D.l2i2 e⟩ a5
   fun c o c1 _ c3 c4 e=>hk c o c1 c3 c4 e
theorem zs_end {TI TO l2:Addr} (hc:HdC A cs) (c:Chn s.heap cs) (nz:z∉cs) (nT:TO∉cs) (n1:i1∉cs) (n2:i2∉cs) (D:ZipApart z TI TO i1 i2 l1 l2) (st:ZS s.heap z TI TO i1 i2 l1 l2 d xs ys i) (ia:xs[i]?=none\/ys[i]?=none)
  (hQ:∀ h',(∀ c o,c≠z->c≠TO->c≠i1->c≠i2->s.heap.get? c=some o->h'.get? c=some o)->Q none { s with heap:=h' }):wpAny (model prog w) A (pyNext (.ref z)) Q E s:=by
 obtain⟨zs,b8,⟨a,b,dF⟩,h1,h2,cx,bY⟩:=st;rcases zs with hz|⟨T,f,oa,hz,ha,t1,t2,t3,t4⟩
 ·exact FB hc c nz nT n1 n2 D hz b8 dF h1 h2 cx bY ia hQ
 ·exact Np hc c nz n1 D hz ha b8 h1 h2 cx bY ia fun h' hk=>hQ h' fun c o c1 _ c3 c4 e=>hk c o c1 c3 c4 e
structure Ak (z TI TO i1 i2 l1 l2 d:Addr):Prop where
 z:z≠d
 TI:TI≠d
 TO:TO≠d
 i1:i1≠d
 i2:i2≠d
 l1:l1≠d
 l2:l2≠d
theorem ZS.but {TI TO l2:Addr} (N:Ak z TI TO i1 i2 l1 l2 d) (st:ZS h z TI TO i1 i2 l1 l2 d xs ys i) (hk:∀ c o,c≠d->h.get? c=some o->h'.get? c=some o):ZS h' z TI TO i1 i2 l1 l2 d xs ys i:=by
 obtain⟨zs,b8,⟨a,b,dF⟩,h1,h2,cx,bY⟩:=st;refine⟨?_,hk _ _ N.TI b8,⟨a,b,hk _ _ N.TO dF⟩,h1.at fun o e=>hk _ o N.i1 e,h2.at fun o e=>hk _ o N.i2 e,cx.at fun o e=>hk _ o N.l1 e,bY.at fun o e=>hk _ o N.l2 e⟩;rcases zs with hz|⟨T,f,oa,hz,ha,t1,t2,t3,t4⟩
 ·exact .inl (hk _ _ N.z hz)
 ·exact .inr ⟨T,f,oa,hk _ _ N.z hz,hk _ _ t4 ha,t1,t2,t3,t4⟩
section
variable {κ:Type} [DecidableEq κ] {knd:KeyKind prog w κ}
theorem K1 {TI TO l2:Addr} (D:ZipApart z TI TO i1 i2 l1 l2) (N:Ak z TI TO i1 i2 l1 l2 d) (hc:HdC A cs) (nz:z∉cs) (nT:TO∉cs) (n1:i1∉cs) (n2:i2∉cs) (nd:d∉cs) (aj:xs.size<=ys.size) (hn:xs.size<=1000)
  (ks:Nat->κ) (vs:Nat->Value) (kvs:Nat->List (κ×Value)) (res:Value) (fZ:∀ i x y,xs[i]?=some x->ys[i]?=some y->knd.is (ks i) x=true/\y=vs i)
  (hs:∀ i,kvs (i + 1)=stored (kvs i) (ks i) (vs i)) (hl:∀ i,(kvs i).length<=i) (s0:Shared) :
  ∀ (k i:Nat) (h:Heap) (tk:Nat),xs.size - i=k->i<=xs.size->ZS h z TI TO i1 i2 l1 l2 d xs ys i->Chn h cs->h.DictOf knd d (kvs i)->(∀ b o,b≠d->b≠z->b≠TO->b≠i1->b≠i2->s0.heap.get? b=some o->h.get? b=some o) ->
   (∀ h' eE,(∀ b o,b≠d->b≠z->b≠TO->b≠i1->b≠i2->s0.heap.get? b=some o->h'.get? b=some o)->h'.DictOf knd d (kvs xs.size)->R (.ok (.ret res)) { s0 with heap:=h',toks:=eE }) ->
   codeAny (model prog w) A (.builtin "dict.update.loop" ⟨[.ref d,.ref z,.int i 0,res],[]⟩) R { s0 with heap:=h,toks:=tk }:=by
 intro k
 induction k with
 | zero=>
  intro i h tk hk hi st ch hD keep hR;have hin:i=xs.size:=by omega
  subst hin;refine codeAny_builtin vF ?_;rw[Around.under_plainId mh _];show wpAny _ A.in1 (pyNext (.ref z) >>= _) _ _ _;refine mJ (zs_end (A:=A.in1) (s:={ s0 with heap:=h,toks:=tk }) hc ch nz nT n1 n2 D st (.inl (by simp)) fun h' dh=>?_);show wpAny _ A.in1 (pure () >>= fun _=>ret res) _ _ _;refine mJ (QW (QW (hR h' tk (fun b o b0 b1 b2 b3 b4 e=>dh b o b1 b2 b3 b4 (keep b o b0 b1 b2 b3 b4 e)) ?_)));obtain⟨o,es,ep,ho,aT⟩:=hD;exact⟨o,es,ep,dh _ _ (Ne.symm N.z) (Ne.symm N.TO) (Ne.symm N.i1) (Ne.symm N.i2) ho,aT⟩
 | succ k ih=>
  intro i h tk hk hi st ch hD keep hR;have aY:i<xs.size:=by omega
  refine codeAny_builtin vF ?_;rw[Around.under_plainId mh _];show wpAny _ A.in1 (pyNext (.ref z) >>= _) _ _ _;have dl:d<h.objs.size:=by
   obtain⟨o,es,ep,ho,aT⟩:=hD;exact QZ ho
  have hx:xs[i]?=some xs[i]:=SY aY;have hy:ys[i]?=some (ys[i]'(by omega)):=SY (by omega);obtain⟨bZ,hv⟩:=fZ i _ _ hx hy;refine mJ (Me (A:=A.in1) (s:={ s0 with heap:=h,toks:=tk }) D dl st hx hy fun h' c5 hP dh=>?_);rw[hv] at hP;generalize xs[i]=key at bZ hP hx;have tn:∀ b o,h.get? b=some o->b≠h.objs.size:=fun b o e=>Q5 (QZ e)
  have iy:h'.DictOf knd d (kvs i):=by
   obtain⟨o,es,ep,ho,aT⟩:=hD;exact⟨o,es,ep,dh _ _ (Ne.symm N.z) (Ne.symm N.TO) (Ne.symm N.i1) (Ne.symm N.i2) ho,aT⟩
  have hT:Shared.TypeIs { s0 with heap:=h',toks:=tk } (.ref h.objs.size) "tuple":=⟨_,hP,O⟩;have lJ:Chn h' cs:=ch.mono fun b o hb e=>dh b o (fun q=>nz (q ▸ hb)) (fun q=>nT (q ▸ hb)) (fun q=>n1 (q ▸ hb)) (fun q=>n2 (q ▸ hb)) e
  dsimp only;refine mJ (Rn (mJ (RY ?_)));unfold Builtin.Dict.pairItems;refine mJ (SE hT ?_);rw[if_pos (by decide)];refine mJ (RG hP O (QW ?_));show wpAny _ _ (holding [key,vs i] (dictSet d key (vs i))) _ _ _;refine Rn (Ui (knd:=knd) (s:={ s0 with heap:=h',toks:=tk }) bZ iy (fun cF rh m5=>?_) (by rw[Q3];have:=hl i;omega));have e1:kvs (i + 1)=stored (kvs i) (ks i) (vs i):=hs i;rw[<- e1] at rh;have kb:∀ c o,c≠d->h'.get? c=some o->cF.get? c=some o:=fun c o eC e=>by rw[m5.2 c eC];exact e
  exact QW ⟨plainId_quiet mh _,ih (i + 1) cF _ (by omega) aY (c5.but N kb) (lJ.mono fun b o hb e=>kb b o (fun q=>nd (q ▸ hb)) e) rh (fun b o b0 b1 b2 b3 b4 e=>kb b o b0 (dh b o b1 b2 b3 b4 (keep b o b0 b1 b2 b3 b4 e))) hR⟩
end
theorem Pa:typeLookup (.type "zip") "keys"=pure none:=am_miss_of_fast (by kernel_rfl)
theorem MD:entryFor table "zip.__getattribute__"=some Builtin.«object.__getattribute__»:=entryFor_alias (id':="object.__getattribute__") (by kernel_rfl) (by first|rfl|decide +kernel) (by decide +kernel) (by kernel_rfl)
theorem Op {TI TO:Addr}{tk:Tok}{Q:Fin->Shared->Prop} (hd:Hd A s.heap) (ho:IsZip s.heap z TI TO .none)
  (h:∀ h' tk e,(∀ b ob,s.heap.get? b=some ob->h'.get? b=some ob)->(∃ o',h'.get? e=some o'/\o'.cls=.type "AttributeError")->E (.ref e) { s with heap:=h',toks:=tk }) :
  wpAny (model prog w) A (Builtin.«object.__getattribute__» ⟨[.ref z,.str "keys" tk],[]⟩) Q E s:=by
 have hT:s.TypeIs (.ref z) "zip":=⟨_,ho,O⟩;have f4:=Pa;unfold Builtin.«object.__getattribute__»;obtain⟨hp,g,d,eE,os⟩:=s
 repeat (any_goals (first|assumption|wp_step))
 exact DZ hd h (attrMsg_fits (by decide +kernel) (by size_fits))
theorem K5 {TI TO:Addr} (hd:Hd A s.heap) (ho:IsZip s.heap z TI TO .none)
  (h:∀ h' tk,(∀ b ob,s.heap.get? b=some ob->h'.get? b=some ob)->Q none { s with heap:=h',toks:=tk }) :
  wpAny (model prog w) A (getAttr? (.ref z) "keys") Q E s:=by
 unfold getAttr? getAttrBy?;obtain⟨hp,g,d,eE,os⟩:=s;have hT:(⟨hp,g,d,eE + 1,os⟩:Shared).TypeIs (.ref z) "zip":=⟨_,ho,O⟩;have f1:=sub_AttributeError;have f2:=F.slot_zip_getattribute.lookup;have f3:=F.slot_zip_getattribute.bind (.ref z);have f5:typeLookup (.type "zip") "__getattr__"=pure none:=am_miss_of_fast (by kernel_rfl);unfold getAttrBy
 repeat (any_goals (first|assumption|wp_step))
 refine codeAny_call_builtin F.slot_zip_getattribute.plain MD (F.slot_zip_getattribute.check _ _ _ _ _ _ _ _ hT (F.args_zip_getattribute_2 _ _) (Op (s:=⟨hp,g,d,eE + 1,os⟩) hd ho fun h' ki e k' ⟨o',e1,e2⟩=>?_));dsimp only;show wpAny _ _ (getattributeRaised _ _ _ _ _ _ _) _ _ _;unfold getattributeRaised;have hE:(⟨h',g,d,ki,os⟩:Shared).TypeIs (.ref e) "AttributeError":=⟨_,e1,e2⟩
 repeat (any_goals (first|assumption|wp_step))
 exact h h' ki k'
section
variable {κ:Type} [DecidableEq κ] {knd:KeyKind prog w κ}
theorem LW {TI TO l2:Addr}{a b:Value}{Q:Value->Shared->Prop} (hc:HdC A cs) (ch:Chn s.heap cs) (nz:z∉cs) (nT:TO∉cs) (n1:i1∉cs) (n2:i2∉cs) (D:ZipApart z TI TO i1 i2 l1 l2)
  (hz:IsZip s.heap z TI TO .none) (b8:IsPair s.heap TI (.ref i1) (.ref i2)) (dF:IsPair s.heap TO a b) (h1:s.heap.IsListIter i1 l1 0) (h2:s.heap.IsListIter i2 l2 0) (cx:s.heap.IsList l1 xs) (bY:s.heap.IsList l2 ys) (aj:xs.size<=ys.size) (hn:xs.size<=1000)
  (ks:Nat->κ) (vs:Nat->Value) (kvs:Nat->List (κ×Value)) (h0:kvs 0=[]) (hs:∀ i,kvs (i + 1)=stored (kvs i) (ks i) (vs i)) (hl:∀ i,(kvs i).length<=i)
  (fZ:∀ i x y,xs[i]?=some x->ys[i]?=some y->knd.is (ks i) x=true/\y=vs i)
  (h:∀ h' tk,h'.DictOf knd s.heap.objs.size (kvs xs.size)->(∀ b o,b≠z->b≠TO->b≠i1->b≠i2->s.heap.get? b=some o->h'.get? b=some o)->Q (.ref s.heap.objs.size) { s with heap:=h',toks:=tk }) :
  wpAny (model prog w) A (call (.type "dict") [.ref z]) Q E s:=by
 refine callType_codes (Q₁:=fun obj s₁=>obj=.ref s.heap.objs.size/\s₁={ s with heap:=s.heap.push { cls:=.type "dict",data:=.dict #[] } }) F.kt_called_dict (F.kt_typeCall_dict_1 _) F.entry_dict_init (kt_code_dict_new _ ⟨O,O⟩) ?_;rintro obj s₁ ⟨rfl,rfl⟩
 have cC:(s.heap.push { cls:=.type "dict",data:=.dict #[] }).DictOf knd s.heap.objs.size []:=Heap.DictOf.new s.heap;have keep:∀ b o,s.heap.get? b=some o->(s.heap.push { cls:=.type "dict",data:=.dict #[] }).get? b=some o:=fun b o e=>QU _ e
 have lt:∀ b∈cs,b<s.heap.objs.size:=ch.lt;have gl:∀ {b o},s.heap.get? b=some o->b≠s.heap.objs.size:=fun e=>Q5 (QZ e)
 have N:Ak z TI TO i1 i2 l1 l2 s.heap.objs.size:=⟨gl hz,gl b8,gl dF,by obtain⟨_,e,_⟩:=h1;exact gl e,by obtain⟨_,e,_⟩:=h2;exact gl e,by obtain⟨_,e,_⟩:=cx;exact gl e,by obtain⟨_,e,_⟩:=bY;exact gl e⟩;generalize s.heap.push { cls:=.type "dict",data:=.dict #[] }=hp at cC keep ⊢;have lJ:Chn hp cs:=ch.mono fun b o _ e=>keep b o e
 have eN:IsZip hp z TI TO .none:=keep _ _ hz;refine⟨cC.typeIs,F.args_dict_init_2 _ _,?_⟩;unfold Builtin.«dict.__init__»;refine mJ ?_;unfold Builtin.Dict.selfAndRest;refine mJ (Ud cC.typeIs ?_);show wpAny _ _ (pure (s.heap.objs.size,[Value.ref z])) _ _ _;refine QW ?_;show wpAny _ _ (Builtin.Dict.updateFrom "dict.__init__" s.heap.objs.size (.ref z) [] .none) _ _ _;unfold Builtin.Dict.updateFrom;have hT:Shared.TypeIs { s with heap:=hp } (.ref z) "zip":=⟨_,eN,O⟩;refine mJ (SE hT ?_);rw[if_pos (by decide)];refine mJ ?_;refine K5 (s:={ s with heap:=hp }) (HdC.hd (A:=A.in1.in1) hc lJ) eN fun fH ki k2=>?_
 have all2:∀ b o,s.heap.get? b=some o->fH.get? b=some o:=fun b o e=>k2 b o (keep b o e)
 have yI:Chn fH cs:=lJ.mono fun b o _ e=>k2 b o e
 rw[if_pos (show(none:Option Value).isNone=true from rfl)];refine mJ (Sx ?_);refine mJ (TQ (s:={ s with heap:=fH,toks:=ki }) (all2 _ _ hz) ?_);have bW:fH.DictOf knd s.heap.objs.size (kvs 0):=by
  rw[h0];obtain⟨o,es,ep,hg,aT⟩:=cC;exact⟨o,es,ep,k2 _ _ hg,aT⟩
 have st:ZS fH z TI TO i1 i2 l1 l2 s.heap.objs.size xs ys 0:=⟨.inl (all2 _ _ hz),all2 _ _ b8,⟨_,_,all2 _ _ dF⟩,h1.at fun o e=>all2 _ o e,h2.at fun o e=>all2 _ o e,cx.at fun o e=>all2 _ o e,bY.at fun o e=>all2 _ o e⟩;refine QW ⟨plainId_quiet mh _,K1 (knd:=knd) (A:=A.in1) D N hc nz nT n1 n2 (fun q=>Rl _ (lt _ q)) aj hn ks vs kvs .none fZ hs hl s xs.size 0 fH ki O (R9 _) st yI bW (fun b o b0 _ _ _ _ e=>all2 b o e) fun h' eE hk hD=>?_⟩;exact⟨O,h h' eE hD fun b o c1 c2 c3 c4 e=>hk b o (gl e) c1 c2 c3 c4 e⟩
end
theorem Mt {p pos dZ:Pos}{a b:Expr} (hg:Gl X "dict") (hm:X.mg "dict"=none) (nQ:Gl X "zip") (JW:X.mg "zip"=none) (ha:PA X [a,b] ta) (hs:starEach [a,b] X.env=[(false,eval a X.env),(false,eval b X.env)]:=by rfl) (dD:starEach [b] X.env=[(false,eval b X.env)]:=by rfl)
  (he:starEach [.Call (.Name "zip" p2) [a,b] [] dZ] X.env=(false,eval (.Call (.Name "zip" p2) [a,b] [] dZ) X.env)::starEach [] X.env:=by rfl) (bU:(backTo pos (starEach [] X.env)).any (·.1)=false:=by rfl) :
  PE X (.Call (.Name "dict" p) [.Call (.Name "zip" p2) [a,b] [] dZ] [] pos) (fun σ H Q=>ta σ H fun vs H1=>∃ l1 l2,∃ ns:List Key,∃ ms:List V,vs=[.ref l1,.ref l2]/\SqL X.K H1 l1 (ns.map kV)/\SqL X.K H1 l2 ms/\ns.length<=ms.length/\ns.length<=1000/\∀ d,H1 d=none->Q (.ref d) (upd H1 d (.dK (mkD (ns.zip ms))))):=by
 intro aa s σ H Q I h;refine RP (g8 I hg hm vG ?_);refine PyProof.Rows.callWith_type1 ?_ he bU;rw[he];show wpAny _ _ (spliced ((false,eval _ X.env)::backTo pos (starEach [] X.env))) _ _ s;refine Calls.spliced_cons ?_;refine Call_ (g8 I nQ JW boot_zip (PyProof.Rows.callWith_type1 (thn (ha dZ aa s σ H _ I h) fun us s1=>L2.ex5 fun vs H1 I1 r1 a8=>?_) (by rw[hs,dD]) (by rw[dD];rfl)));obtain⟨l1,l2,ns,ms,e,q1,q2,aj,qU,q⟩:=a8;subst e;obtain⟨u,u',rfl,ru,qP⟩:=pY r1;obtain rfl:u=Value.ref l1:=ru;obtain rfl:u'=Value.ref l2:=qP;obtain⟨ag,rv,pl,_⟩:=I1.list q1;obtain⟨its',cg,js,_⟩:=I1.list q2;refine call_zip_2 pl.isList js.isList fun h' b1 b2 b3 b4 b5 b6 hk=>?_
 refine Calls.spliced_nil ?_;have I2:Inv X aa σ H1 { s1 with heap:=h' }:=I1.kept (t':=s1.toks) hk;obtain⟨cs,cw,ch⟩:=I1.hd.chain;have lt:∀ b∈cs,b<s1.heap.objs.size:=ch.lt;have hU:l1<s1.heap.objs.size:=by obtain⟨o,e,_⟩:=pl.isList;exact QZ e
 have km:l2<s1.heap.objs.size:=by obtain⟨o,e,_⟩:=js.isList;exact QZ e
 have nn:∀ (x y:Nat),x<y->∀ j:Nat,x≠y + j:=fun x y h j e=>by omega
 have n0:∀ (y i j:Nat),i≠j->y + i≠y + j:=fun y i j h e=>by omega
 have D:ZipApart (s1.heap.objs.size + 4) (s1.heap.objs.size + 2) (s1.heap.objs.size + 3) s1.heap.objs.size (s1.heap.objs.size + 1) l1 l2:=
  ⟨n0 _ 2 4 (by decide),n0 _ 3 4 (by decide),n0 _ 0 4 (by decide),n0 _ 1 4 (by decide),n0 _ 2 3 (by decide),n0 _ 2 0 (by decide),n0 _ 2 1 (by decide),n0 _ 3 0 (by decide),n0 _ 3 1 (by decide),n0 _ 0 1 (by decide),
   nn _ _ hU 4,nn _ _ hU 3,nn _ _ hU 0,nn _ _ hU 1,nn _ _ km 4,nn _ _ km 3,nn _ _ km 0,nn _ _ km 1⟩
 have nc:∀ j:Nat,s1.heap.objs.size + j∉cs:=fun j q=>absurd (lt _ q) (Nat.not_lt.mpr (RA _ _))
 have e1:=rv.length;have e2:=cg.length;rw[QT] at e1;have sy:∀ i k y,ns[i]?=some k->its'[i]?=some y->(ns.zip its').getD i (Sum.inl 0,.none)=(k,y):=fun i k y q1 q2=>by
  have q:(ns.zip its')[i]?=some (k,y):=by
   rw[Rx];exact⟨q1,q2⟩
  rw[QV,q];rfl
 have hz:ag.toArray.size=ns.length:=by simp[e1]
 have zl:(ns.zip ms).length=ns.length:=by rw[RL];omega
 refine LW (s:={ s1 with heap:=h' }) (knd:=bJ X.prog X.w) cw (ch.mono fun b o _ e=>hk b o e) (nc 4) (nc 3) (nc 0) (nc 1) D b1 b2 b3 b4 b5 (pl.isList.at fun o e=>hk _ o e) (js.isList.at fun o e=>hk _ o e) (by simp;omega) (by rw[hz];exact qU)
  (fun i=>((ns.zip its').getD i (Sum.inl 0,.none)).1) (fun i=>((ns.zip its').getD i (Sum.inl 0,.none)).2) (stN (ns.zip its')) O (fun _=>O) (A7 _) (fun i x y hx hy=>?_) fun cF tk hD keep=>?_
 ·have hx:ag[i]?=some x:=by simpa using hx
  have hy:its'[i]?=some y:=by simpa using hy
  have hi:i<ns.length:=by
   have:=(List.getElem?_eq_some_iff.mp hx).1;omega
  have dh:ns[i]?=some ns[i]:=QX hi;obtain⟨u,hu,ru⟩:=rv.get (i:=i) (x:=kV ns[i]) (by rw[Q4,dh];rfl);rw[hx] at hu;obtain rfl:=Option.some.inj hu;rw[sy i _ y dh hy];exact⟨kM ru,O⟩
 have rel:=Bo (kvs:=ns.zip ms) (us:=ns.zip its') (fun i kv KM=>by
  obtain⟨g1,g2⟩:=Rx.mp KM;obtain⟨u,hu,ru⟩:=cg.get g2;rw[sy i _ u g1 hu];exact⟨O,ru⟩) (ns.zip ms).length (QY _)
 rw[Rf,zl] at rel;rw[hz] at hD;have ne:(h'.objs.size == sysModules)=false:=(vt (P:=X.prog) (w:=X.w) (H:=H1) h' I2.big).2.1;have z:(mkD (ns.zip ms)).length<=sizeLine:=by
  have:=mkD_len (ns.zip ms) [];have z0:([]:List (Key×V)).length=0:=rfl;rw[Q3];unfold mkD;omega
 have le:s1.heap.objs.size<=h'.objs.size:=by omega
 refine⟨.ref h'.objs.size,_,I1.laid (a:=h'.objs.size) (o:=.dK (mkD (ns.zip ms))) (t':=tk) (fun b o e=>?_) le ⟨z,ne,_,rel,hD⟩,O,q _ (I1.hok.fresh le)⟩;have bl:=QZ e;exact keep b o (Q5 (Ri bl (RA _ 4))) (Q5 (Ri bl (RA _ 3))) (Q5 bl) (Q5 (Ri bl (RA _ 1))) (hk b o e)
section
theorem DN:∀ (vs:List Value),(∀ v∈vs,∃ x t,v=Value.str x t)->StrsAre vs (vs.map strOf)
 | [],_=>.nil
 | v::vs,h=>by
  obtain⟨x,t,rfl⟩:=h v Q9;exact .cons x t (DN vs fun u hu=>h u (Q6 _ hu))
theorem PP {P:PySem.Fin->Shared->Prop} (h:s.heap.get? a=some (seqObj "list" vs.toArray n)) (r:StrsAre vs ss) (pD:vs.length<64)
  (k:∀ (out:Array Value) (gQ:List Str),StrsAre out.toList gQ->gQ.Perm ss->sortedS gQ=true->P (.done (.ret .none)) { s with heap:=sortedHeap s.heap a vs out }):wpAny (model prog w) A (Builtin.«list.sort» { pos:=[Value.ref a] }) P E s:=by
 refine list_sort_treeK strKind_oneLt h r.keysOf (fun v₁ v₂ aT e=>keyKind_strs (by rw[<- e];exact r)) pD fun c5 hp hs=>?_
 have cv:(arrOf c5).toList.Perm (vs.zip vs):=by
  have:=hp.toList;rw[show(pairsOf vs).toList=vs.zip vs by simp[pairsOf]] at this;exact this
 have hz:∀ p∈vs.zip vs,p.1=p.2/\p.2∈vs:=fun p hq=>by
  obtain⟨i,hi⟩:=List.mem_iff_getElem?.mp hq;rw[Rx] at hi;have e:=hi.1.symm.trans hi.2;exact⟨Option.some.inj e,Q0 hi.2⟩
 have bU:((arrOf c5).map fun x=>x.snd).toList.Perm vs:=by
  rw[Array.toList_map];have:=cv.map Prod.snd;rw[List.map_snd_zip (QY _)] at this;exact this
 refine k _ (((arrOf c5).map fun x=>x.snd).toList.map strOf) (DN _ fun v hv=>r.all v (bU.mem_iff.mp hv)) ?_ (sortedS_of_pairwise _ ?_)
 ·rw[<- r.strs]
  exact bU.map _
 ·rw[List.pairwise_iff_getElem]
  intro i j hi hj w9;have KH:j<(arrOf c5).size:=by simpa using hj
  have qE:i<(arrOf c5).size:=by omega
  have at1:∀ m (hm:m<(arrOf c5).size),KK PyProof.Rows.strKind (arrOf c5) m=(strOf (arrOf c5)[m].2).cps.toList:=fun m hm=>by
   obtain⟨e1,e2⟩:=hz (arrOf c5)[m] (cv.mem_iff.mp (by rw[Array.mem_toList_iff];exact Array.getElem_mem hm));obtain⟨x,t,e3⟩:=r.all _ e2;unfold KK;rw[SY hm];dsimp only;rw[e1,e3];rfl
  have sz:(pairsOf vs).size=(arrOf c5).size:=hp.size_eq.symm;have q:=hs i j (by omega) (by omega);rw[at1 i qE,at1 j KH] at q;rw[ltCps_eq];simp only[List.getElem_map,Array.getElem_toList,Array.getElem_map]
  exact q
variable {κ:Type} [DecidableEq κ] {knd:KeyKind prog w κ}
theorem OH {Q:Value->Shared->Prop} (hc:HdC A cs){kvs:List (κ×Value)} (hd:(d == sysModules)=false) (hm:s.heap.DictAt knd d kvs ep) (c:Chn s.heap cs) (pD:kvs.length<64){ns:List Str}
  (hI:∀ acc:Array Value,ItemsOf (fun i v=>∃ k x,kvs[i]?=some (k,x)/\knd.is k v=true) acc kvs.length->StrsAre acc.toList ns)
  (h:∀ s' D (out:Array Value) (lT:List Str) (e:Nat),(∀ b o,s.heap.get? b=some o->s'.heap.get? b=some o)->s.heap.objs.size<=D->s'.gens=s.gens->s'.drawn=s.drawn->s'.os=s.os->s'.heap.get? D=some (seqObj "list" out e)->StrsAre out.toList lT->lT.Perm ns->sortedS lT=true->Q (.ref D) s') :
  wpAny (model prog w) A (call (.builtin "sorted") [.ref d]) Q E s:=by
 refine Calls.call_function_entry kind_sorted plain_sorted entry_sorted (args_sorted1 _) ?_;unfold Builtin.«sorted»;refine mJ (m:=checkCount "sorted" 1 1 _) (QW ?_);refine mJ (LB (A:=A.in1) hc hd hm c (by rw[Q3];omega) fun s' acc hk g1 g2 g3 lt bC=>?_);have hl:acc.toList.length=kvs.length:=by rw[SR];exact bC.1
 refine mJ (Uh ?_ (by rw[hl,Q3];omega));have qM:(s'.heap.push (seqObj "list" acc.toList.toArray 0)).get? s'.heap.objs.size=some (seqObj "list" acc.toList.toArray 0):=Q1 _ rfl;show wpAny _ _ _ _ _ { s' with heap:=s'.heap.push (seqObj "list" acc.toList.toArray 0) };refine mJ (Rn (RB slot_list_sort ⟨_,qM,O⟩ entry_list_sort (PP qM (hI acc bC) (by rw[hl];exact pD) fun out lT a1 a2 a3=>⟨_,O,?_⟩) (args_list_sort _)));have aY:s.heap.objs.size<=s'.heap.objs.size:=RS lt;obtain⟨e,he⟩:=sortedHeap_at (out:=out) qM;refine QW ⟨_,O,h _ s'.heap.objs.size out lT e (fun b o q=>?_) aY g1 g2 g3 he a1 a2 a3⟩;have hb:b<s'.heap.objs.size:=QZ (hk b o q);show(sortedHeap _ _ _ _).get? b=some o;rw[sortedHeap_old (Q5 hb) (by rw[size_push'];exact RM hb)];exact QU _ (hk b o q)
theorem M5 {kvs:List (κ×Value)} (hd:Hd A s.heap) (hit:s.heap.IsValIter it d i kvs.length ep) (hm:s.heap.DictAt knd d kvs ep) (hx:kvs[i]?=none)
  (hQ:∀ h',Heap.ExtBut it s.heap h'->Q none { s with heap:=h' }):wpAny (model prog w) A (pyNext (.ref it)) Q E s:=by
 obtain⟨o,ho,hc,ao⟩:=id hit;obtain⟨od,es,iA,eS,fK,hk,hp,hn⟩:=id hm;have hsz:es.size=kvs.length:=by rw[<- hp.length];simp
 have ib:es.size<=i:=by rw[hsz];simpa using hx
 have jk:Builtin.Dict_items.ownsTuple "dict_valueiterator"=false:=by decide
 unfold pyNext;refine mJ (Sh (Ry (name:=Str.ofString "__next__") hit.typeIs F.slot_dict_valueiterator_next (RB F.slot_dict_valueiterator_next hit.typeIs F.entry_dict_valueiterator_next ?_ (F.args_dict_valueiterator_next_1 _))));refine mJ (QW (mJ (mJ ?_)))
 first|refine mJ (Tp hit.typeIs (QW (mJ (SM ho ao ?_))))|refine mJ (TU hit.typeIs (QW (mJ (SM ho ao ?_))))
 simp only[jk,RE,if_false]
 show wpAny _ _ (if (Value.ref d == Value.none)=true then _ else _) _ _ s;rw[if_neg (show ¬ ((Value.ref d == Value.none)=true) from Ra)];refine mJ (QW (mJ (TC iA fK ?_)));rw[if_neg (by rw[hsz];simp)];refine mJ (QW (mJ (TZ iA fK ?_)));rw[if_neg (by simp)];refine QW ?_;simp only[show ¬ ((i:Int)<0) from by omega,if_false,Q7,Ta ib]
 refine mJ ?_
 first|refine mJ (Tp hit.typeIs (QW ?_))|refine mJ (TU hit.typeIs (QW ?_))
 refine(show wpAny _ _ (setField (.ref it) 0 .none >>= _) _ _ s from mJ (Sl ho ao (by simp) ?_));refine o7 (A:=A.in1) (hd.but ho (fun vs q=>.inr (by rw[ao] at q;cases q;simp)) (Heap.SameBut.update ..).extBut) fun h' e k' ⟨o',e',c'⟩=>?_
 exact mJ (R3 (T:="StopIteration") (b:=true) ⟨o',e',c'⟩ isSubtype_stop (QW (hQ h' fun b q hb hq=>k' b q ((Heap.SameBut.update ..).extBut b q hb hq))))
end
def Itv (d:Addr) (o:Obj) (kvs:List (Key×V)):It:=
 ⟨fun i H=>H d=some (.frz o (.dK kvs))/\i<kvs.length,fun i H v H'=>H'=H/\∃ k,kvs[i]?=some (k,v),fun i H=>H d=some (.frz o (.dK kvs))/\kvs.length<=i⟩
def ValIt (h:Heap) (it d:Addr) (o:Obj) (n i:Nat):Prop:=∃ es ep,o.data=.dict es ep/\h.IsValIter it d i n ep
theorem Pc:entryFor table "dict_valueiterator.__iter__"=some Builtin.«dict_keyiterator.__iter__»:=entryFor_alias (id':="dict_keyiterator.__iter__") (by kernel_rfl) rfl (by decide +kernel) (by kernel_rfl)
theorem Oc {K:PySem.W.Frag}:k9 P w K tg (Itv d o kvs) [it] it (fun i h=>ValIt h it d o kvs.length i) where
 mem:=by simp
 obj:=fun i h st b hb=>by
  have e:b=it:=by simpa using hb
  subst e;obtain⟨_,_,_,ob,e,_,hd⟩:=st;exact⟨ob,e,fun v q=>by rw[hd] at q;cases q⟩
 keep:=fun i h h' st kk=>by
  obtain⟨a,b,q,y⟩:=st;exact⟨a,b,q,y.at fun ob e=>kk it (by simp) ob e⟩
 item:=by
  intro X hP hw hK hc i aa s σ H E I hf st hg;subst hP hw hK;obtain⟨hd,aY⟩:=hg;obtain⟨cR,ep,ao,hit⟩:=st;obtain⟨f0,f1,f2,f3,f4,f5⟩:=hf it (by simp);obtain⟨ho,kG⟩:=I.hok _ _ hd;obtain⟨z,iz,vs,rel,⟨o',uo,uP,fO,ja,bR,r2⟩⟩:=kG;rw[ho] at fO;cases fO
  rw[ao] at bR;cases bR
  have dS:s.heap.DictAt (bJ X.prog X.w) d vs ep:=⟨o,cR,ho,ja,ao,r2⟩;obtain⟨⟨kk,x⟩,hx⟩:∃ p,kvs[i]?=some p:=⟨kvs[i],by simp[aY]⟩;obtain⟨u,hu,ru⟩:=rel.get hx;have aj:kvs.length=vs.length:=rel.length;rw[aj] at hit;refine wpAny_pyNext_values_item hit dS hu fun h' bi aW=>?_
  have I1:Inv X aa σ H { s with heap:=h' }:=I.turned (t':=s.toks) (fun b o hb e=>aW.extBut b o hb e) f0 f1 f3 f4 f5;obtain⟨oi,ei,ci,di⟩:=id bi;exact⟨u,O,Bc (s:={ s with heap:=h' }) ei ci di (by decide) ⟨x,H,I1,ru,⟨O,kk,hx⟩,⟨cR,ep,ao,by rw[aj];exact bi⟩,fun b hb=>(hf b hb).1⟩⟩
 done:=by
  intro X hP hw hK hc i aa s σ H E I hf st hg;subst hP hw hK;obtain⟨hd,ib⟩:=hg;obtain⟨cR,ep,ao,hit⟩:=st;obtain⟨f0,f1,f2,f3,f4,f5⟩:=hf it (by simp);obtain⟨ho,kG⟩:=I.hok _ _ hd;obtain⟨z,iz,vs,rel,⟨o',uo,uP,fO,ja,bR,r2⟩⟩:=kG;rw[ho] at fO;cases fO
  rw[ao] at bR;cases bR
  have dS:s.heap.DictAt (bJ X.prog X.w) d vs ep:=⟨o,cR,ho,ja,ao,r2⟩;have aj:kvs.length=vs.length:=rel.length;rw[aj] at hit;exact M5 I.hd hit dS (R7 (by rw[<- aj];exact ib)) fun h' eb=>⟨O,I.turned (t':=s.toks) (fun b o hb e=>eb b o hb e) f0 f1 f3 f4 f5⟩
 self:=fun A i s Q E st h=>by
  obtain⟨cR,ep,ao,hit⟩:=st;have hT:=hit.typeIs (s:=s);refine UA hT PySem.F.slot_dict_valueiterator_iter (RB PySem.F.slot_dict_valueiterator_iter hT Pc ?_ (PySem.F.args_dict_valueiterator_iter_1 _));show wpAny _ _ (ret (.ref it)) _ _ s;exact QW ⟨_,O,"dict_valueiterator",_,hT,PySem.F.slot_dict_valueiterator_next.lookup,h⟩
def im (v d:Addr):HO:=.ext fun h=>h.IsValuesView v d
def OA:V->List V->Hp->VK->Prop:=fun x vs H Q=>∃ d kvs,x=.ref d/\vs=[]/\H d=some (.dK kvs)/\∀ v,H v=none->Q (.ref v) (upd H v (im v d))
def iVals (tl:TE):TI:=fun σ H R=>tl σ H fun x H1=>∃ v d kvs,x=.ref v/\H1 v=some (im v d)/\H1 d=some (.dK kvs)/\∀ o,R (Itv d o kvs) (upd H1 d (.frz o (.dK kvs)))
theorem Gb:MtR X "dict.values" OA:=by
 intro aa s σ H x xs v us Q I rx r h;obtain⟨d,kvs,rfl,rfl,e,q⟩:=h;obtain rfl:v=Value.ref d:=rx;cases r
 obtain⟨z,hd,vs,rel,dd⟩:=iT I.hok e;refine call_meetsIn PySem.F.slot_dict_values dd.typeIs PySem.F.entry_dict_values (PySem.F.args_dict_values_1 _) (meets_dict_values (bJ X.prog X.w) d hd) ⟨⟨vs,dd⟩,?_⟩;refine⟨.ref s.heap.objs.size,_,I.laid (t':=s.toks) (o:=im s.heap.objs.size d) (fun b ob q=>QU _ q) (QY _) ?_,O,q _ (I.hok.fresh (QY _))⟩;exact⟨⟨_,Q1 _ O,O,O⟩,⟨_,Q1 _ O⟩,fun h1 h2 ⟨o,a,r⟩ k=>⟨o,k o a,r⟩⟩
theorem Fh {l:Expr} (hl:PE X l tl):PI X tg l (iVals tl):=by
 intro aa s σ H R I h;refine thn (hl aa s σ H _ I h) fun w s1=>L2.ex5 fun x H1 I1 r1 a8=>?_
 obtain⟨v,d,kvs,e,hv,hd,q⟩:=a8;subst e;obtain rfl:w=Value.ref v:=r1;obtain⟨z,iz,vs,rel,dd⟩:=iT I1.hok hd;obtain⟨o,cR,ep,ho,hx,ao,r⟩:=id dd;have dS:s1.heap.DictAt (bJ X.prog X.w) d vs ep:=⟨o,cR,ho,hx,ao,r⟩;refine wpAny_pyIter_values (I1.hok _ _ hv).1 dS ?_;have I2:=(I1.freeze hd ho).kept (t':=s1.toks) (h':=s1.heap.push { cls:=.type "dict_valueiterator",data:=.fields #[.ref d,.int 0 0,.int vs.length 0,.int ep 0] }) fun b o e=>QU _ e
 refine⟨s1.heap.objs.size,[s1.heap.objs.size],_,_,_,O,I2,Oc,⟨cR,ep,ao,?_⟩,fun b hb=>?_,q o⟩
 ·rw[rel.length];exact⟨_,Q1 _ O,O,O⟩
 ·have e:b=s1.heap.objs.size:=by simpa using hb
  subst e;refine I1.fpOk (QY _) ?_;rw[ai (Ne.symm (Q5 (QZ ho)))];exact I1.hok.fresh (QY _)
theorem OI:gD X (.builtin "sorted") (fun xs H Q=>∃ d kvs,∃ ss:List Str,xs=[.ref d]/\H d=some (.dK kvs)/\(kvs.map fun kv=>kV kv.1)=ss.map V.str/\ss.length<64 /\
  ∀ (l:Addr) (gQ:List Str),H l=none->gQ.Perm ss->sortedS gQ=true->Q (.ref l) (upd H l (.lst (gQ.map V.str)))):=by
 intro aa s σ H xs us Q I r h;obtain⟨d,kvs,ns,rfl,hd,nK,pD,q⟩:=h;obtain⟨u,rfl,ru⟩:=gE r;obtain rfl:u=Value.ref d:=ru;obtain⟨z,iz,vs,rel,dd⟩:=iT I.hok hd;obtain⟨ep,dS⟩:=dd.dictAt;obtain⟨cs,cw,ch⟩:=I.hd.chain;have hl:vs.length=ns.length:=by
  have:=congrArg List.length nK;rw[QT,QT] at this;rw[<- rel.length,this]
 refine OH cw iz dS ch (by rw[hl];exact pD) (ns:=ns) (fun acc ha=>EQ (by rw[<- nK];exact Mm rel (by simpa using ha.1) fun i v hv=>ha.2 i v (by simpa using hv))) fun s' D out lT e kp le g1 g2 g3 hD a1 a2 a3=>?_
 have eN:lT.length<=sizeLine:=by rw[a2.length_eq,Q3];omega
 have I':Inv X aa σ (upd H D (.lst (lT.map V.str))) { s with heap:=s'.heap,toks:=s'.toks }:=
  I.laid kp le ⟨by rw[QT];exact eN,out.toList,e,Aq a1,by simpa using hD⟩
 obtain⟨h',g',d',t',uA⟩:=s';dsimp only at g1 g2 g3 I';subst g1 g2 g3;exact⟨.ref D,_,I',O,q _ _ (I.hok.fresh le) a2 a3⟩
theorem Gs {Q:VK} (Pv:Nat->St->Hp->Prop) (h0:Pv 0 τ H) (hf:∀ i τ H,i<=kvs.length->Pv i τ H->H d=some (.frz o (.dK kvs)))
  (hs:∀ i k x τ H,kvs[i]?=some (k,x)->Pv i τ H->g x τ H fun τ2 H2=>tt τ2 H2 fun b H3=>
   if b=true then te τ2 H3 fun y H4=>∃ ys,H4 D=some (.lst ys)/\ys.length<sizeLine/\Pv (i + 1) τ2 (upd H4 D (.lst (ys++[y]))) else Pv (i + 1) τ2 H3)
  (hd:∀ τ H,Pv kvs.length τ H->Q (.ref D) H):jK (Itv d o kvs) D τ H g tt te Q:=
 wk_ (n:=kvs.length) Pv h0 (fun i σ H hi p=>⟨fun h=>⟨hf i σ H hi p,h⟩,fun h=>⟨hf i σ H hi p,h⟩⟩) (fun i v σ H H' hi p y=>by
 obtain⟨rfl,k,hx⟩:=y;exact hs i k v σ _ hx p) hd
theorem aZ.of {P:List Str}{sc:Scope} (h:sc.kind=.function/\sc.isCoroutine=false/\sc.isGenerator=false/\N.Nodup/\N.take P.length=P/\(∀ x∈P,sc.names.lookup x=some .local\/sc.names.lookup x=some .cell)/\∀ y∈sc.names,y.2≠.free):aZ N P sc:=⟨h.1,h.2.1,h.2.2.1,h.2.2.2.1,h.2.2.2.2.1,h.2.2.2.2.2.1,h.2.2.2.2.2.2⟩
section
variable {K:PySem.W.Frag}{m:Str}{cL TP:Addr}{Ih:Value}{an Ks:Option Addr}{JF:Array (Option Value)}{kV bL aA:Value}{vs:Array Value}
abbrev fnN (x qual:Str) (st:Stmt) (kV bL pm:Value) (an:Option Addr) (aA ct:Value):FuncData:=PySem.W.fnOf x qual (tE st) (md st) (aC st) .none kV bL pm an aA ct
theorem def_mk (X:K.In h) (G:h.Ns mainGlobals mg) (a:PySem.W.nsIn K mainGlobals x=some (some (.ref f))) (l:K.lookup f=some ⟨oc,od,.func (fnN x x st kV bL pm an aA ct),dI⟩) (c:PySem.W.codeIn K aA x=true) (k:PySem.W.keepIn K (.ref f)=true)
  (b:∀ us:List Value,us.length=ps.length->bindArgs (fnN x x st kV bL pm an aA ct) ⟨us,[]⟩=pure (ps.zip us)):Def K mg x st ps []:=⟨⟨_,_,[],tJ l c,PySem.W.mg_of X G a,k,.all b,.nil⟩⟩
theorem met_mk (a:PySem.W.findIn K (.ref C) m=some (some (.ref f))) (i:PySem.W.isFn K (.ref f)=true) (l:K.lookup f=some ⟨oc,od,.func (fnN m qual st kV bL pm an aA ct),dI⟩) (c:PySem.W.codeIn K aA qual=true) (k:PySem.W.keepIn K (.ref f)=true)
  (b:∀ us:List Value,us.length=ps.length->bindArgs (fnN m qual st kV bL pm an aA ct) ⟨us,[]⟩=pure (ps.zip us)):Met K C m qual st ps []:=⟨⟨f,_,[],tJ l c,⟨a,i,k⟩,.all b,.nil⟩⟩
theorem ini_mk (X:K.In h) (G:h.Ns mainGlobals mg) (g:PySem.W.nsIn K mainGlobals x=some (some (.ref C))) (mk:PySem.W.makesIn K C=true) (kc:PySem.W.keepIn K (.ref C)=true) (a:PySem.W.findIn K (.ref C) "__init__"=some (some (.ref f))) (i:PySem.W.isFn K (.ref f)=true) (l:K.lookup f=some ⟨oc,od,.func (fnN "__init__" qual st kV bL pm an aA ct),dI⟩) (c:PySem.W.codeIn K aA qual=true)
  (b:∀ us:List Value,us.length=ps.length->bindArgs (fnN "__init__" qual st kV bL pm an aA ct) ⟨us,[]⟩=pure (ps.zip us)):Ini K mg C x qual st ps:=⟨⟨f,_,tJ l c,⟨mk,a,i,kc⟩,PySem.W.mg_of X G g,.all b⟩⟩
theorem znl (X:K.In h) (G:h.Ns mainGlobals mg) (g:PySem.W.nsIn K mainGlobals x=some (some (.ref C))) (xa:tS K C bmV "ValueError.__new__"=true) (kc:PySem.W.keepIn K (.ref C)=true) (a:PySem.W.findIn K (.ref C) "__init__"=some (some (.ref f))) (i:PySem.W.isFn K (.ref f)=true) (l:K.lookup f=some ⟨oc,od,.func (fnN "__init__" qual st kV bL pm an aA ct),dI⟩) (c:PySem.W.codeIn K aA qual=true)
  (b:∀ us:List Value,us.length=ps.length->bindArgs (fnN "__init__" qual st kV bL pm an aA ct) ⟨us,[]⟩=pure (ps.zip us)):XIni K mg C x qual st ps:=⟨⟨f,_,tJ l c,⟨xa,kc,a,i⟩,PySem.W.mg_of X G g,.all b⟩⟩
theorem int_mk {n:Int} (X:K.In h) (G:h.Ns mainGlobals mg) (a:PySem.W.nsIn K mainGlobals x=some (some (.int n t))):∃ t,mg x=some (.int n t):=⟨t,PySem.W.mg_of X G a⟩
theorem lam_mk  (X:K.In h) (G:h.Ns mainGlobals mg) (a:PySem.W.nsIn K mainGlobals x=some (some (.ref f))) (l:K.lookup f=some ⟨oc,od,.func fd,dI⟩) (lc:fd.code=.ref cL) (lk:K.lookup cL=some ⟨Ih,Ks,.fields vs,JF⟩) (lt:vs[11]?=some (.ref TP)) (lh:PySem.W.codeHdIn K cL TP=true) (ln:K.lookup TP=none):Ay K mg x TP:=⟨⟨f,PySem.W.mg_of X G a,⟨cL,Lv l lc,lh⟩,ln⟩⟩
end
section
open PySem.SeqAt
open AutoSeq1 (wpAny_loadPart')
end
end L2
namespace K63
open PySem L2
def top (i:Nat):Stmt:=PySem.Challenge.pw_layerdraw_k63_laid_sideways.main.body.getD i (.Pass ⟨0,0,0,0⟩)
abbrev Fk:Stmt:=vi (top 4) 0
theorem PQ:aZ ["self","ring"] ["self","ring"] (aC Fk):=.of (by decide +kernel)
abbrev A4:Stmt:=top 6
theorem O0:aZ ["wishes"] ["wishes"] (aC A4):=.of (by decide +kernel)
abbrev GD:Stmt:=top 7
theorem vK:aZ ["count","wishes","amounts","left","wish","amount"] ["count","wishes","amounts"] (aC GD):=.of (by decide +kernel)
abbrev wu:Stmt:=top 8
theorem Pb:aZ ["count","wishes","flow"] ["count","wishes","flow"] (aC wu):=.of (by decide +kernel)
abbrev oU:Stmt:=vi (top 11) 0
theorem AK:aZ ["self","count","wishes","number","wish"] ["self","count","wishes"] (aC oU):=.of (by decide +kernel)
abbrev GM:Stmt:=vi (top 11) 1
theorem PK:aZ ["self","number"] ["self","number"] (aC GM):=.of (by decide +kernel)
abbrev D0:Stmt:=vi (top 11) 2
theorem ON:aZ ["self","number","point"] ["self","number","point"] (aC D0):=.of (by decide +kernel)
abbrev s_fit:Stmt:=top 12
theorem pT:aZ ["layout","count","pushers","pushed","time"] ["layout"] (aC s_fit):=.of (by decide +kernel)
abbrev GX:Stmt:=top 13
theorem pX:aZ ["layout","pushers","pushed","number","other","lacking"] ["layout","pushers"] (aC GX):=.of (by decide +kernel)
abbrev FP:Stmt:=top 14
theorem vJ:aZ ["layout","pushers","point","time","ring"] ["layout","pushers","point"] (aC FP):=.of (by decide +kernel)
abbrev GT:Stmt:=top 15
theorem p0:aZ ["layout","far","came_by","end","point","distance"] ["layout"] (aC GT):=.of (by decide +kernel)
abbrev An:Stmt:=top 16
theorem uh:aZ ["layout","far","came_by","waiting","point","need"] ["layout","far","came_by"] (aC An):=.of (by decide +kernel)
abbrev vo:Stmt:=top 17
theorem pW:aZ ["layout","point","far","waiting","came_by","steps","number","slack","neighbour","distance"] ["layout","point","far","waiting","came_by"] (aC vo):=.of (by decide +kernel)
abbrev EF:Stmt:=top 18
theorem vO:aZ ["layout","came_by","end","steps","point"] ["layout","came_by","end"] (aC EF):=.of (by decide +kernel)
abbrev vX:Stmt:=top 19
theorem oV:aZ ["layout","steps","end","last","start","back","amount","number","point"] ["layout","steps","end"] (aC vX):=.of (by decide +kernel)
abbrev AN:Stmt:=top 20
theorem pV:aZ ["count","wishes","parts","wish","old","new"] ["count","wishes"] (aC AN):=.of (by decide +kernel)
abbrev AO:Stmt:=top 21
theorem wx:aZ ["places","parts","least","place","part"] ["places","parts"] (aC AO):=.of (by decide +kernel)
abbrev Ez:Stmt:=top 22
theorem EE:aZ ["weights","worths"] ["weights"] (aC Ez):=.of (by decide +kernel)
abbrev tz:Stmt:=top 23
theorem vL:aZ ["count","wishes","layout","weights","worth"] ["count","wishes"] (aC tz):=.of (by decide +kernel)
abbrev Gr:Stmt:=top 27
theorem Ml:aZ ["halves","gap","left","right"] ["halves","gap","left","right"] (aC Gr):=.of (by decide +kernel)
abbrev Bg:Stmt:=top 28
theorem Ag:aZ ["rows","found","row"] ["rows"] (aC Bg):=.of (by decide +kernel)
abbrev zW:Stmt:=top 29
theorem LS:aZ ["rows","halves","gap","places"] ["rows","halves","gap","places"] (aC zW):=.of (by decide +kernel)
abbrev Be:Stmt:=top 30
theorem Lq:aZ ["lines","places"] ["lines","places"] (aC Be):=.of (by decide +kernel)
variable {P:Nat->Int}{i r:Nat}{t:Nat->Nat}
abbrev FL:Stmt:=top 31
theorem zZ:aZ ["rows","marks","row"] ["rows"] (aC FL):=.of (by decide +kernel)
abbrev wo:Stmt:=top 32
theorem p6:aZ ["rows","halves","lines","gap","marks","numbers","wishes","helper","line"] ["rows","halves","lines","gap"] (aC wo):=.of (by decide +kernel)
abbrev Ef:Stmt:=top 33
theorem AR:aZ ["rows","halves","lines","gap","question","answer"] ["rows","halves","lines","gap"] (aC Ef):=.of (by decide +kernel)
abbrev FG:Stmt:=top 35
theorem P3:aZ ["_law_script","_law_k"] ["_law_script","_law_k"] (aC FG):=.of (by decide +kernel)
abbrev D3:Stmt:=top 36
theorem Gy:aZ ["_law_cell","_law_k","_law_number"] ["_law_cell","_law_k"] (aC D3):=.of (by decide +kernel)
abbrev Ao:Stmt:=top 37
theorem oW:aZ ["_law_script","_law_first","_law_marks","_law_rows_here","_law_halves","_law_k","_law_mark"] ["_law_script"] (aC Ao):=.of (by decide +kernel)
abbrev GR:Stmt:=top 38
theorem pS:aZ ["_law_cells","_law_marks","_law_lines_here","_law_cell","_law_one","_law_other","_law_weight"] ["_law_cells","_law_marks"] (aC GR):=.of (by decide +kernel)
abbrev D5:Stmt:=top 39
theorem NW:aZ ["_law_found"] ["_law_found"] (aC D5):=.of (by decide +kernel)
abbrev vx:Stmt:=top 40
theorem vQ:aZ ["_law_count","_law_wishes","_law_flow","_law_spare","_law_number","_law_wish"] ["_law_count","_law_wishes","_law_flow"] (aC vx):=.of (by decide +kernel)
abbrev vA:Stmt:=top 41
theorem jJ:aZ ["_law_marks","_law_rows_here","_law_lines_here","_law_part","_law_mark","_law_pairs","_law_row","_law_one","_law_other","_law_old"] ["_law_marks","_law_rows_here","_law_lines_here"] (aC vA):=.of (by decide +kernel)
abbrev Ap:Stmt:=top 42
theorem wk:aZ ["_law_marks","_law_rows_here","_law_lines_here","_law_places","_law_least","_law_mark","_law_part"] ["_law_marks","_law_rows_here","_law_lines_here","_law_places"] (aC Ap):=.of (by decide +kernel)
abbrev vC:Stmt:=top 43
theorem oE:aZ ["_law_marks","_law_rows_here","_law_halves","_law_lines_here","_law_gap","_law_found","_law_places","_law_flow","_law_count","_law_wishes","_law_price","_law_whole_here"] ["_law_marks","_law_rows_here","_law_halves","_law_lines_here","_law_gap","_law_found"] (aC vC):=.of (by decide +kernel)
abbrev sX:Stmt:=top 44
theorem mI:aZ ["_law_script","_law_marks","_law_rows_here","_law_halves","_law_lines_here","_law_gap","_law_found","_law_held"] ["_law_script"] (aC sX):=.of (by decide +kernel)
def oz:Pos:=⟨88,33,88,69⟩
def oH:Str:=(("search":Str)++(".<locals>.":Str))++("<lambda>":Str)
structure Adr where
 DrawError:Addr
 TooMany:Addr
 NoFlow:Addr
 Ring:Addr
 Layout:Addr
 tb_search:Addr
structure Tx (K:PySem.W.Frag) (mg:Str->Option Value) (a:Adr):Prop where
 g_DrawError:mg "DrawError"=some (.ref a.DrawError)
 xb_DrawError:PySem.W.mroIn K a.DrawError (.type "BaseException")=some true
 xt_DrawError:PySem.W.typeIn K (.ref a.DrawError)=some (.type "type")
 g_TooMany:mg "TooMany"=some (.ref a.TooMany)
 xb_TooMany:PySem.W.mroIn K a.TooMany (.type "BaseException")=some true
 xt_TooMany:PySem.W.typeIn K (.ref a.TooMany)=some (.type "type")
 x_TooMany:XC0 K a.TooMany
 g_NoFlow:mg "NoFlow"=some (.ref a.NoFlow)
 xb_NoFlow:PySem.W.mroIn K a.NoFlow (.type "BaseException")=some true
 xt_NoFlow:PySem.W.typeIn K (.ref a.NoFlow)=some (.type "type")
 x_NoFlow:XC0 K a.NoFlow
 g_Ring:mg "Ring"=some (.ref a.Ring)
 xb_Ring:PySem.W.mroIn K a.Ring (.type "BaseException")=some true
 xt_Ring:PySem.W.typeIn K (.ref a.Ring)=some (.type "type")
 g_Layout:mg "Layout"=some (.ref a.Layout)
 c_Layout:Cls K a.Layout
 na_Layout_coming:zbL K a.Layout "coming"
 na_Layout_flow:zbL K a.Layout "flow"
 na_Layout_going:zbL K a.Layout "going"
 na_Layout_leasts:zbL K a.Layout "leasts"
 na_Layout_needs:zbL K a.Layout "needs"
 na_Layout_ones:zbL K a.Layout "ones"
 na_Layout_others:zbL K a.Layout "others"
 na_Layout_places:zbL K a.Layout "places"
 xi_Ring:XIni K mg a.Ring "Ring" "Ring.__init__" Fk ["self","ring"]
 xs_Ring_ring:XSet K a.Ring "ring"
 xg_Ring_ring:XGet K a.Ring "ring"
 d_weights_of:Def K mg "weights_of" A4 ["wishes"] []
 d_left_at_points:Def K mg "left_at_points" GD ["count","wishes","amounts"] []
 d_bound:Def K mg "bound" wu ["count","wishes","flow"] []
 i_Layout:Ini K mg a.Layout "Layout" "Layout.__init__" oU ["self","count","wishes"]
 m_Layout_slack:Met K a.Layout "slack" "Layout.slack" GM ["self","number"] []
 m_Layout_end_across:Met K a.Layout "end_across" "Layout.end_across" D0 ["self","number","point"] []
 d_fit:Def K mg "fit" s_fit ["layout"] []
 d_push_once:Def K mg "push_once" GX ["layout","pushers"] []
 d_ring_behind:Def K mg "ring_behind" FP ["layout","pushers","point"] []
 d_send_once:Def K mg "send_once" GT ["layout"] []
 d_search:Def K mg "search" An ["layout","far","came_by"] []
 d_look_around:Def K mg "look_around" vo ["layout","point","far","waiting","came_by"] []
 d_way_back:Def K mg "way_back" EF ["layout","came_by","end"] []
 d_send_along:Def K mg "send_along" vX ["layout","steps","end"] []
 d_parts_of:Def K mg "parts_of" AN ["count","wishes"] []
 d_from_nought:Def K mg "from_nought" AO ["places","parts"] []
 d_figure_worths:Def K mg "figure_worths" Ez ["weights"] []
 d_laid:Def K mg "laid" tz ["count","wishes"] []
 d_apart:Def K mg "apart" Gr ["halves","gap","left","right"] []
 d_neighbours:Def K mg "neighbours" Bg ["rows"] []
 d_keeps_gap:Def K mg "keeps_gap" zW ["rows","halves","gap","places"] []
 d_cost_of:Def K mg "cost_of" Be ["lines","places"] []
 d_marks_in_line:Def K mg "marks_in_line" FL ["rows"] []
 d_asked:Def K mg "asked" wo ["rows","halves","lines","gap"] []
 d_sideways:Def K mg "sideways" Ef ["rows","halves","lines","gap"] []
 d__law_cell_at:Def K mg "_law_cell_at" FG ["_law_script","_law_k"] []
 d__law_mixed:Def K mg "_law_mixed" D3 ["_law_cell","_law_k"] []
 d__law_rows:Def K mg "_law_rows" Ao ["_law_script"] []
 d__law_lines:Def K mg "_law_lines" GR ["_law_cells","_law_marks"] []
 d__law_whole:Def K mg "_law_whole" D5 ["_law_found"] []
 d__law_flows:Def K mg "_law_flows" vx ["_law_count","_law_wishes","_law_flow"] []
 d__law_parts:Def K mg "_law_parts" vA ["_law_marks","_law_rows_here","_law_lines_here"] []
 d__law_begins:Def K mg "_law_begins" Ap ["_law_marks","_law_rows_here","_law_lines_here","_law_places"] []
 d__law_right:Def K mg "_law_right" vC ["_law_marks","_law_rows_here","_law_halves","_law_lines_here","_law_gap","_law_found"] []
 d_law:Def K mg "law" sX ["_law_script"] []
 k_BASE:∃ t,mg "BASE"=some (.int 16 t)
 k_MOST_LINES:∃ t,mg "MOST_LINES"=some (.int 40 t)
 k_MOST_MARKS:∃ t,mg "MOST_MARKS"=some (.int 40 t)
 lam_search:Ay K mg "search" a.tb_search
 kb_int_int:PySem.W.kitOne K (.type "int") (.type "int")=some true
 kb_int_bool:PySem.W.kitOne K (.type "int") (.type "bool")=some false
 kb_list_list:PySem.W.kitOne K (.type "list") (.type "list")=some true
 kb_tuple_tuple:PySem.W.kitOne K (.type "tuple") (.type "tuple")=some true
 kb_dict_dict:PySem.W.kitOne K (.type "dict") (.type "dict")=some true
 n_abs:mg "abs"=none
 n_all:mg "all"=none
 n_any:mg "any"=none
 n_bool:mg "bool"=none
 n_dict:mg "dict"=none
 n_enumerate:mg "enumerate"=none
 n_int:mg "int"=none
 n_isinstance:mg "isinstance"=none
 n_len:mg "len"=none
 n_list:mg "list"=none
 n_max:mg "max"=none
 n_min:mg "min"=none
 n_range:mg "range"=none
 n_sorted:mg "sorted"=none
 n_sum:mg "sum"=none
 n_tuple:mg "tuple"=none
 n_zip:mg "zip"=none
def itr {α:Type} (f:α->α):Nat->α->α
 | 0,a=>a
 | k + 1,a=>f (itr f k a)
theorem tU {α:Type} (f:α->α) (i:Nat) (a:α):∀ j,itr f (i + j) a=itr f j (itr f i a)
 | 0=>rfl
 | j + 1=>by
  show f (itr f (i + j) a)=f (itr f j (itr f i a));rw[tU f i a j]
theorem F0:∀ (c:Nat) (f:Nat->Nat),(∀ i,i<=c->f i<c)->∃ i j,i<j/\j<=c/\f i=f j
 | 0,f,h=>absurd (h 0 (QY _)) (R0 _)
 | c + 1,f,h=>by
  by_cases e:∃ i,i<=c/\f i=f (c + 1)
  ·obtain⟨i,hi,q⟩:=e
   exact⟨i,c + 1,by omega,QY _,q⟩
  ·have ne:∀ i,i<=c->f i≠f (c + 1):=fun i hi q=>e ⟨i,hi,q⟩
   have hl:=h (c + 1) (QY _);obtain⟨i,j,ij,jc,q⟩:=F0 c (fun i=>if f i=c then f (c + 1) else f i) fun i hi=>by
    have h1:=h i (by omega);have h2:=ne i hi;show(if f i=c then f (c + 1) else f i)<c;split <;> omega
   refine⟨i,j,ij,by omega,?_⟩;have n1:=ne i (by omega);have n2:=ne j jc;have q:(if f i=c then f (c + 1) else f i)=if f j=c then f (c + 1) else f j:=q;split at q <;> split at q <;> omega
structure Wn where
 c:Nat
 m:Nat
 on:Nat->Nat
 ot:Nat->Nat
 le:Nat->Int
structure Wn.Ok (N:Wn):Prop where
 on:∀ n,n<N.m->N.on n<N.c
 ot:∀ n,n<N.m->N.ot n<N.c
def slk (N:Wn) (P:Nat->Int) (n:Nat):Int:=P (N.ot n) - P (N.on n) - N.le n
def up {α:Type} (f:Nat->α) (k:Nat) (v:α):Nat->α:=fun i=>if i=k then v else f i
theorem aS {α:Type} (f:Nat->α) (k:Nat) (v:α):up f k v k=v:=if_pos rfl
theorem aK {α:Type} (f:Nat->α){k:Nat} (v:α) (h:i≠k):up f k v i=f i:=if_neg h
def bk (N:Wn) (pu:Nat->Option Nat) (v:Nat):Nat:=match pu v with
 | some n=>N.on n
 | none=>v
def fS (N:Wn) (pu:Nat->Option Nat) (p:Nat):Nat->Int
 | 0=>0
 | k + 1=>fS N pu p k + (match pu (itr (bk N pu) k p) with
  | some n=>N.le n
  | none=>0)
def Rg (N:Wn) (pu:Nat->Option Nat):Prop:=∀ p k,0<k->(∀ i,i<k->(pu (itr (bk N pu) i p)).isSome=true)->itr (bk N pu) k p=p->0<fS N pu p k
structure Fi (N:Wn) (t:Nat->Nat) (P:Nat->Int) (pu:Nat->Option Nat):Prop where
 a:∀ v n,pu v=some n->n<N.m/\N.ot n=v/\P v<=P (N.on n) + N.le n
 b:Rg N pu
 c:∀ v,1<=t v->∃ n,pu v=some n/\t v<=t (N.on n) + 1
structure Rd (N:Wn) (t:Nat->Nat) (P:Nat->Int) (r k:Nat):Prop where
 g:∀ v,t v<=r
 d:∀ n,n<k->n<N.m->0<=slk N P n\/r<=t (N.on n)
 e:∀ n,k<=n->n<N.m->0<=slk N P n\/r<=t (N.on n) + 1
theorem Fi.start (N:Wn):Fi N (fun _=>0) (fun _=>0) (fun _=>none):=⟨fun v n h=>(by cases h),fun p k h1 h2=>absurd (h2 0 h1) (by decide),fun v h=>absurd h (by decide)⟩
theorem Rd.start (N:Wn) (P:Nat->Int):Rd N (fun _=>0) P 1 0:=⟨fun _=>R9 _,fun n h=>absurd h (R0 _),fun n _ _=>.inr (by omega)⟩
theorem Rd.next {N:Wn} (h:Rd N t P r N.m):Rd N t P (r + 1) 0:=by
 refine⟨fun v=>Uy (h.g v),fun n h=>absurd h (R0 _),fun n _ hm=>?_⟩;rcases h.d n hm hm with q|q
 ·exact .inl q
 ·exact .inr (by omega)
theorem Rd.skip {N:Wn}{k:Nat} (h:Rd N t P r k) (s:0<=slk N P k):Rd N t P r (k + 1):=by
 refine⟨h.g,fun n h1 h2=>?_,fun n h1 h2=>h.e n (by omega) h2⟩;rcases RZ n k with q|q
 ·exact h.d n q h2
 ·obtain rfl:n=k:=by omega
  exact .inl s
variable {D a am d:Int}{Lk lX:Nat->Nat->Int->Prop}{N:Wn}{c e j n p q s size x:Nat}{cm pu:Nat->Option Nat}{fl nd w:Nat->Int}{r:List (Str×V)}{rk:Nat->Nat}{v:V}{wt:Nat->Option Int}
theorem ED {N:Wn}{pu:Nat->Option Nat}{P:Nat->Int}{p:Nat}:∀ k,(∀ i,i<k->∃ n,pu (itr (bk N pu) i p)=some n/\P (itr (bk N pu) i p)<=P (N.on n) + N.le n)->P p<=P (itr (bk N pu) k p) + fS N pu p k
 | 0,_=>by
  show P p<=P p + 0;omega
 | k + 1,h=>by
  have ih:=ED k fun i hi=>h i (by omega)
  obtain⟨n,e,q⟩:=h k (by omega);have e2:itr (bk N pu) (k + 1) p=N.on n:=by
   show bk N pu (itr (bk N pu) k p)=_;unfold bk;unfold bk at e;rw[e]
  have e3:fS N pu p (k + 1)=fS N pu p k + N.le n:=by
   show fS N pu p k + _=_;rw[e]
  rw[e2,e3];omega
theorem GA {N:Wn}{pu:Nat->Option Nat}{P:Nat->Int}{p j:Nat}:∀ k,j<k->(∀ i,i<k->∃ n,pu (itr (bk N pu) i p)=some n/\P (itr (bk N pu) i p)<=P (N.on n) + N.le n)->(∃ n,pu (itr (bk N pu) j p)=some n/\P (itr (bk N pu) j p)<P (N.on n) + N.le n)->P p<P (itr (bk N pu) k p) + fS N pu p k
 | 0,hj,_,_=>absurd hj (R0 _)
 | k + 1,hj,h,s=>by
  obtain⟨n,e,q⟩:=h k (by omega);have e2:itr (bk N pu) (k + 1) p=N.on n:=by
   show bk N pu (itr (bk N pu) k p)=_;unfold bk;unfold bk at e;rw[e]
  have e3:fS N pu p (k + 1)=fS N pu p k + N.le n:=by
   show fS N pu p k + _=_;rw[e]
  rw[e2,e3];by_cases c:j<k
  ·have ih:=GA k c (fun i hi=>h i (by omega)) s
   omega
  ·obtain rfl:j=k:=by omega
   obtain⟨n',e',q'⟩:=s;rw[e] at e';cases e'
   have:=ED j fun i hi=>h i (by omega)
   omega
section
variable {r k:Nat}
theorem AC (s:slk N P k<0) (w:Nat):P w<=up P (N.ot k) (P (N.ot k) + (0 - slk N P k)) w:=by
 unfold up;split
 ·rename_i e
  rw[e];omega
 ·omega
theorem up_t (g:∀ v,t v<=r) (w:Nat):t w<=up t (N.ot k) r w:=by
 unfold up;split
 ·exact g w
 ·exact QY _
theorem Li (f:Fi N t P pu) (h:Rd N t P r k) (hk:k<N.m) (s:slk N P k<0):Fi N (up t (N.ot k) r) (up P (N.ot k) (P (N.ot k) + (0 - slk N P k))) (up pu (N.ot k) (some k)):=by
 refine⟨fun w n e=>?_,fun p k' h0 hs hc=>?_,fun w hw=>?_⟩
 ·by_cases c:w=N.ot k
  ·subst c
   rw[aS] at e;cases e
   refine⟨hk,O,?_⟩;rw[aS];have:=AC s (N.on k);unfold slk at this ⊢;omega
  ·rw[aK _ _ c] at e
   obtain⟨a1,a2,a3⟩:=f.a w n e;refine⟨a1,a2,?_⟩;rw[aK _ _ c];have:=AC s (N.on n);omega
 ·have old:∀ i,i<k'->∃ n,up pu (N.ot k) (some k) (itr (bk N (up pu (N.ot k) (some k))) i p)=some n/\P (itr (bk N (up pu (N.ot k) (some k))) i p)<=P (N.on n) + N.le n:=fun i hi=>by
   obtain⟨n,e⟩:=Option.isSome_iff_exists.mp (hs i hi);refine⟨n,e,?_⟩;generalize itr (bk N (up pu (N.ot k) (some k))) i p=w at e;by_cases c:w=N.ot k
   ·subst c
    rw[aS] at e;cases e
    unfold slk at s;omega
   ·rw[aK _ _ c] at e
    exact(f.a w n e).2.2
  by_cases c:∃ j,j<k'/\itr (bk N (up pu (N.ot k) (some k))) j p=N.ot k
  ·obtain⟨j,hj,e⟩:=c
   have z:=GA k' hj old ⟨k,by rw[e,aS],by
    rw[e];unfold slk at s;omega⟩
   rw[hc] at z;omega
  ·have ne:∀ i,i<k'->itr (bk N (up pu (N.ot k) (some k))) i p≠N.ot k:=fun i hi e=>c ⟨i,hi,e⟩
   have same:∀ i,i<=k'->itr (bk N (up pu (N.ot k) (some k))) i p=itr (bk N pu) i p/\fS N (up pu (N.ot k) (some k)) p i=fS N pu p i:=fun i=>by
    induction i with
    | zero=>exact fun _=>⟨O,O⟩
    | succ i ih=>
     intro hi;obtain⟨e1,e2⟩:=ih (by omega);have n1:=ne i (by omega);rw[e1] at n1
     constructor
     ·show bk N (up pu (N.ot k) (some k)) (itr (bk N (up pu (N.ot k) (some k))) i p)=bk N pu (itr (bk N pu) i p)
      rw[e1];unfold bk at n1 ⊢;rw[aK _ _ n1]
     ·show fS N (up pu (N.ot k) (some k)) p i + _=fS N pu p i + _
      rw[e1,e2,aK _ _ n1]
   rw[(same k' (QY _)).2];refine f.b p k' h0 (fun i hi=>?_) ?_
   ·have:=hs i hi
    have n1:=ne i hi;rw[(same i (by omega)).1] at this n1;rw[aK _ _ n1] at this;exact this
   ·rw[<- (same k' (QY _)).1]
    exact hc
 ·by_cases c:w=N.ot k
  ·subst c
   refine⟨k,aS _ _ _,?_⟩;rw[aS];rcases h.e k (QY _) hk with q|q
   ·omega
   ·have:=up_t (N:=N) (k:=k) h.g (N.on k)
    omega
  ·rw[aK _ _ c] at hw
   obtain⟨n,e1,e2⟩:=f.c w hw;refine⟨n,by rw[aK _ _ c];exact e1,?_⟩;rw[aK t r c];have:=up_t (N:=N) (k:=k) h.g (N.on n);omega
theorem EH (s:slk N P k<0) (n:Nat) (c:N.on n≠N.ot k):slk N P n<=slk N (up P (N.ot k) (P (N.ot k) + (0 - slk N P k))) n:=by
 have:=AC s (N.ot n);generalize e:slk N P k=z at this s;unfold slk;rw[aK _ _ c];omega
theorem Nd (h:Rd N t P r k) (s:slk N P k<0):Rd N (up t (N.ot k) r) (up P (N.ot k) (P (N.ot k) + (0 - slk N P k))) r (k + 1):=by
 refine⟨fun w=>?_,fun n h1 h2=>?_,fun n h1 h2=>?_⟩
 ·unfold up
  split
  ·exact QY _
  ·exact h.g w
 ·by_cases c:N.on n=N.ot k
  ·right
   rw[c,aS];exact QY _
  ·rcases RZ n k with q|q
   ·rcases h.d n q h2 with z|z
    ·left
     have:=EH s n c;omega
    ·right
     rw[aK _ _ c];exact z
   ·obtain rfl:n=k:=by omega
    left
    have e:slk N (up P (N.ot n) (P (N.ot n) + (0 - slk N P n))) n=0:=by
     generalize ez:slk N P n=z;unfold slk at ez ⊢;rw[aK _ _ c,aS];omega
    omega
 ·by_cases c:N.on n=N.ot k
  ·right
   rw[c,aS];omega
  ·rcases h.e n (by omega) h2 with z|z
   ·left
    have:=EH s n c;omega
   ·right
    rw[aK _ _ c];exact z
theorem NK (ok:N.Ok) (f:Fi N t P pu){v:Nat} (ht:N.c<=t v) (hv:v<N.c):(∀ i,(pu (itr (bk N pu) i v)).isSome=true)/\∃ d,0<d/\d<=N.c/\itr (bk N pu) d (itr (bk N pu) N.c v)=itr (bk N pu) N.c v:=by
 have st:∀ w n,pu w=some n->bk N pu w=N.on n:=fun w n e=>by unfold bk;rw[e]
 have tt:∀ i,i<=N.c->N.c<=t (itr (bk N pu) i v) + i:=fun i=>by
  induction i with
  | zero=>exact fun _=>ht
  | succ i ih=>
   intro hi;have q:=ih (by omega);obtain⟨n,e1,e2⟩:=f.c _ (show 1<=t (itr (bk N pu) i v) by omega);show N.c<=t (bk N pu (itr (bk N pu) i v)) + (i + 1);rw[st _ _ e1];omega
 have pd:∀ i,i<N.c->∃ n,pu (itr (bk N pu) i v)=some n:=fun i hi=>by
  have q:=tt i (by omega);obtain⟨n,e1,_⟩:=f.c _ (show 1<=t (itr (bk N pu) i v) by omega);exact⟨n,e1⟩
 have lt:∀ i,i<=N.c->itr (bk N pu) i v<N.c:=fun i hi=>by
  cases i with
  | zero=>exact hv
  | succ i=>
   obtain⟨n,e⟩:=pd i (by omega);show bk N pu (itr (bk N pu) i v)<N.c;rw[st _ _ e];exact ok.on n (f.a _ _ e).1
 obtain⟨i,j,ij,jc,q⟩:=F0 N.c (fun i=>itr (bk N pu) i v) lt;have q:itr (bk N pu) i v=itr (bk N pu) j v:=q;have CD:∀ s,j<=s->itr (bk N pu) s v=itr (bk N pu) (s - (j - i)) v:=fun s hs=>by
  have e1:s=j + (s - j):=by omega
  have e2:s - (j - i)=i + (s - j):=by omega
  rw[e2,tU,q,<- tU,<- e1]
 refine⟨fun s=>?_,j - i,by omega,by omega,?_⟩
 ·induction s using Nat.strongRecOn with
  | ind s ih=>
   by_cases c:s<N.c
   ·obtain⟨n,e⟩:=pd s c
    rw[e];rfl
   ·rw[CD s (by omega)]
    exact ih _ (by omega)
 ·rw[<- tU,CD (N.c + (j - i)) (by omega)]
  congr 1;omega
end
def sm (f:Nat->Int):Nat->Int
 | 0=>0
 | n + 1=>sm f n + f n
theorem cX {f g:Nat->Int}:∀ n,(∀ i,i<n->f i=g i)->sm f n=sm g n
 | 0,_=>rfl
 | n + 1,h=>by
  show sm f n + f n=sm g n + g n;rw[cX n fun i hi=>h i (by omega),h n (by omega)]
theorem o5:∀ n,sm (fun _=>0) n=0
 | 0=>rfl
 | n + 1=>by
  show sm (fun _=>0) n + 0=0;rw[o5 n];rfl
theorem qg (f g:Nat->Int):∀ n,sm (fun i=>f i + g i) n=sm f n + sm g n
 | 0=>rfl
 | n + 1=>by
  show sm (fun i=>f i + g i) n + (f n + g n)=sm f n + f n + (sm g n + g n);rw[qg f g n];omega
theorem kR (f g:Nat->Int):∀ n,sm (fun i=>f i - g i) n=sm f n - sm g n
 | 0=>rfl
 | n + 1=>by
  show sm (fun i=>f i - g i) n + (f n - g n)=sm f n + f n - (sm g n + g n);rw[kR f g n];omega
theorem Aw (k:Int) (f:Nat->Int):∀ n,sm (fun i=>k * f i) n=k * sm f n
 | 0=>(Int.mul_zero k).symm
 | n + 1=>by
  show sm (fun i=>k * f i) n + k * f n=k * (sm f n + f n);rw[Aw k f n,T6]
theorem Al (f:Nat->Nat->Int) (m:Nat):∀ n,sm (fun i=>sm (f i) m) n=sm (fun j=>sm (fun i=>f i j) n) m
 | 0=>(o5 m).symm
 | n + 1=>by
  show sm (fun i=>sm (f i) m) n + sm (f n) m=sm (fun j=>sm (fun i=>f i j) n + f n j) m;rw[Al f m n,qg]
theorem uj {f:Nat->Int}:∀ n,(∀ i,i<n->0<=f i)->0<=sm f n
 | 0,_=>RF _
 | n + 1,h=>by
  have:=uj n fun i hi=>h i (by omega)
  have:=h n (by omega);show 0<=sm f n + f n;omega
theorem qb (k:Nat) (v:Int):∀ n,sm (fun i=>if i=k then v else 0) n=if k<n then v else 0
 | 0=>rfl
 | n + 1=>by
  show sm (fun i=>if i=k then v else 0) n + (if n=k then v else 0)=_;rw[qb k v n];by_cases c1:k<n
  ·rw[if_pos c1,if_neg (by omega),if_pos (by omega)]
   omega
  ·by_cases c2:n=k
   ·rw[if_neg c1,if_pos c2,if_pos (by omega)]
    omega
   ·rw[if_neg c1,if_neg c2,if_neg (by omega)]
    omega
theorem vk {f:Nat->Int}{k:Nat}:∀ n,(∀ i,i<n->f i<=0)->k<n->f k<0->sm f n<0
 | 0,_,h,_=>absurd h (R0 _)
 | n + 1,h,hk,hf=>by
  show sm f n + f n<0;have:=h n (by omega);have nn:sm f n<=0:=by
   have:=uj (f:=fun i=>0 - f i) n fun i hi=>by
    have:=h i (by omega);omega
   rw[kR,o5] at this;omega
  by_cases c:k<n
  ·have:=vk n (fun i hi=>h i (by omega)) c hf
   omega
  ·obtain rfl:k=n:=by omega
   omega
def bal (N:Wn) (a:Nat->Int) (p:Nat):Int:=sm (fun n=>(if N.ot n=p then a n else 0) - (if N.on n=p then a n else 0)) N.m
theorem pick (S:Nat->Bool) (hq:q<c) (x:Int):sm (fun p=>if S p=true then(if q=p then x else 0) else 0) c=if S q=true then x else 0:=by
 have e:sm (fun p=>if S p=true then(if q=p then x else 0) else 0) c=sm (fun p=>if p=q then(if S q=true then x else 0) else 0) c:=cX c fun p _=>by
  by_cases h:p=q
  ·subst h
   simp
  ·rw[if_neg h,if_neg (show ¬ q=p from fun z=>h z.symm)]
   simp
 rw[e,qb,if_pos hq]
theorem wz  (ok:N.Ok) (a:Nat->Int) (S:Nat->Bool):sm (fun p=>if S p=true then bal N a p else 0) N.c=sm (fun n=>(if S (N.ot n)=true then a n else 0) - (if S (N.on n)=true then a n else 0)) N.m:=by
 have e:sm (fun p=>if S p=true then bal N a p else 0) N.c=sm (fun p=>sm (fun n=>if S p=true then((if N.ot n=p then a n else 0) - (if N.on n=p then a n else 0)) else 0) N.m) N.c:=cX _ fun p _=>by
  by_cases h:S p=true
  ·rw[if_pos h]
   unfold bal;exact cX _ fun n _=>(if_pos h).symm
  ·rw[if_neg h]
   refine(o5 N.m).symm.trans (cX _ fun n _=>(if_neg h).symm)
 rw[e,Al];refine cX _ fun n hn=>?_
 have e2:sm (fun p=>if S p=true then((if N.ot n=p then a n else 0) - (if N.on n=p then a n else 0)) else 0) N.c=sm (fun p=>(if S p=true then(if N.ot n=p then a n else 0) else 0) - (if S p=true then(if N.on n=p then a n else 0) else 0)) N.c:=cX _ fun p _=>by
  by_cases h:S p=true <;> simp[h]
 rw[e2,kR,pick S (ok.ot n hn),pick S (ok.on n hn)]
theorem cut  (ok:N.Ok) (hw:∀ n,n<N.m->0<=w n) (hnd:∀ p,p<N.c->nd p=bal N w p - bal N fl p) (hf:∀ n,n<N.m->0<=fl n) (S:Nat->Bool)
  (h1:∀ n,n<N.m->S (N.on n)=true->S (N.ot n)=true) (h2:∀ n,n<N.m->S (N.ot n)=true->0<fl n->S (N.on n)=true):0<=sm (fun p=>if S p=true then nd p else 0) N.c:=by
 have e:sm (fun p=>if S p=true then nd p else 0) N.c=sm (fun p=>(if S p=true then bal N w p else 0) - (if S p=true then bal N fl p else 0)) N.c:=cX _ fun p hp=>by
  by_cases h:S p=true
  ·rw[if_pos h,if_pos h,if_pos h,hnd p hp]
  ·rw[if_neg h,if_neg h,if_neg h]
   rfl
 rw[e,kR,wz ok,wz ok,<- kR];refine uj _ fun n hn=>?_
 have a1:=h1 n hn;have a2:=h2 n hn;have a3:=hw n hn;have a4:=hf n hn;by_cases c1:S (N.on n)=true
 ·rw[if_pos (a1 c1),if_pos (a1 c1),if_pos c1,if_pos c1]
  omega
 ·by_cases c2:S (N.ot n)=true
  ·rw[if_pos c2,if_pos c2,if_neg c1,if_neg c1]
   have:¬ 0<fl n:=fun z=>c1 (a2 c2 z)
   omega
  ·rw[if_neg c2,if_neg c2,if_neg c1,if_neg c1]
   omega
theorem Fo  (ok:N.Ok) (hnd:∀ p,p<N.c->nd p=bal N w p - bal N fl p):sm nd N.c=0:=by
 have e:sm nd N.c=sm (fun p=>(if (fun _=>true) p=true then bal N w p else 0) - (if (fun _=>true) p=true then bal N fl p else 0)) N.c:=cX _ fun p hp=>by
  rw[if_pos rfl,if_pos rfl,hnd p hp]
 rw[e,kR,wz ok,wz ok,<- kR,<- o5 N.m];refine cX _ fun n _=>?_
 simp
theorem OM  (ok:N.Ok) (hnd:∀ p,p<N.c->nd p=bal N w p - bal N fl p){k:Nat} (hk:k<N.c) (pos:0<nd k):∃ p,p<N.c/\nd p<0:=by
 by_cases c:∃ p,p<N.c/\nd p<0
 ·exact c
 ·exfalso
  have z:=Fo ok hnd;have q:=vk (f:=fun p=>0 - nd p) (k:=k) N.c (fun i hi=>by
   have:¬ nd i<0:=fun z=>c ⟨i,hi,z⟩
   omega) hk (by omega)
  rw[kR,o5,z] at q;omega
def Arc (N:Wn) (P fl:Nat->Int) (q p n:Nat) (d:Int):Prop:=n<N.m/\((N.on n=q/\N.ot n=p/\d=slk N P n)\/(N.ot n=q/\N.on n=p/\0<fl n/\d=0))
structure Ti (N:Wn) (P fl:Nat->Int):Prop where
 s:∀ n,n<N.m->0<=slk N P n
 f:∀ n,n<N.m->0<=fl n
 t:∀ n,n<N.m->0<fl n->slk N P n=0
theorem Arc.nn  (h:Ti N P fl) (a:Arc N P fl q p n d):0<=d:=by
 obtain⟨hn,⟨_,_,rfl⟩|⟨_,_,_,rfl⟩⟩:=a
 ·exact h.s n hn
 ·exact RF _
theorem Arc.lt  (ok:N.Ok) (a:Arc N P fl q p n d):p<N.c:=by
 obtain⟨hn,⟨_,rfl,_⟩|⟨_,rfl,_⟩⟩:=a
 ·exact ok.ot n hn
 ·exact ok.on n hn
structure Se (N:Wn) (P fl nd:Nat->Int) (far wt:Nat->Option Int) (cm:Nat->Option Nat) (rk:Nat->Nat) (size:Nat) (Lk:Nat->Nat->Int->Prop):Prop where
 dj:∀ p a,far p=some a->wt p=none
 lo:∀ p a q b,far p=some a->wt q=some b->a<=b
 nn:∀ p a,far p=some a\/wt p=some a->0<=a/\p<N.c
 ro:∀ p,p<N.c->nd p<0->(far p=some 0\/wt p=some 0)/\cm p=none
 cb:∀ p a,far p=some a\/wt p=some a->¬ nd p<0->∃ n q d b,cm p=some n/\Arc N P fl q p n d/\far q=some b/\a=b + d/\q≠p/\(far p=some a->rk q<rk p)
 ck:∀ p n,cm p=some n->∃ a,far p=some a\/wt p=some a
 rk:∀ p a,far p=some a->rk p<size
 ar:∀ q n d p a,Arc N P fl q p n d->Lk q n d->far q=some a->∃ b,(far p=some b\/wt p=some b)/\b<=a + d
section
variable {far:Nat->Option Int}
theorem Se.start  (h:∀ p,wt p=if p<N.c/\nd p<0 then some 0 else none) (rk:Nat->Nat) (Lk:Nat->Nat->Int->Prop):Se N P fl nd (fun _=>none) wt (fun _=>none) rk 0 Lk:=by
 have z:∀ p a,wt p=some a->a=0/\p<N.c/\nd p<0:=fun p a e=>by
  rw[h p] at e;split at e
  ·cases e
   exact⟨O,by assumption⟩
  ·cases e
 refine⟨fun p a e=>(by cases e),fun p a q b e=>(by cases e),fun p a e=>?_,fun p h1 h2=>⟨.inr ?_,O⟩,fun p a e ne=>?_,fun p n e=>(by cases e),fun p a e=>(by cases e),fun q n d p a _ _ e=>(by cases e)⟩
 ·rcases e with e|e
  ·cases e
  ·obtain⟨rfl,h1,_⟩:=z p a e
   exact⟨RF _,h1⟩
 ·rw[h p,if_pos ⟨h1,h2⟩]
 ·rcases e with e|e
  ·cases e
  ·exact absurd (z p a e).2.2 ne
theorem Se.pop  (h:Se N P fl nd far wt cm rk size fun q _ _=>far q≠none) (hx:wt x=some a) (mn:∀ q b,wt q=some b->a<=b) :
  Se N P fl nd (up far x (some a)) (up wt x none) cm (up rk x size) (size + 1) (fun q _ _=>far q≠none)/\(∀ q b,up far x (some a) q=some b->b<=a)/\far x=none:=by
 have fx:far x=none:=by
  cases e:far x with
  | none=>rfl
  | some b=>
   have:=h.dj x b e;rw[hx] at this;cases this
 have nx:∀ q b,far q=some b->q≠x:=fun q b e z=>by
  rw[z,fx] at e;cases e
 have val:∀ p b,up far x (some a) p=some b\/up wt x none p=some b->far p=some b\/wt p=some b:=fun p b e=>by
  by_cases c:p=x
  ·subst c
   rw[aS,aS] at e;rcases e with e|e
   ·cases e
    exact .inr hx
   ·cases e
  ·rw[aK _ _ c,aK _ _ c] at e
   exact e
 have mS:∀ p b,far p=some b\/wt p=some b->up far x (some a) p=some b\/up wt x none p=some b:=fun p b e=>by
  by_cases c:p=x
  ·subst c
   rw[aS];rw[fx,hx] at e;rcases e with e|e
   ·cases e
   ·cases e
    exact .inl rfl
  ·rw[aK _ _ c,aK _ _ c]
   exact e
 refine⟨⟨fun p b e=>?_,fun p b q b' e e'=>?_,fun p b e=>h.nn p b (val p b e),fun p h1 h2=>?_,fun p b e ne=>?_,fun p n e=>?_,fun p b e=>?_,fun q n d p b A L e=>?_⟩,fun q b e=>?_,fx⟩
 ·by_cases c:p=x
  ·rw[c,aS]
  ·rw[aK _ _ c] at e ⊢
   exact h.dj p b e
 ·by_cases c':q=x
  ·rw[c',aS] at e'
   cases e'
  ·rw[aK _ _ c'] at e'
   by_cases c:p=x
   ·rw[c,aS] at e
    cases e
    exact mn q b' e'
   ·rw[aK _ _ c] at e
    exact h.lo p b q b' e e'
 ·obtain⟨r1,r2⟩:=h.ro p h1 h2
  exact⟨mS p 0 r1,r2⟩
 ·obtain⟨n,q,d,b',e1,e2,e3,e4,e5,e6⟩:=h.cb p b (val p b e) ne
  have nq:=nx q b' e3;refine⟨n,q,d,b',e1,e2,by rw[aK _ _ nq];exact e3,e4,e5,fun ep=>?_⟩;rw[aK rk size nq];by_cases c:p=x
  ·rw[c,aS]
   exact h.rk q b' e3
  ·rw[aK _ _ c] at ep ⊢
   exact e6 ep
 ·obtain⟨b,e1⟩:=h.ck p n e
  exact⟨b,mS p b e1⟩
 ·by_cases c:p=x
  ·rw[c,aS]
   omega
  ·rw[aK _ _ c] at e ⊢
   have:=h.rk p b e;omega
 ·have nq:q≠x:=fun z=>L (by rw[z];exact fx)
  rw[aK _ _ nq] at e;obtain⟨b',e1,e2⟩:=h.ar q n d p b A L e;exact⟨b',mS p b' e1,e2⟩
 ·by_cases c:q=x
  ·rw[c,aS] at e
   cases e
   exact RF _
  ·rw[aK _ _ c] at e
   exact h.lo q b x a e hx
theorem Se.keep  (ti:Ti N P fl) (h:Se N P fl nd far wt cm rk size Lk) (hx:far x=some a) (mx:∀ q b,far q=some b->b<=a) (A:Arc N P fl x p n d)
  (st:(∃ b,far p=some b)\/∃ b,wt p=some b/\b<=a + d) (hl:∀ q n' d',lX q n' d'->Lk q n' d'\/(q=x/\n'=n/\d'=d)) (ta:∀ p',Arc N P fl x p' n d->p'=p):Se N P fl nd far wt cm rk size lX:=by
 refine⟨h.dj,h.lo,h.nn,h.ro,h.cb,h.ck,h.rk,fun q n' d' p' b A' L e=>?_⟩;rcases hl q n' d' L with l|⟨rfl,rfl,rfl⟩
 ·exact h.ar q n' d' p' b A' l e
 ·rw[hx] at e
  cases e
  obtain rfl:=ta p' A';rcases st with⟨b,e1⟩|⟨b,e1,e2⟩
  ·have:=mx p' b e1
   have:=A.nn ti;exact⟨b,.inl e1,by omega⟩
  ·exact⟨b,.inr e1,e2⟩
theorem Se.near  (ok:N.Ok) (ti:Ti N P fl) (h:Se N P fl nd far wt cm rk size Lk) (hx:far x=some a) (mx:∀ q b,far q=some b->b<=a) (A:Arc N P fl x p n d)
  (fp:far p=none) (st:∀ b,wt p=some b->a + d<b) (hl:∀ q n' d',lX q n' d'->Lk q n' d'\/(q=x/\n'=n/\d'=d)) (ta:∀ p',Arc N P fl x p' n d->p'=p) :
  Se N P fl nd far (up wt p (some (a + d))) (up cm p (some n)) rk size lX:=by
 have dn:=A.nn ti;have an:=(h.nn x a (.inl hx)).1;have Hv:x≠p:=fun z=>by
  rw[z,fp] at hx;cases hx
 refine⟨fun q b e=>?_,fun q b q' b' e e'=>?_,fun q b e=>?_,fun q h1 h2=>?_,fun q b e ne=>?_,fun q n' e=>?_,h.rk,fun q n' d' p' b A' L e=>?_⟩
 ·have c:q≠p:=fun z=>by
   rw[z,fp] at e;cases e
  rw[aK _ _ c];exact h.dj q b e
 ·by_cases c:q'=p
  ·rw[c,aS] at e'
   cases e'
   have:=mx q b e;omega
  ·rw[aK _ _ c] at e'
   exact h.lo q b q' b' e e'
 ·by_cases c:q=p
  ·rw[c,aS,fp] at e
   rcases e with e|e
   ·cases e
   ·cases e
    rw[c];exact⟨by omega,A.lt ok⟩
  ·rw[aK _ _ c] at e
   exact h.nn q b e
 ·obtain⟨r1,r2⟩:=h.ro q h1 h2
  have c:q≠p:=fun z=>by
   rw[z,fp] at r1;rcases r1 with r1|r1
   ·cases r1
   ·have:=st 0 r1
    omega
  rw[aK _ _ c,aK _ _ c];exact⟨r1,r2⟩
 ·by_cases c:q=p
  ·rw[c,aS,fp] at e
   rcases e with e|e
   ·cases e
   ·cases e
    rw[c];exact⟨n,x,d,a,aS _ _ _,A,hx,O,Hv,fun z=>by rw[fp] at z;cases z⟩
  ·rw[aK _ _ c] at e
   obtain⟨n',q',d',b',e1,e2⟩:=h.cb q b e ne;exact⟨n',q',d',b',by rw[aK _ _ c];exact e1,e2⟩
 ·by_cases c:q=p
  ·rw[c,aS]
   exact⟨a + d,.inr O⟩
  ·rw[aK _ _ c] at e ⊢
   exact h.ck q n' e
 ·have fin:∀ b',(far p'=some b'\/wt p'=some b')->b'<=b + d'->∃ xT,(far p'=some xT\/up wt p (some (a + d)) p'=some xT)/\xT<=b + d':=fun b' e1 e2=>by
   by_cases c:p'=p
   ·rw[c,fp] at e1
    rcases e1 with e1|e1
    ·cases e1
    ·have:=st b' e1
     exact⟨a + d,.inr (by rw[c,aS]),by omega⟩
   ·exact⟨b',by rw[aK _ _ c];exact e1,e2⟩
  rcases hl q n' d' L with l|⟨rfl,rfl,rfl⟩
  ·obtain⟨b',e1,e2⟩:=h.ar q n' d' p' b A' l e
   exact fin b' e1 e2
  ·rw[hx] at e
   cases e
   obtain rfl:=ta p' A';exact⟨a + d',.inr (aS _ _ _),RF _⟩
theorem Se.more (ok:N.Ok) (hw:∀ n,n<N.m->0<=w n) (hnd:∀ p,p<N.c->nd p=bal N w p - bal N fl p) (ti:Ti N P fl) (h:Se N P fl nd far wt cm rk size fun q _ _=>far q≠none)
  (np:∀ p a,far p=some a->nd p<=0){k:Nat} (hk:k<N.c) (pos:0<nd k):∃ p a,wt p=some a:=by
 by_cases c:∃ p a,wt p=some a
 ·exact c
 ·exfalso
  have nw:∀ p a,wt p=some a->False:=fun p a e=>c ⟨p,a,e⟩
  obtain⟨r,hr,rY⟩:=OM ok hnd hk pos;have cl:∀ q p n d,Arc N P fl q p n d->(far q).isSome=true->(far p).isSome=true:=fun q p n d A e=>by
   obtain⟨a,e⟩:=Option.isSome_iff_exists.mp e;obtain⟨b,e1,_⟩:=h.ar q n d p a A (by rw[e];exact fun z=>by cases z) e;rcases e1 with e1|e1
   ·rw[e1]
    rfl
   ·exact(nw _ _ e1).elim
  have z:=cut ok hw hnd ti.f (fun p=>(far p).isSome) (fun n hn e=>cl _ _ n _ ⟨hn,.inl ⟨O,O,O⟩⟩ e) (fun n hn e f=>cl _ _ n 0 ⟨hn,.inr ⟨O,O,f,O⟩⟩ e);have y:=vk (f:=fun p=>if (far p).isSome=true then nd p else 0) (k:=r) N.c (fun i _=>by
   by_cases e:(far i).isSome=true
   ·obtain⟨a,e'⟩:=Option.isSome_iff_exists.mp e
    rw[if_pos e];exact np i a e'
   ·rw[if_neg e]
    exact RF _) hr (by
   have e:(far r).isSome=true:=by
    rcases(h.ro r hr rY).1 with e|e
    ·rw[e]
     rfl
    ·exact(nw _ _ e).elim
   rw[if_pos e];exact rY)
  omega
def mv (P:Nat->Int) (far:Nat->Option Int) (D:Int) (p:Nat):Int:=match far p with
 | some b=>P p + (D - b)
 | none=>P p
theorem Se.moved  (ti:Ti N P fl) (h:Se N P fl nd far wt cm rk size fun q _ _=>q≠x/\far q≠none) (hx:far x=some D) (mx:∀ q b,far q=some b->b<=D) (wl:∀ q b,wt q=some b->D<=b):Ti N (mv P far D) fl:=by
 have CU:∀ q p n d,Arc N P fl q p n d->q≠x->∀ a,far q=some a->(∃ b,far p=some b/\b<=a + d)\/(D<=a + d/\far p=none):=fun q p n d A ne a e=>by
  obtain⟨b,e1,e2⟩:=h.ar q n d p a A ⟨ne,by rw[e];exact fun z=>by cases z⟩ e;rcases e1 with e1|e1
  ·exact .inl ⟨b,e1,e2⟩
  ·have:=wl p b e1
   refine .inr ⟨by omega,?_⟩;cases e3:far p with
   | none=>rfl
   | some z=>
    rw[h.dj p z e3] at e1;cases e1
 have pC:∀ p b,far p=some b->mv P far D p=P p + (D - b):=fun p b e=>by unfold mv;rw[e]
 have yV:∀ p,far p=none->mv P far D p=P p:=fun p e=>by unfold mv;rw[e]
 have B9:∀ p,P p<=mv P far D p:=fun p=>by
  cases e:far p with
  | none=>rw[yV p e];exact RF _
  | some b=>
   rw[pC p b e];have:=mx p b e;omega
 have DE:mv P far D x=P x:=by rw[pC x D hx];omega
 have sl:∀ n,n<N.m->0<=slk N (mv P far D) n:=fun n hn=>by
  have s0:=ti.s n hn;have g:=B9 (N.ot n);unfold slk at s0 ⊢;by_cases c:N.on n=x
  ·rw[c,DE]
   rw[c] at s0;omega
  ·cases e:far (N.on n) with
   | none=>
    rw[yV _ e];omega
   | some a=>
    rw[pC _ _ e];rcases CU (N.on n) (N.ot n) n _ ⟨hn,.inl ⟨rfl,rfl,rfl⟩⟩ c a e with⟨b,e1,e2⟩|⟨e1,e2⟩
    ·rw[pC _ _ e1]
     unfold slk at e2;omega
    ·unfold slk at e1
     omega
 refine⟨sl,ti.f,fun n hn f=>?_⟩;have t0:=ti.t n hn f;have s1:=sl n hn;have:slk N (mv P far D) n<=0:=by
  have g:=B9 (N.on n);unfold slk at t0 ⊢;by_cases c:N.ot n=x
  ·rw[c,DE]
   rw[c] at t0;omega
  ·cases e:far (N.ot n) with
   | none=>
    rw[yV _ e];omega
   | some a=>
    rw[pC _ _ e];rcases CU (N.ot n) (N.on n) n 0 ⟨hn,.inr ⟨rfl,rfl,f,rfl⟩⟩ c a e with⟨b,e1,e2⟩|⟨e1,e2⟩
    ·rw[pC _ _ e1]
     omega
    ·have:=mx _ _ e
     omega
 omega
end
def ac (N:Wn) (n p:Nat):Nat:=if N.ot n=p then N.on n else N.ot n
def bc (N:Wn) (cm:Nat->Option Nat) (p:Nat):Nat:=match cm p with
 | some n=>ac N n p
 | none=>p
theorem qc  (e:cm p=some n):bc N cm p=ac N n p:=by
 unfold bc;rw[e]
theorem Arc.ac {N:Wn}{P fl:Nat->Int}{q p n:Nat}{d:Int} (A:Arc N P fl q p n d) (ne:q≠p):ac N n p=q/\K63.ac N n q=p:=by
 unfold K63.ac;obtain⟨_,⟨rfl,rfl,_⟩|⟨rfl,rfl,_⟩⟩:=A
 ·exact⟨if_pos O,if_neg (Ne.symm ne)⟩
 ·exact⟨if_neg ne,if_pos O⟩
theorem bal_up {a:Nat->Int} (hn:n<N.m) (e:Int) (v:Nat):bal N (up a n (a n + e)) v=bal N a v + (if N.ot n=v then e else 0) - (if N.on n=v then e else 0):=by
 have q:bal N (up a n (a n + e)) v=sm (fun i=>((if N.ot i=v then a i else 0) - (if N.on i=v then a i else 0)) + (if i=n then(if N.ot n=v then e else 0) - (if N.on n=v then e else 0) else 0)) N.m:=cX _ fun i _=>by
  by_cases c:i=n
  ·subst c
   rw[aS,if_pos rfl];by_cases c1:N.ot i=v <;> by_cases c2:N.on i=v <;> simp[c1,c2] <;> omega
  ·rw[aK _ _ c,if_neg c]
   omega
 rw[q,qg,qb,if_pos hn];show bal N a v + _=_;omega
theorem AM  (k:Int) (a b:Nat->Int) (v:Nat):bal N (fun n=>k * a n + b n) v=k * bal N a v + bal N b v:=by
 unfold bal;rw[<- Aw,<- qg];refine cX _ fun i _=>?_
 by_cases c1:N.ot i=v <;> by_cases c2:N.on i=v <;> simp[c1,c2,Int.mul_neg] <;> omega
theorem La  (v:Nat):bal N (fun _=>0) v=0:=by
 unfold bal;rw[<- o5 N.m];refine cX _ fun i _=>?_
 simp
section
variable {far:Nat->Option Int}
theorem Se.back (h:Se N P fl nd far wt cm rk size Lk) (fp:far p=some a) (e:cm p=some n):∃ d b,Arc N P fl (ac N n p) p n d/\far (ac N n p)=some b/\a=b + d/\ac N n p≠p/\rk (ac N n p)<rk p:=by
 have ne:¬ nd p<0:=fun z=>by
  have:=(h.ro p (h.nn p a (.inl fp)).2 z).2;rw[e] at this;cases this
 obtain⟨n',q,d,b,e1,e2,e3,e4,e5,e6⟩:=h.cb p a (.inl fp) ne;rw[e] at e1;cases e1
 have q':=(e2.ac e5).1;rw[q'];exact⟨d,b,e2,e3,e4,e5,e6 fp⟩
theorem Se.root (h:Se N P fl nd far wt cm rk size Lk) (fp:far p=some a) (e:cm p=none):nd p<0:=by
 by_cases c:nd p<0
 ·exact c
 ·obtain⟨n',q,d,b,e1,_⟩:=h.cb p a (.inl fp) c
  rw[e] at e1;cases e1
theorem Se.way (h:Se N P fl nd far wt cm rk size Lk){x:Nat}{D:Int} (hx:far x=some D):∀ i,∃ a,far (itr (bc N cm) i x)=some a
 | 0=>⟨D,hx⟩
 | i + 1=>by
  obtain⟨a,e⟩:=h.way hx i;show ∃ a,far (bc N cm (itr (bc N cm) i x))=some a;cases c:cm (itr (bc N cm) i x) with
  | none=>
   refine⟨a,?_⟩;unfold bc at e c ⊢;rw[c];exact e
  | some n=>
   obtain⟨d,b,_,fb,_⟩:=h.back e c;rw[qc c];exact⟨b,fb⟩
theorem Se.falls (h:Se N P fl nd far wt cm rk size Lk) (hx:far x=some D) (c:(cm (itr (bc N cm) i x)).isSome=true):rk (itr (bc N cm) (i + 1) x)<rk (itr (bc N cm) i x):=by
 obtain⟨a,e⟩:=h.way hx i;obtain⟨n,c⟩:=Option.isSome_iff_exists.mp c;obtain⟨d,b,_,_,_,_,r⟩:=h.back e c;show rk (bc N cm (itr (bc N cm) i x))<_;rw[qc c];exact r
theorem Se.falls2 (h:Se N P fl nd far wt cm rk size Lk){x:Nat}{D:Int} (hx:far x=some D){k:Nat} (c:∀ i,i<k->(cm (itr (bc N cm) i x)).isSome=true){j:Nat}:∀ {i},j<i->i<=k->rk (itr (bc N cm) i x)<rk (itr (bc N cm) j x)
 | 0,h1,_=>absurd h1 (R0 _)
 | i + 1,h1,h2=>by
  have s:=h.falls hx (c i (by omega));by_cases e:j=i
  ·rw[e]
   exact s
  ·have:=h.falls2 hx c (j:=j) (i:=i) (by omega) (by omega)
   omega
def cn (cm:Nat->Option Nat) (p:Nat):Nat:=(cm p).getD 0
theorem iR  (h:(cm p).isSome=true):cm p=some (cn cm p):=by
 obtain⟨n,e⟩:=Option.isSome_iff_exists.mp h;unfold cn;rw[e];rfl
theorem Se.once (h:Se N P fl nd far wt cm rk size Lk) (hx:far x=some D){k:Nat} (c:∀ i,i<k->(cm (itr (bc N cm) i x)).isSome=true) (ji:j<i) (ik:i<k):cn cm (itr (bc N cm) j x)≠cn cm (itr (bc N cm) i x):=fun z=>by
 obtain⟨a,ea⟩:=h.way hx i;obtain⟨b,eb⟩:=h.way hx j;have ci:=iR (c i ik);have cj:=iR (c j (by omega));have r1:=h.falls2 hx c ji (by omega);have r2:=h.falls hx (c i ik);have si:itr (bc N cm) (i + 1) x=ac N (cn cm (itr (bc N cm) i x)) (itr (bc N cm) i x):=qc ci;rw[si] at r2;obtain⟨d1,b1,A1,_,_,n1,_⟩:=h.back ea ci;obtain⟨d2,b2,A2,_,_,n2,_⟩:=h.back eb cj;rw[<- z] at A1 n1 r2;generalize itr (bc N cm) i x=xi at *;generalize itr (bc N cm) j x=xj at *;generalize cn cm xj=n at *;have e1:=A1.ac n1;have e2:=A2.ac n2;have xh:xi=xj\/xi=ac N n xj:=by
  obtain⟨_,⟨p1,p2,_⟩|⟨p1,p2,_⟩⟩:=A1 <;> obtain⟨_,⟨q1,q2,_⟩|⟨q1,q2,_⟩⟩:=A2
  ·exact .inl (p2.symm.trans q2)
  ·exact .inr (p2.symm.trans q1)
  ·exact .inr (p2.symm.trans q1)
  ·exact .inl (p2.symm.trans q2)
 rcases xh with e|e
 ·rw[e] at r1
  omega
 ·rw[e,e2.2] at r2
  rw[e] at r1;omega
def fs (N:Wn) (cm:Nat->Option Nat) (x:Nat) (am:Int) (fl:Nat->Int):Nat->Nat->Int
 | 0=>fl
 | i + 1=>up (fs N cm x am fl i) (cn cm (itr (bc N cm) i x)) (fs N cm x am fl i (cn cm (itr (bc N cm) i x)) + (if N.ot (cn cm (itr (bc N cm) i x))=itr (bc N cm) i x then am else 0 - am))
theorem Ei {x:Nat}{am:Int}{n:Nat}:∀ i,(∀ j,j<i->cn cm (itr (bc N cm) j x)≠n)->fs N cm x am fl i n=fl n
 | 0,_=>rfl
 | i + 1,h=>by
  show up _ _ _ n=_;rw[aK _ _ (Ne.symm (h i (by omega))),Ei i fun j hj=>h j (by omega)]
theorem Se.sent_bal (h:Se N P fl nd far wt cm rk size Lk){x:Nat}{D am:Int} (hx:far x=some D) (v:Nat):∀ k,(∀ i,i<k->(cm (itr (bc N cm) i x)).isSome=true)->bal N (fs N cm x am fl k) v=bal N fl v + (if x=v then am else 0) - (if itr (bc N cm) k x=v then am else 0)
 | 0,_=>by
  show bal N fl v=bal N fl v + (if x=v then am else 0) - (if x=v then am else 0);omega
 | i + 1,c=>by
  have ih:=h.sent_bal hx v (am:=am) i fun j hj=>c j (by omega)
  obtain⟨a,e⟩:=h.way hx i;have ci:=iR (c i (by omega));obtain⟨d,b,A,_,_,ne,_⟩:=h.back e ci;have si:itr (bc N cm) (i + 1) x=ac N (cn cm (itr (bc N cm) i x)) (itr (bc N cm) i x):=qc ci;show bal N (up (fs N cm x am fl i) (cn cm (itr (bc N cm) i x)) _) v=_;rw[bal_up A.1,ih,si];generalize itr (bc N cm) i x=xi at *;generalize cn cm xi=n at *;obtain⟨_,⟨p1,p2,_⟩|⟨p1,p2,_⟩⟩:=A
  ·rw[p1,p2,if_pos rfl]
   omega
  ·rw[p1,p2,if_neg ne]
   by_cases c1:ac N n xi=v <;> by_cases c2:xi=v <;> simp[c1,c2] <;> omega
theorem Se.sent_ti (h:Se N P fl nd far wt cm rk size Lk){x:Nat}{D am:Int} (hx:far x=some D) (ti:Ti N (mv P far D) fl) (qx:0<=am):∀ k,(∀ i,i<k->(cm (itr (bc N cm) i x)).isSome=true) ->
  (∀ i,i<k->N.on (cn cm (itr (bc N cm) i x))=itr (bc N cm) i x->am<=fl (cn cm (itr (bc N cm) i x)))->Ti N (mv P far D) (fs N cm x am fl k)
 | 0,_,_=>ti
 | i + 1,c,hm=>by
  have ih:=h.sent_ti hx ti qx i (fun j hj=>c j (by omega)) (fun j hj=>hm j (by omega));obtain⟨a,e⟩:=h.way hx i;have ci:=iR (c i (by omega));obtain⟨d,b,A,fb,Qm,ne,_⟩:=h.back e ci;have same:fs N cm x am fl i (cn cm (itr (bc N cm) i x))=fl (cn cm (itr (bc N cm) i x)):=Ei i fun j hj=>h.once hx c hj (by omega)
  have Je:=hm i (by omega);have key:0<=fl (cn cm (itr (bc N cm) i x)) + (if N.ot (cn cm (itr (bc N cm) i x))=itr (bc N cm) i x then am else 0 - am)/\slk N (mv P far D) (cn cm (itr (bc N cm) i x))=0:=by
   generalize itr (bc N cm) i x=xi at *;generalize cn cm xi=n at *;have f0:=ti.f n A.1;obtain⟨hn,⟨p1,p2,p3⟩|⟨p1,p2,p3,p4⟩⟩:=A
   ·refine⟨by rw[p2,if_pos rfl];omega,?_⟩
    have m1:mv P far D xi=P xi + (D - a):=by unfold mv;rw[e]
    have m2:mv P far D (ac N n xi)=P (ac N n xi) + (D - b):=by unfold mv;rw[fb]
    unfold slk at p3 ⊢;rw[p1,p2] at p3 ⊢;rw[m1,m2];omega
   ·have:=Je p2
    refine⟨by rw[p1,if_neg ne];omega,ti.t n hn p3⟩
  refine⟨ih.s,fun n hn=>?_,fun n hn f=>?_⟩
  ·by_cases z:n=cn cm (itr (bc N cm) i x)
   ·rw[z]
    show 0<=up _ _ _ _;rw[aS,same];exact key.1
   ·show 0<=up _ _ _ _
    rw[aK _ _ z];exact ih.f n hn
  ·by_cases z:n=cn cm (itr (bc N cm) i x)
   ·rw[z]
    exact key.2
   ·refine ih.t n hn ?_
    have f:0<up (fs N cm x am fl i) (cn cm (itr (bc N cm) i x)) _ n:=f;rw[aK _ _ z] at f;exact f
end
def mw (N:Wn) (nd:Nat->Int):Nat:=(sm (fun p=>max (nd p) 0) N.c).toNat
theorem NL  (h:sm nd N.c=0) (np:∀ p,p<N.c->nd p<=0):∀ p,p<N.c->nd p=0:=fun p hp=>by
 by_cases c:nd p=0
 ·exact c
 ·have:=np p hp
  have:=vk (f:=nd) (k:=p) N.c np hp (by omega);omega
theorem Pr {bo:Nat->Int} (hs:s<N.c) (he:e<N.c) (qx:0<am) (h1:am<=nd e) (h2:am<=0 - nd s) (hn:∀ p,p<N.c->bo p=nd p + (if s=p then am else 0) - (if e=p then am else 0)):mw N bo<mw N nd:=by
 have q:sm (fun p=>max (nd p) 0) N.c=sm (fun p=>max (bo p) 0 + (if p=e then am else 0)) N.c:=cX _ fun p hp=>by
  rw[hn p hp];by_cases c1:p=e
  ·subst c1
   have:s≠p:=fun z=>by
    subst z;omega
   rw[if_pos rfl,if_neg this];omega
  ·by_cases c2:s=p
   ·subst c2
    rw[if_pos rfl,if_neg (Ne.symm c1),if_neg c1];omega
   ·rw[if_neg c2,if_neg (Ne.symm c1),if_neg c1]
    omega
 rw[qg,qb,if_pos he] at q;have nn:=uj (f:=fun p=>max (bo p) 0) N.c fun p _=>by omega
 unfold mw;omega
abbrev Kvs:=List (Key×V)
abbrev Wt:=Nat×Nat×Int×Int
def wn (ws:List Wt) (c:Nat):Wn:=⟨c,ws.length,fun n=>(ws.getD n (0,0,0,0)).1,fun n=>(ws.getD n (0,0,0,0)).2.1,fun n=>(ws.getD n (0,0,0,0)).2.2.1⟩
def wtF (ws:List Wt) (n:Nat):Int:=(ws.getD n (0,0,0,0)).2.2.2
def fn (l:List Int) (i:Nat):Int:=l.getD i 0
structure LR where
 o:Addr
 t:Addr
 l:Addr
 p:Addr
 f:Addr
 n:Addr
 g:Addr
 c:Addr
def bO (r:LR):List (Str×V):=[("ones",.ref r.o),("others",.ref r.t),("leasts",.ref r.l),("places",.ref r.p),("flow",.ref r.f),("needs",.ref r.n),("going",.ref r.g),("coming",.ref r.c)]
theorem lk0 {a:Str}:(((a,v)::r):List (Str×V)).lookup a=some v:=by
 rw[Sf,beq_self_eq_true]
theorem lk1 {a b:Str} (h:(a == b)=false):(((b,v)::r):List (Str×V)).lookup a=r.lookup a:=by
 rw[Sf,h]
theorem qh {r:LR}:(bO r).lookup ("ones":Str)=some (.ref r.o):=lk0
theorem ua {r:LR}:(bO r).lookup ("others":Str)=some (.ref r.t):=(lk1 (by decide +kernel)).trans lk0
theorem MW {r:LR}:(bO r).lookup ("leasts":Str)=some (.ref r.l):=(lk1 (by decide +kernel)).trans ((lk1 (by decide +kernel)).trans lk0)
variable {C d q:Addr}{H H':Hp}{P:Program}{S:List Addr}{a:Adr}{base:Heap}{kvs:Kvs}{l:List Int}{mg:Str->Option Value}{r:LR}{w:World}{ws:List Wt}{xs:List V}
theorem oQ:(bO r).lookup ("places":Str)=some (.ref r.p):=(lk1 (by decide +kernel)).trans ((lk1 (by decide +kernel)).trans ((lk1 (by decide +kernel)).trans lk0))
theorem uc:(bO r).lookup ("flow":Str)=some (.ref r.f):=(lk1 (by decide +kernel)).trans ((lk1 (by decide +kernel)).trans ((lk1 (by decide +kernel)).trans ((lk1 (by decide +kernel)).trans lk0)))
theorem ow:(bO r).lookup ("needs":Str)=some (.ref r.n):=(lk1 (by decide +kernel)).trans ((lk1 (by decide +kernel)).trans ((lk1 (by decide +kernel)).trans ((lk1 (by decide +kernel)).trans ((lk1 (by decide +kernel)).trans lk0))))
theorem GL:(bO r).lookup ("going":Str)=some (.ref r.g):=(lk1 (by decide +kernel)).trans ((lk1 (by decide +kernel)).trans ((lk1 (by decide +kernel)).trans ((lk1 (by decide +kernel)).trans ((lk1 (by decide +kernel)).trans ((lk1 (by decide +kernel)).trans lk0)))))
theorem Ea:(bO r).lookup ("coming":Str)=some (.ref r.c):=(lk1 (by decide +kernel)).trans ((lk1 (by decide +kernel)).trans ((lk1 (by decide +kernel)).trans ((lk1 (by decide +kernel)).trans ((lk1 (by decide +kernel)).trans ((lk1 (by decide +kernel)).trans ((lk1 (by decide +kernel)).trans lk0))))))
def Nq (r:LR) (a:Addr):Prop:=a≠r.p/\a≠r.f/\a≠r.n
def goN (ws:List Wt) (i:Nat):List Nat:=(List.range ws.length).filter fun n=>decide ((ws.getD n (0,0,0,0)).1=i)
def coN (ws:List Wt) (i:Nat):List Nat:=(List.range ws.length).filter fun n=>decide ((ws.getD n (0,0,0,0)).2.1=i)
def aM (l:List Nat):List V:=l.map fun n=>V.int (n:Nat)
structure bI (C:Addr) (H:Hp) (q:Addr) (r:LR) (ws:List Wt) (cnt:Nat):Prop where
 ex:∃ dx,H q=some (.ins C dx (bO r))
 ho:H r.o=some (.lst (ws.map fun w=>V.int (w.1:Nat)))
 ht:H r.t=some (.lst (ws.map fun w=>V.int (w.2.1:Nat)))
 hl:H r.l=some (.lst (ws.map fun w=>V.int w.2.2.1))
 hg:∃ gs:List Addr,H r.g=some (.lst (gs.map V.ref))/\gs.length=cnt/\∀ i a,gs[i]?=some a->H a=some (.lst (aM (goN ws i)))/\Nq r a
 hc:∃ gs:List Addr,H r.c=some (.lst (gs.map V.ref))/\gs.length=cnt/\∀ i a,gs[i]?=some a->H a=some (.lst (aM (coN ws i)))/\Nq r a
 no:Nq r r.o
 nt:Nq r r.t
 nl:Nq r r.l
 ng:Nq r r.g
 nc:Nq r r.c
 nq:Nq r q
 pf:r.p≠r.f
 pn:r.p≠r.n
 fn:r.f≠r.n
def Kx (S:List Addr) (H H':Hp):Prop:=∀ b o,H b=some o->b∉S->H' b=some o
theorem Kx.of  (e:ae H H'):Kx S H H':=fun b o h _=>e b o h
theorem Kx.trans {H1 H2:Hp} (a:Kx S H H1) (b:Kx S H1 H2):Kx S H H2:=fun c o h z=>b c o (a c o h z) z
theorem Kx.mono {S':List Addr} (a:Kx S H H') (h:∀ x∈S,x∈S'):Kx S' H H':=fun c o q z=>a c o q fun y=>z (h c y)
theorem Kx.upd {S:List Addr}{H:Hp}{a:Addr}{o:HO} (h:a∈S):Kx S H (L2.upd H a o):=fun b u e z=>by
 rw[ai (fun y=>z (by rw[y];exact h))];exact e
def Dc (H:Hp) (a:Addr):Prop:=∃ kvs,H a=some (.dK kvs)
theorem bI.kx {cnt:Nat} (h:bI C H q r ws cnt) (k:Kx S H H') (hs:∀ a∈S,a=r.p\/a=r.f\/a=r.n\/Dc H a):bI C H' q r ws cnt:=by
 have lst:∀ a xs,H a=some (.lst xs)->Nq r a->H' a=some (.lst xs):=fun a xs e n=>k a _ e fun z=>by
  rcases hs a z with y|y|y|⟨kvs,y⟩
  ·exact n.1 y
  ·exact n.2.1 y
  ·exact n.2.2 y
  ·rw[e] at y
   cases y
 obtain⟨dx,ex⟩:=h.ex;obtain⟨gs,g1,g2,g3⟩:=h.hg;obtain⟨cs,c1,c2,c3⟩:=h.hc;refine⟨⟨dx,k _ _ ex fun z=>?_⟩,lst _ _ h.ho h.no,lst _ _ h.ht h.nt,lst _ _ h.hl h.nl,⟨gs,lst _ _ g1 h.ng,g2,fun i a e=>⟨lst _ _ (g3 i a e).1 (g3 i a e).2,(g3 i a e).2⟩⟩,⟨cs,lst _ _ c1 h.nc,c2,fun i a e=>⟨lst _ _ (c3 i a e).1 (c3 i a e).2,(c3 i a e).2⟩⟩,h.no,h.nt,h.nl,h.ng,h.nc,h.nq,h.pf,h.pn,h.fn⟩;rcases hs q z with y|y|y|⟨kvs,y⟩
 ·exact h.nq.1 y
 ·exact h.nq.2.1 y
 ·exact h.nq.2.2 y
 ·rw[ex] at y
  cases y
theorem bI.same {cnt:Nat} (h:bI C H q r ws cnt) (e:ae H H'):bI C H' q r ws cnt:=by
 obtain⟨dx,ex⟩:=h.ex;obtain⟨gs,g1,g2,g3⟩:=h.hg;obtain⟨cs,c1,c2,c3⟩:=h.hc;exact⟨⟨dx,e _ _ ex⟩,e _ _ h.ho,e _ _ h.ht,e _ _ h.hl,⟨gs,e _ _ g1,g2,fun i a q=>⟨e _ _ (g3 i a q).1,(g3 i a q).2⟩⟩,⟨cs,e _ _ c1,c2,fun i a q=>⟨e _ _ (c3 i a q).1,(c3 i a q).2⟩⟩,h.no,h.nt,h.nl,h.ng,h.nc,h.nq,h.pf,h.pn,h.fn⟩
theorem ou  (h:i<l.length):atI (l.map V.int) (i:Int)=some (.int (fn l i)):=by
 rw[iL (by omega),Q7,Q4,QX h];unfold fn;rw[QV,QX h];rfl
theorem kY  (f:Wt->V) (h:n<ws.length):atI (ws.map f) (n:Int)=some (f (ws.getD n (0,0,0,0))):=by
 rw[iL (by omega),Q7,Q4,QX h,QV,QX h];rfl
theorem tR  (h:i<l.length):(l.map V.int)[((i:Nat):Int).toNat]?=some (.int (fn l i)):=by
 rw[Q7,Q4,QX h];unfold fn;rw[QV,QX h];rfl
theorem ql (kvs:Kvs) (k:Key) (v:V):(aE kvs k v).length<=kvs.length + 1:=by
 unfold aE;split
 ·rw[QT]
  omega
 ·rw[Rm]
  exact QY _
theorem me  (h:i<l.length) (v:Int):fn (l.set i v)=up (fn l) i v:=by
 funext j
 show(l.set i v).getD j 0=if j=i then v else l.getD j 0;rw[QV,QV,List.getElem?_set];by_cases c:i=j
 ·subst c
  simp[h]
 ·simp[c,Ne.symm c]
section
variable {K:PySem.W.Frag}
def NZ (C:Addr):Sp:=fun vs H Q _=>∃ q r ws c p,∃ n:Nat,vs=[.ref q,.int n]/\bI C H q r ws c/\H r.p=some (.lst ((p:List Int).map V.int))/\p.length=c/\n<ws.length/\(wn ws c).Ok/\Q (.int (slk (wn ws c) (fn p) n)) H
theorem DV (T:Tx K mg a):CalM P w K mg base CX0 1 a.Layout "slack" ["self","number"] [] (NZ a.Layout):=T.m_Layout_slack.cal fun f fd F=>by
 refine F.ok PK (fun vs H Q E h=>?_) (fun aA A outer s H vs Q E hr h=>?_)
 ·obtain⟨q,r,ws,c,p,n,rfl,_⟩:=h
  rfl
 ·obtain⟨q,r,ws,c,p,n,rfl,L,hp,hc,hn,ok,k⟩:=h
  obtain⟨dx,ex⟩:=L.ex;have o1:(ws.getD n (0,0,0,0)).1<p.length:=by rw[hc];exact ok.on n hn
  have o2:(ws.getD n (0,0,0,0)).2.1<p.length:=by rw[hc];exact ok.ot n hn
  refine⟨_,(aB (bn (aI iq (aI iq (aG bx (bG (pv 0) O) (aG bx (bG (pv 0) O) (pv 1) (fun _ _=>O)) (fun _ _=>O)) (aG bx (bG (pv 0) O) (aG bx (bG (pv 0) O) (pv 1) (fun _ _=>O)) (fun _ _=>O))) (aG bx (bG (pv 0) O) (pv 1) (fun _ _=>O))))),?_⟩;exact⟨_,O,q,a.Layout,dx,_,_,O,ex,T.c_Layout,T.na_Layout_places,oQ,_,O,q,a.Layout,dx,_,_,O,ex,T.c_Layout,T.na_Layout_others,ua,_,O,r.t,_,_,_,O,O,SqL.of L.ht,kY _ hn,r.p,_,_,_,O,O,SqL.of hp,ou o2,
   _,rfl,q,a.Layout,dx,_,_,rfl,ex,T.c_Layout,T.na_Layout_places,oQ,_,rfl,q,a.Layout,dx,_,_,rfl,ex,T.c_Layout,T.na_Layout_ones,qh,_,rfl,r.o,_,_,_,rfl,rfl,SqL.of L.ho,kY _ hn,r.p,_,_,_,rfl,rfl,SqL.of hp,ou o1,_,_,rfl,rfl,
   _,rfl,q,a.Layout,dx,_,_,rfl,ex,T.c_Layout,T.na_Layout_leasts,MW,_,rfl,r.l,_,_,_,rfl,rfl,SqL.of L.hl,kY _ hn,_,_,rfl,rfl,k⟩
def Pj (C:Addr):Sp:=fun vs H Q _=>∃ q r ws c,∃ n p:Nat,vs=[.ref q,.int n,.int p]/\bI C H q r ws c/\n<ws.length/\Q (.int (ac (wn ws c) n p:Nat)) H
theorem AB (T:Tx K mg a):CalM P w K mg base CX0 1 a.Layout "end_across" ["self","number","point"] [] (Pj a.Layout):=T.m_Layout_end_across.cal fun f fd F=>by
 refine F.ok ON (fun vs H Q E h=>?_) (fun aA A outer s H vs Q E hr h=>?_)
 ·obtain⟨q,r,ws,c,n,p,rfl,_⟩:=h
  rfl
 ·obtain⟨q,r,ws,c,n,p,rfl,L,hn,k⟩:=h
  obtain⟨dx,ex⟩:=L.ex;refine⟨_,(aB (bn (Af (cJ oB (aG bx (bG (pv 0) O) (pv 1) (fun _ _=>O)) (pv 2) (bH _)) (aG bx (bG (pv 0) O) (pv 1) (fun _ _=>O)) (aG bx (bG (pv 0) O) (pv 1) (fun _ _=>O))))),?_⟩;refine⟨_,O,q,a.Layout,dx,_,_,O,ex,T.c_Layout,T.na_Layout_others,ua,_,O,r.t,_,_,_,O,O,SqL.of L.ht,kY _ hn,_,O,O,_,O,?_⟩;refine dv (fun c1=>?_) (fun c1=>?_)
  ·refine⟨_,O,q,a.Layout,dx,_,_,O,ex,T.c_Layout,T.na_Layout_ones,qh,_,O,r.o,_,_,_,O,O,SqL.of L.ho,kY _ hn,?_⟩
   have e:ac (wn ws c) n p=(ws.getD n (0,0,0,0)).1:=if_pos (by have:=Rj c1;injection this with z;exact Int.ofNat.inj z);rw[e] at k;exact k
  ·refine⟨_,O,q,a.Layout,dx,_,_,O,ex,T.c_Layout,T.na_Layout_others,ua,_,O,r.t,_,_,_,O,O,SqL.of L.ht,kY _ hn,?_⟩
   have e:ac (wn ws c) n p=(ws.getD n (0,0,0,0)).2.1:=if_neg (fun z=>by have:=RH c1;exact this (by rw[show(ws.getD n (0,0,0,0)).2.1=p from z]));rw[e] at k;exact k
end
def AU:Option Nat->V
 | none=>.non
 | some v=>.int (v:Nat)
def psh (ws:List Wt) (c:Nat) (P:List Int) (kvs:Kvs):Nat->List Int×Kvs×Option Nat
 | 0=>(P,kvs,none)
 | k + 1=>if slk (wn ws c) (fn (psh ws c P kvs k).1) k<0 then
   ((psh ws c P kvs k).1.set ((wn ws c).ot k) (fn (psh ws c P kvs k).1 ((wn ws c).ot k) + (0 - slk (wn ws c) (fn (psh ws c P kvs k).1) k)),aE (psh ws c P kvs k).2.1 (Sum.inl (((wn ws c).ot k:Nat):Int)) (.int (k:Nat)),some ((wn ws c).ot k))
  else psh ws c P kvs k
theorem wj (ws:List Wt) (c:Nat) (P:List Int) (kvs:Kvs):∀ k,(psh ws c P kvs k).1.length=P.length/\(psh ws c P kvs k).2.1.length<=kvs.length + k
 | 0=>⟨O,QY _⟩
 | k + 1=>by
  obtain⟨h1,h2⟩:=wj ws c P kvs k;unfold psh;split
  ·refine⟨by rw[RD];exact h1,?_⟩
   have:=ql (psh ws c P kvs k).2.1 (Sum.inl (((wn ws c).ot k:Nat):Int)) (.int (k:Nat));show(aE _ _ _).length<=_;omega
  ·exact⟨h1,by omega⟩
section
variable {K:PySem.W.Frag}
def spPush (C:Addr):Sp:=fun vs H Q _=>∃ q r ws c p d kvs,vs=[.ref q,.ref d]/\bI C H q r ws c/\H r.p=some (.lst ((p:List Int).map V.int))/\p.length=c/\(wn ws c).Ok/\ws.length<=1000/\H d=some (.dK kvs)/\kvs.length<=100000 /\
 ∀ H',Kx [r.p,d] H H'->H' r.p=some (.lst ((psh ws c p kvs ws.length).1.map V.int))->H' d=some (.dK (psh ws c p kvs ws.length).2.1)->Q (AU (psh ws c p kvs ws.length).2.2) H'
theorem Lm (T:Tx K mg a):Cal P w K mg base CX0 2 "push_once" ["layout","pushers"] [] (spPush a.Layout):=T.d_push_once.cal fun f fd F=>by
 have m_Layout_slack:=DV (P:=P) (w:=w) (base:=base) T;refine F.ok pX (fun vs H Q E h=>?_) (fun aA A outer s H vs Q E hr h=>?_)
 ·obtain⟨q,r,ws,c,p,d,kvs,rfl,_⟩:=h
  rfl
 ·obtain⟨q,r,ws,c,p,d,kvs,rfl,L,hp,hc,ok,hw,hd,hk,k⟩:=h
  have qT:r.p≠d:=kU hp hd (by intro z;cases z);have lay:∀ G,Kx [r.p,d] H G->bI a.Layout G q r ws c:=fun G kx=>L.kx kx fun x hx=>by
   rcases Rp.mp hx with z|z
   ·exact .inl z
   ·rw[S1.mp z]
    exact .inr (.inr (.inr ⟨kvs,hd⟩))
  obtain⟨dx,ex⟩:=L.ex;refine⟨_,(aq (aQ (i:=2) pX.nd O (.inl O) EW)
   (aq (cV PassesOwn.never rfl (sT rfl T.n_enumerate (af (bG (pv 0) rfl) ak)) (fD rfl (aO (az (i:=3) pX.nd O (.inl O)) (aO (az (i:=4) pX.nd O (.inl O)) cz))) (aq (aQ (i:=5) pX.nd O (.inl O) (aI iq au (tG (pv 0) T.c_Layout m_Layout_slack (hr.mono (by decide)) (af (pv 3) ak))))
   (aB (d6 (cJ oK (pv 5) au (bH _)) (aq (o8 (bG (pv 0) rfl) (pv 4) oY (pv 5) tf kL)
   (aq (jH (bb hr) (pv 1) (pv 4) (pv 3) rfl)
   (aB (aQ (i:=2) pX.nd O (.inl O) (pv 4))))) d9))))
   (aB (bn (pv 2))))),?_⟩
  refine⟨_,O,q,a.Layout,dx,_,_,O,ex,T.c_Layout,T.na_Layout_others,ua,r.t,O,⟨_,SqL.of L.ht⟩,vn (K:=K) (l:=r.t) (xs:=ws.map fun w=>V.int (w.2.1:Nat)) (fun i σ G=>∃ v3 v4 v5,σ=[some (.ref q),some (.ref d),some (AU (psh ws c p kvs i).2.2),v3,v4,v5]/\Kx [r.p,d] H G/\G r.p=some (.lst ((psh ws c p kvs i).1.map V.int))/\G d=some (.dK (psh ws c p kvs i).2.1))
   ⟨none,none,none,rfl,Kx.of (ae.refl _),hp,hd⟩ ?_ ?_ ?_⟩
  ·rintro i σ G _ ⟨_,_,_,rfl,kx,_⟩
   exact SqL.of (lay G kx).ht
  ·rintro i x tt σ G hx nt ⟨v3,v4,v5,rfl,kx,hG,iu⟩
   have hi:i<ws.length:=by
    have:=(List.getElem?_eq_some_iff.mp hx).1;rw[QT] at this;exact this
   have Cf:x=.int ((wn ws c).ot i:Nat):=by
    rw[Q4,QX hi] at hx;have z:=Option.some.inj hx;rw[<- z];show V.int ((ws[i].2.1:Nat):Int)=V.int (((ws.getD i (0,0,0,0)).2.1:Nat):Int);rw[QV,QX hi];rfl
   subst Cf;obtain⟨l1,l2⟩:=wj ws c p kvs i;have oi:(wn ws c).ot i<c:=ok.ot i hi;have s3:ae G (upd G tt (.tup [.int i,.int ((wn ws c).ot i:Nat)])):=ae.new nt;have h3:upd G tt (.tup [.int i,.int ((wn ws c).ot i:Nat)]) tt=some (.tup [.int i,.int ((wn ws c).ot i:Nat)]):=ah;generalize upd G tt (.tup [.int i,.int ((wn ws c).ot i:Nat)])=G3 at s3 h3 ⊢;have fj:Kx [r.p,d] H G3:=kx.trans (Kx.of s3);have gU:=s3 _ _ hG;have jW:=s3 _ _ iu;have L3:=lay G3 fj;obtain⟨uD,ex3⟩:=L3.ex;have st:psh ws c p kvs (i + 1)=if slk (wn ws c) (fn (psh ws c p kvs i).1) i<0 then
     ((psh ws c p kvs i).1.set ((wn ws c).ot i) (fn (psh ws c p kvs i).1 ((wn ws c).ot i) + (0 - slk (wn ws c) (fn (psh ws c p kvs i).1) i)),aE (psh ws c p kvs i).2.1 (Sum.inl (((wn ws c).ot i:Nat):Int)) (.int (i:Nat)),some ((wn ws c).ot i))
    else psh ws c p kvs i:=rfl
   rw[st];generalize psh ws c p kvs i=now at gU jW l1 l2 st ⊢;refine⟨tt,_,O,SqT.of h3,O,_,_,O,_,_,O,O,?_⟩;refine⟨_,O,q,uD,_,O,ex3,by rfl,_,O,q,r,ws,c,now.1,i,O,L3,gU,by omega,hi,ok,_,_,O,O,?_⟩;refine⟨_,O,_,_,O,O,_,O,?_⟩;refine dv (fun c1=>?_) (fun c1=>?_)
   ·have c2:slk (wn ws c) (fn now.1) i<0:=by have:=Rj c1;omega
    rw[if_pos c2];have J4:(wn ws c).ot i<now.1.length:=by omega
    refine⟨_,O,q,a.Layout,uD,_,_,O,ex3,T.c_Layout,T.na_Layout_places,oQ,_,O,r.p,_,_,_,O,O,SqL.of gU,by omega,tR J4,_,O,_,_,O,O,r.p,_,_,_,O,O,gU,jF (by omega) (by rw[QT];omega),?_⟩;rw[Q7,<- Sr];have eX:Kx [r.p,d] H (upd G3 r.p (.lst ((now.1.set ((wn ws c).ot i) (fn now.1 ((wn ws c).ot i) + (0 - slk (wn ws c) (fn now.1) i))).map V.int))):=fj.trans (Kx.upd (by simp));have h4:upd G3 r.p (.lst ((now.1.set ((wn ws c).ot i) (fn now.1 ((wn ws c).ot i) + (0 - slk (wn ws c) (fn now.1) i))).map V.int)) r.p=some (.lst ((now.1.set ((wn ws c).ot i) (fn now.1 ((wn ws c).ot i) + (0 - slk (wn ws c) (fn now.1) i))).map V.int)):=ah;have h5:upd G3 r.p (.lst ((now.1.set ((wn ws c).ot i) (fn now.1 ((wn ws c).ot i) + (0 - slk (wn ws c) (fn now.1) i))).map V.int)) d=some (.dK now.2.1):=by rw[ai (Ne.symm qT)];exact jW
    refine⟨_,O,_,O,_,O,d,_,O,.inl ⟨now.2.1,Sum.inl (((wn ws c).ot i:Nat):Int),h5,O,by rw[Q3];omega,O⟩,?_⟩;refine⟨_,O,_,_,_,O,eX.trans (Kx.upd (by simp)),?_,ah⟩;rw[ai qT];exact h4
   ·have c2:¬ slk (wn ws c) (fn now.1) i<0:=by have:=RH c1;omega
    rw[if_neg c2];exact⟨_,_,_,O,fj,gU,jW⟩
  ·rintro σ G ⟨v3,v4,v5,rfl,kx,hG,iu⟩
   rw[QT] at hG iu ⊢;exact⟨_,O,k G kx hG iu⟩
end
def iM (kvs:Kvs) (pu:Nat->Option Nat):Prop:=∀ v:Nat,aN kvs (Sum.inl (v:Int))=(pu v).map fun n=>V.int (n:Nat)
theorem iM.nil:iM [] (fun _=>none):=fun _=>rfl
theorem iM.put  (h:iM kvs pu) (v n:Nat):iM (aE kvs (Sum.inl (v:Int)) (.int (n:Nat))) (up pu v (some n)):=fun u=>by
 rw[kP];by_cases c:u=v
 ·subst c
  rw[if_pos rfl,aS];rfl
 ·rw[if_neg (fun z=>c (by injection z with z;exact Int.ofNat.inj z)),aK _ _ c]
  exact h u
theorem iM.dget {v:Nat} (h:iM kvs pu) (hd:H d=some (.dK kvs)) (e:pu v=some n):fB H d (.int (v:Nat)) (some (.int (n:Nat))):=.inl ⟨kvs,Sum.inl (v:Int),.inl hd,O,by rw[h v,e];rfl⟩
theorem Fp {ws:List Wt}{c:Nat}{P:List Int}{kvs:Kvs}{t:Nat->Nat}{pu:Nat->Option Nat}{r:Nat} (hc:P.length=c) (ok:(wn ws c).Ok) (hp:iM kvs pu) (f:Fi (wn ws c) t (fn P) pu) (h:Rd (wn ws c) t (fn P) r 0):∀ k,k<=ws.length ->
  ∃ t' mR,iM (psh ws c P kvs k).2.1 mR/\Fi (wn ws c) t' (fn (psh ws c P kvs k).1) mR/\Rd (wn ws c) t' (fn (psh ws c P kvs k).1) r k/\((psh ws c P kvs k).2.2=none->psh ws c P kvs k=(P,kvs,none)/\∀ n,n<k->0<=slk (wn ws c) (fn P) n)/\∀ v,(psh ws c P kvs k).2.2=some v->r<=t' v/\v<c
 | 0,_=>⟨t,pu,hp,f,h,fun _=>⟨O,fun n hn=>absurd hn (R0 _)⟩,fun v e=>by cases e⟩
 | k + 1,hk=>by
  obtain⟨t',mR,i1,i2,i3,i4,i5⟩:=Fp hc ok hp f h k (by omega);have l1:=(wj ws c P kvs k).1;have oi:(wn ws c).ot k<c:=ok.ot k (by show k<ws.length;omega);unfold psh;by_cases s:slk (wn ws c) (fn (psh ws c P kvs k).1) k<0
  ·rw[if_pos s]
   refine⟨up t' ((wn ws c).ot k) r,up mR ((wn ws c).ot k) (some k),i1.put _ _,?_,?_,fun e=>(by cases e),fun v e=>?_⟩
   ·show Fi _ _ (fn ((psh ws c P kvs k).1.set _ _)) _
    rw[me (by omega)];exact Li i2 i3 (by show k<ws.length;omega) s
   ·show Rd _ _ (fn ((psh ws c P kvs k).1.set _ _)) _ _
    rw[me (by omega)];exact Nd i3 s
   ·obtain rfl:(wn ws c).ot k=v:=Option.some.inj e
    rw[aS];exact⟨QY _,oi⟩
  ·rw[if_neg s]
   refine⟨t',mR,i1,i2,i3.skip (by omega),fun e=>?_,i5⟩;obtain⟨e1,e2⟩:=i4 e;refine⟨e1,fun n hn=>?_⟩;rcases RZ n k with z|z
   ·exact e2 n z
   ·obtain rfl:n=k:=by omega
    rw[e1] at s;exact Int.not_lt.mp s
def rgL (N:Wn) (pu:Nat->Option Nat) (p:Nat):Nat->List Nat
 | 0=>[]
 | k + 1=>cn pu (itr (bk N pu) k p)::rgL N pu p k
theorem AZ (N:Wn) (pu:Nat->Option Nat) (p:Nat):∀ k,(rgL N pu p k).length=k
 | 0=>rfl
 | k + 1=>by
  show(rgL N pu p k).length + 1=k + 1;rw[AZ N pu p k]
structure jN (N:Wn) (ring:List Nat):Prop where
 told:∃ P t pu p k,Fi N t P pu/\p<N.c/\(∀ i,(pu (itr (bk N pu) i p)).isSome=true)/\ring=rgL N pu p (k + 1)/\itr (bk N pu) (k + 1) p=p/\∀ s,1<=s->s<=k->itr (bk N pu) s p≠p
theorem AG {v:Nat} (h:(pu v).isSome=true):bk N pu v=N.on (cn pu v):=by
 unfold bk;rw[iR h]
theorem at0 {x:V}:atI (x::xs) 0=some x:=by
 rw[show(0:Int)=((0:Nat):Int) from rfl,iL (by omega)];rfl
section
variable {K:PySem.W.Frag}
def spRing (C:Addr):Sp:=fun vs H Q _=>∃ q r ws c p d kvs t pu,∃ v:Nat,vs=[.ref q,.ref d,.int v]/\bI C H q r ws c/\H r.p=some (.lst ((p:List Int).map V.int))/\p.length=c/\(wn ws c).Ok/\c<=1000/\H d=some (.dK kvs)/\iM kvs pu/\Fi (wn ws c) t (fn p) pu/\c<=t v/\v<c /\
 ∀ g ring H',ae H H'->H' g=some (.lst (aM ring))->H g=none->jN (wn ws c) ring->ring.length<=c + 1->Q (.ref g) H'
theorem L7 (T:Tx K mg a):Cal P w K mg base CX0 2 "ring_behind" ["layout","pushers","point"] [] (spRing a.Layout):=T.d_ring_behind.cal fun f fd F=>by
 refine F.ok vJ (fun vs H Q E h=>?_) (fun aA A outer s H vs Q E hr h=>?_)
 ·obtain⟨q,r,ws,c,p,d,kvs,t,pu,v,rfl,_⟩:=h
  rfl
 ·obtain⟨q,r,ws,c,p,d,kvs,t,pu,v,rfl,L,hp,hc,ok,Ql,hd,II,fi,ht,hv,k⟩:=h
  obtain⟨all,dd,zI,Dm,fK⟩:=NK ok fi ht hv;have Dm:dd<=c:=Dm;have num:∀ x,(pu x).isSome=true->cn pu x<ws.length:=fun x e=>(fi.a x _ (iR e)).1
  obtain⟨dx,ex⟩:=L.ex;have dg:∀ G,ae H G->∀ x,(pu x).isSome=true->fB G d (.int (x:Nat)) (some (.int (cn pu x:Nat))):=fun G sg x e=>II.dget (sg _ _ hd) (iR e)
  have one:∀ G,ae H G->∀ x,(pu x).isSome=true->SqL K G r.o (ws.map fun w=>V.int (w.1:Nat))/\atI (ws.map fun w=>V.int (w.1:Nat)) ((cn pu x:Nat):Int)=some (.int (bk (wn ws c) pu x:Nat)):=fun G sg x e=>⟨SqL.of (sg _ _ L.ho),by rw[kY _ (num x e),AG e];rfl⟩
  refine⟨_,(aq (cV PassesOwn.never O (bV (bG (pv 0) O)) (az (i:=3) vJ.nd O (.inl O)) (aB (aQ (i:=2) vJ.nd O (.inl O) (aG bx (bG (pv 0) O) (cH (bb hr) (pv 1) (pv 2) (fun _ _=>O)) (fun _ _=>O)))))
   (aq (aQ (i:=4) vJ.nd O (.inl O) (dJ (af (cH (bb hr) (pv 1) (pv 2) (fun _ _=>O)) ak)))
   (aq (uk PassesOwn.never (cJ qo (aG bx (bG (pv 0) rfl) (aG bx (pv 4) au (fun _ _=>O)) (fun _ _=>O)) (pv 2) (bH _)) (aB (eJ (iO PySem.F.plainAttrs_list PySem.F.slot_list_insert PySem.F.type_list_insert DQ (pv 4) (af au (af (cH (bb hr) (pv 1) (aG bx (bG (pv 0) O) (aG bx (pv 4) au (fun _ _=>O)) (fun _ _=>O)) (fun _ _=>O)) ak))))))
   (aB (bn (pv 4)))))),?_⟩
  refine⟨_,O,q,a.Layout,dx,_,_,O,ex,T.c_Layout,T.na_Layout_places,oQ,r.p,O,⟨_,SqL.of hp⟩,iP (K:=K) (a:=r.p) (xs:=p.map V.int) (fun i σ G=>∃ v3,σ=[some (.ref q),some (.ref d),some (.int (itr (bk (wn ws c) pu) i v:Nat)),v3,none]/\ae H G)
   ⟨none,rfl,ae.refl _⟩ ?_ ?_ ?_⟩
  ·rintro i σ G _ ⟨_,rfl,sg⟩
   exact SqL.of (sg _ _ hp)
  ·rintro i x σ G hx ⟨v3,rfl,sg⟩
   have o:=one G sg _ (all i);dsimp only[bA];exact⟨_,O,q,a.Layout,dx,_,_,O,sg _ _ ex,T.c_Layout,T.na_Layout_ones,qh,_,O,_,O,d,_,O,dg G sg _ (all i),r.o,_,_,_,O,O,o.1,o.2,_,O,sg⟩
  ·rintro σ G ⟨v3,rfl,sg⟩
   rw[QT,hc];have al:∀ i,(pu (itr (bk (wn ws c) pu) i (itr (bk (wn ws c) pu) c v))).isSome=true:=fun i=>by rw[<- tU];exact all _
   have fX:(wn ws c).c=c:=rfl;rw[fX] at fK;generalize JJ:itr (bk (wn ws c) pu) c v=x0 at al fK;have Kk:x0<c:=by
    rw[<- JJ];cases c with
    | zero=>exact absurd hv (R0 _)
    | succ c'=>
     have e:itr (bk (wn ws (c' + 1)) pu) (c' + 1) v=(wn ws (c' + 1)).on (cn pu (itr (bk (wn ws (c' + 1)) pu) c' v)):=AG (all c');rw[e];exact ok.on _ (num _ (all c'))
   refine⟨_,O,_,O,d,_,O,dg G sg _ (al 0),(by show 1<=sizeLine;decide),fun g ng=>?_⟩;have s1:ae G (upd G g (.lst [.int (cn pu x0:Nat)])):=ae.new ng;have h1:upd G g (.lst [.int (cn pu x0:Nat)]) g=some (.lst [.int (cn pu x0:Nat)]):=ah;have BO:H g=none:=none_of sg ng;generalize upd G g (.lst [.int (cn pu x0:Nat)])=H1 at s1 h1 ⊢;refine⟨fun m σ H'=>∃ j,m=dd - (j + 1)/\j<dd/\σ=[some (.ref q),some (.ref d),some (.int (x0:Nat)),v3,some (.ref g)]/\ae H H'/\H' g=some (.lst (aM (rgL (wn ws c) pu x0 (j + 1))))/\∀ s,1<=s->s<=j->itr (bk (wn ws c) pu) s x0≠x0,
    ⟨_,0,rfl,zI,rfl,sg.trans s1,h1,fun s h1 h2=>absurd h1 (by omega)⟩,?_⟩
   rintro m σ H2 ⟨j,rfl,jd,rfl,s2,nQ,ne⟩
   have o:=one H2 s2 _ (al j);refine⟨_,O,q,a.Layout,dx,_,_,O,s2 _ _ ex,T.c_Layout,T.na_Layout_ones,qh,_,O,g,_,_,_,O,O,SqL.of nQ,at0,r.o,_,_,_,O,O,o.1,o.2,_,O,O,_,O,?_⟩;have e1:bk (wn ws c) pu (itr (bk (wn ws c) pu) j x0)=itr (bk (wn ws c) pu) (j + 1) x0:=rfl;refine dv (fun c1=>?_) (fun c1=>?_)
   ·have n1:itr (bk (wn ws c) pu) (j + 1) x0≠x0:=fun z=>by
     rw[e1,z,Ro rfl] at c1;cases c1
    have IK:j + 1<dd:=by
     rcases RZ (j + 1) dd with z|z
     ·exact z
     ·exact absurd (by rw[show j + 1=dd by omega];exact fK) n1
    refine⟨_,fun σ' H' h=>h,?_⟩;have len:=AZ (wn ws c) pu x0 (j + 1);have lz:(aM (rgL (wn ws c) pu x0 (j + 1))).length=j + 1:=by unfold aM;rw[QT,len]
    refine⟨_,O,.inl ⟨O,_,SqL.of nQ⟩,_,O,_,O,q,a.Layout,dx,_,_,O,s2 _ _ ex,T.c_Layout,T.na_Layout_ones,qh,_,O,g,_,_,_,O,O,SqL.of nQ,at0,r.o,_,_,_,O,O,o.1,o.2,d,_,O,dg H2 s2 _ (al (j + 1)),g,_,0,_,O,O,nQ,by omega,by omega,?_,?_⟩
    ·rw[lz,Q3]
     omega
    ·exact⟨dd - (j + 1 + 1),by omega,j + 1,O,IK,O,bv BO s2,ah,fun s h1 h2=>by
      rcases RZ s (j + 1) with z|z
      ·exact ne s h1 (by omega)
      ·rw[show s=j + 1 by omega]
       exact n1⟩
   ·have e2:itr (bk (wn ws c) pu) (j + 1) x0=x0:=by
     by_cases z:itr (bk (wn ws c) pu) (j + 1) x0=x0
     ·exact z
     ·rw[e1,RQ (fun y=>z (by injection y with y;exact Int.ofNat.inj y))] at c1
      cases c1
    exact⟨_,O,k g _ H2 s2 nQ BO ⟨_,t,pu,x0,j,fi,Kk,al,O,e2,ne⟩ (by rw[AZ];omega)⟩
end
def rdF (ws:List Wt) (c:Nat) (P:List Int):Nat->List Int×Kvs×Option Nat
 | 0=>(P,[],none)
 | j + 1=>psh ws c (rdF ws c P j).1 (rdF ws c P j).2.1 ws.length
def mD (ws:List Wt) (c:Nat):List Int:=(rdF ws c (List.replicate c 0) c).1
theorem DS {ws:List Wt}{c:Nat}{P:List Int}{kvs:Kvs} (h:∀ n,n<ws.length->0<=slk (wn ws c) (fn P) n):∀ k,k<=ws.length->psh ws c P kvs k=(P,kvs,none)
 | 0,_=>rfl
 | k + 1,hk=>by
  have ih:=DS h (kvs:=kvs) k (by omega);unfold psh;rw[ih,if_neg (by have:=h k (by omega);show ¬ slk (wn ws c) (fn P) k<0;omega)]
theorem Et {ws:List Wt}{c:Nat}{P:List Int}{j:Nat} (h:∀ n,n<ws.length->0<=slk (wn ws c) (fn (rdF ws c P j).1) n):∀ i,(rdF ws c P (j + i)).1=(rdF ws c P j).1
 | 0=>rfl
 | i + 1=>by
  have ih:=Et h i;show(psh ws c (rdF ws c P (j + i)).1 (rdF ws c P (j + i)).2.1 ws.length).1=_;rw[ih,DS h _ (QY _)]
theorem wc (ws:List Wt) (c:Nat) (P:List Int):∀ j,(rdF ws c P j).1.length=P.length/\(rdF ws c P j).2.1.length<=j * ws.length
 | 0=>⟨O,R9 _⟩
 | j + 1=>by
  obtain⟨h1,h2⟩:=wc ws c P j;obtain⟨h3,h4⟩:=wj ws c (rdF ws c P j).1 (rdF ws c P j).2.1 ws.length;refine⟨h3.trans h1,Rz h4 ?_⟩;rw[Nat.succ_mul];omega
theorem uZ (c:Nat):fn (List.replicate c 0)=fun _=>0:=by
 funext i
 unfold fn;rw[QV,TX];split <;> rfl
def oJ (ws:List Wt) (c:Nat) (i:Nat):Prop:=∃ t pu,iM (rdF ws c (List.replicate c 0) i).2.1 pu/\Fi (wn ws c) t (fn (rdF ws c (List.replicate c 0) i).1) pu/\Rd (wn ws c) t (fn (rdF ws c (List.replicate c 0) i).1) (i + 1) 0/\∀ v,(rdF ws c (List.replicate c 0) i).2.2=some v->i<=t v/\v<c
theorem oJ.start (ws:List Wt) (c:Nat):oJ ws c 0:=by
 refine⟨fun _=>0,fun _=>none,iM.nil,?_,?_,fun v e=>by cases e⟩
 ·show Fi _ _ (fn (List.replicate c 0)) _
  rw[uZ];exact Fi.start _
 ·exact Rd.start _ _
theorem oJ.next {ws:List Wt}{c i:Nat} (ok:(wn ws c).Ok) (h:oJ ws c i):oJ ws c (i + 1)/\((rdF ws c (List.replicate c 0) (i + 1)).2.2=none->(rdF ws c (List.replicate c 0) (i + 1)).1=(rdF ws c (List.replicate c 0) i).1/\∀ n,n<ws.length->0<=slk (wn ws c) (fn (rdF ws c (List.replicate c 0) i).1) n):=by
 obtain⟨t,pu,h1,h2,h3,_⟩:=h;have hl:(rdF ws c (List.replicate c 0) i).1.length=c:=by rw[(wc ws c _ i).1,Rs]
 obtain⟨t',mR,i1,i2,i3,i4,i5⟩:=Fp hl ok h1 h2 h3 ws.length (QY _);refine⟨⟨t',mR,i1,i2,Rd.next i3,i5⟩,fun e=>?_⟩;obtain⟨e1,e2⟩:=i4 e;refine⟨?_,e2⟩;show(psh ws c (rdF ws c (List.replicate c 0) i).1 (rdF ws c (List.replicate c 0) i).2.1 ws.length).1=_;rw[e1]
variable {a d i:Int}{s st:Nat×Int}{v:Nat}{wt:Kvs}
section
variable {K:PySem.W.Frag}{a:Adr}
def LZ (C:Addr):Sp:=fun vs H Q _=>∃ x t g ys,vs=[.ref x,.ref g]/\H x=some (jL C t x none)/\H g=some (.lst ys)/\∀ l,H l=none->∀ dx,upd H l (.lst ys) dx=none->Q .non (upd (upd (upd H l (.lst ys)) dx (.xd [("ring",.ref l)])) x (jL C t x (some dx)))
theorem Mr (T:Tx K mg a):AF P w K mg base CX0 1 a.Ring "Ring" ["self","ring"] (LZ a.Ring):=T.xi_Ring.cal fun f fd F=>by
 refine F.ok PQ (fun vs H Q E h=>?_) (fun aA A outer s H vs Q E hr h=>?_)
 ·obtain⟨x,t,g,ys,rfl,_⟩:=h
  rfl
 ·obtain⟨x,t,g,ys,rfl,hx,hg,k⟩:=h
  refine⟨_,(aB (MQ (pv 0) (vz Ex O T.n_list vH (af (pv 1) ak)) O)),?_⟩;exact⟨_,O,g,_,O,.inl (SqL.of hg),fun l nl=>⟨_,O,x,a.Ring,t,O,by rw[ai (ap hx nl)];exact hx,T.xs_Ring_ring,fun dx nd=>k l nl dx nd⟩⟩
def spFit (a:Adr):Sp:=fun vs H Q E=>∃ q r ws c,vs=[.ref q]/\bI a.Layout H q r ws c/\H r.p=some (.lst ((List.replicate c (0:Int)).map V.int))/\(wn ws c).Ok/\ws.length<=200/\c<=200 /\
 ((∀ n,n<ws.length->0<=slk (wn ws c) (fn (mD ws c)) n)->(mD ws c).length=c->∀ H',Kx [r.p] H H'->H' r.p=some (.lst ((mD ws c).map V.int))->Q .non H') /\
 ∀ ring l dx H',Kx [r.p] H H'->H' dx=some (.xd [("ring",.ref l)])->H' l=some (.lst (aM ring))->jN (wn ws c) ring->ring.length<=c + 1->E (.ref a.Ring) (some dx) H'
theorem ok_fit (T:Tx K mg a):Cal P w K mg base (CXe P w) 3 "fit" ["layout"] [] (spFit a):=T.d_fit.cal fun f fd F=>by
 have fh:=Lm (P:=P) (w:=w) (base:=base) T;have df:=L7 (P:=P) (w:=w) (base:=base) T;have m8:=Mr (P:=P) (w:=w) (base:=base) T;refine F.okX pT (fun vs H Q E h=>?_) (fun aA A outer s H vs Q E hr h=>?_)
 ·obtain⟨q,r,ws,c,rfl,_⟩:=h
  rfl
 ·obtain⟨q,r,ws,c,rfl,L,hp,ok,hw,hc,k1,k2⟩:=h
  obtain⟨dx,ex⟩:=L.ex;refine⟨_,(aq (aQ (i:=1) pT.nd O (.inl O) (bp ek O T.n_len eh (af (bG (pv 0) O) ak)))
   (aq (aQ (i:=2) pT.nd O (.inl O) mC)
   (aq (aQ (i:=3) pT.nd O (.inl O) EW)
   (aq (cV PassesOwn.leaving rfl (tI rfl T.n_range (af (pv 1) ak)) (az (i:=4) pT.nd O (.inl O)) (aq (aQ (i:=3) pT.nd O (.inl O) (a7 fh (hr.mono (by decide)) rfl (af (pv 0) (af (pv 2) ak))))
   (aB (d6 (tL (pc_isN (pv 3))) (aB Pe) d9))))
   (aB (d6 (tL (Pk (pv 3))) (aB (NP oG m8 (hr.mono (by decide)) rfl (af (a7 df (hr.mono (by decide)) rfl (af (pv 0) (af (pv 2) (af (pv 3) ak)))) ak))) d9)))))),?_⟩
  refine⟨_,O,q,a.Layout,dx,_,_,O,ex,T.c_Layout,T.na_Layout_places,oQ,r.p,_,O,.inl (SqL.of hp),fun d nd=>?_⟩;have lz:((List.replicate c (0:Int)).map V.int).length=c:=by rw[QT,Rs]
  have qT:r.p≠d:=ap hp nd;have s1:ae H (upd H d (.dK [])):=ae.new nd;have h1:upd H d (.dK []) d=some (.dK []):=ah;generalize upd H d (.dK [])=H1 at s1 h1 ⊢;have L1:=L.same s1;have lay:∀ G,Kx [r.p,d] H1 G->bI a.Layout G q r ws c:=fun G kx=>L1.kx kx fun x hx=>by
   rcases Rp.mp hx with z|z
   ·exact .inl z
   ·rw[S1.mp z]
    exact .inr (.inr (.inr ⟨[],h1⟩))
  have rQ:∀ G,Kx [r.p,d] H1 G->Kx [r.p] H G:=fun G kx b o e z=>kx b o (s1 b o e) fun y=>by
   rcases Rp.mp y with y|y
   ·exact z (by rw[y];simp)
   ·rw[S1.mp y,nd] at e
    cases e
  rw[lz];refine⟨_,O,_,O,by omega,by omega,LI (lo:=0) (n:=((c:Nat):Int).toNat) (fun i σ G=>∃ v4,σ=[some (.ref q),some (.int (c:Nat)),some (.ref d),some (AU (rdF ws c (List.replicate c 0) i).2.2),v4]/\oJ ws c i/\Kx [r.p,d] H1 G/\G r.p=some (.lst ((rdF ws c (List.replicate c 0) i).1.map V.int))/\G d=some (.dK (rdF ws c (List.replicate c 0) i).2.1)/\(0<i->(rdF ws c (List.replicate c 0) i).2.2≠none))
   ⟨none,rfl,oJ.start ws c,Kx.of (ae.refl _),s1 _ _ hp,h1,fun z=>absurd z (Rl _)⟩ ?_ ?_⟩
  ·rintro i σ G hi ⟨v4,rfl,ro,kx,hG,iu,_⟩
   rw[Q7] at hi;obtain⟨l1,l2⟩:=wc ws c (List.replicate c 0) i;rw[Rs] at l1;have l3:i * ws.length<=200 * 200:=Nat.mul_le_mul (by omega) hw;dsimp only[bA];refine⟨_,O,_,O,q,r,ws,c,_,d,_,O,lay G kx,hG,l1,ok,by omega,iu,by omega,fun H2 gM h2 bR=>?_⟩;obtain⟨Kh,non⟩:=ro.next ok;have st:psh ws c (rdF ws c (List.replicate c 0) i).1 (rdF ws c (List.replicate c 0) i).2.1 ws.length=rdF ws c (List.replicate c 0) (i + 1):=rfl;rw[st] at h2 bR ⊢;refine⟨_,O,_,O,?_⟩;cases e:(rdF ws c (List.replicate c 0) (i + 1)).2.2 with
   | none=>
    refine eK ?_;obtain⟨e1,e2⟩:=non e;have l8:=Et e2 (c - i);rw[show i + (c - i)=c by omega] at l8;have fp:mD ws c=(rdF ws c (List.replicate c 0) (i + 1)).1:=l8.trans e1.symm;refine k1 ?_ ?_ H2 (rQ _ (kx.trans gM)) (by rw[fp];exact h2)
    ·rw[fp,e1]
     exact e2
    ·rw[fp,e1]
     exact l1
   | some v=>
    refine mi ?_;exact⟨_,O,Kh,kx.trans gM,h2,bR,fun _ z=>by cases z⟩
  ·rintro σ G ⟨v4,rfl,ro,kx,hG,iu,ne⟩
   rw[Q7] at ro hG iu ne ⊢;obtain⟨l1,l2⟩:=wc ws c (List.replicate c 0) c;rw[Rs] at l1;refine⟨_,O,_,O,?_⟩;cases e:(rdF ws c (List.replicate c 0) c).2.2 with
   | none=>
    refine mi ?_;have c0:c=0:=by
     rcases Tt c with z|z
     ·exact z
     ·exact absurd e (ne z)
    refine k1 (fun n hn=>?_) l1 G (rQ _ kx) hG;have z:(wn ws c).on n<c:=ok.on n hn;omega
   | some v=>
    refine eK ?_;obtain⟨t,pu,r1,r2,r3,r4⟩:=ro;obtain⟨t1,t2⟩:=r4 v e;refine⟨_,O,_,O,_,O,q,r,ws,c,_,d,_,t,pu,v,O,lay G kx,hG,l1,ok,by omega,iu,r1,r2,t1,t2,fun g ring H2 s2 hg ng told len=>?_⟩;refine⟨by show 1<=sizeLine;decide,fun x tk hx=>⟨x,tk,g,aM ring,O,ah,by rw[ai (ap hg hx)];exact hg,fun l nl d2 iG=>⟨O,some d2,ah,?_⟩⟩⟩;have lx:l≠x:=fun z=>by rw[z,ah] at nl;cases nl
    have dl:d2≠l:=fun z=>by rw[z,ah] at iG;cases iG
    rw[ai dl] at iG;have Dk:d2≠x:=fun z=>by rw[z,ah] at iG;cases iG
    rw[ai Dk] at iG;rw[ai lx] at nl;have e:del (upd (upd (upd (upd H2 x (jL a.Ring tk x none)) l (.lst (aM ring))) d2 (.xd [("ring",.ref l)])) x (jL a.Ring tk x (some d2))) x=upd (upd H2 l (.lst (aM ring))) d2 (.xd [("ring",.ref l)]):=by
     funext b
     unfold del;by_cases h1:b=x
     ·subst h1
      rw[if_pos rfl,ai (Ne.symm Dk),ai (Ne.symm lx),hx]
     ·rw[if_neg h1,ai h1]
      by_cases h2:b=d2
      ·subst h2;rw[ah,ah]
      ·rw[ai h2,ai h2]
       by_cases h3:b=l
       ·subst h3;rw[ah,ah]
       ·rw[ai h3,ai h1,ai h3]
    show E _ _ _;rw[e];have sl:ae H2 (upd H2 l (.lst (aM ring))):=ae.new nl;have Hg:upd H2 l (.lst (aM ring)) d2=none:=by rw[ai dl];exact iG
    have sd:ae (upd H2 l (.lst (aM ring))) (upd (upd H2 l (.lst (aM ring))) d2 (.xd [("ring",.ref l)])):=ae.new Hg;exact k2 ring l d2 _ ((rQ _ kx).trans (Kx.of (s2.trans (sl.trans sd)))) ah (by rw[ai (Ne.symm dl)];exact ah) told len
end
def intOf:Option V->Option Int
 | some (.int i)=>some i
 | _=>none
def gI (kvs:Kvs) (v:Nat):Option Int:=intOf (aN kvs (Sum.inl (v:Int)))
def Wf (kvs:Kvs):Prop:=∀ p∈kvs,∃ (v:Nat) (i:Int),p=(Sum.inl (v:Int),V.int i)
theorem Wf.val  (h:Wf kvs) (v:Nat):aN kvs (Sum.inl (v:Int))=(gI kvs v).map V.int:=by
 unfold gI;cases e:aN kvs (Sum.inl (v:Int)) with
 | none=>rfl
 | some x=>
  unfold aN at e;obtain⟨p,e1,e2⟩:=Option.map_eq_some_iff.mp e;obtain⟨u,i,e3⟩:=h p (SZ e1);rw[e3] at e2;rw[<- e2];rfl
theorem Wf.put  (h:Wf kvs) (v:Nat) (i:Int):Wf (aE kvs (Sum.inl (v:Int)) (.int i)):=fun p hp=>by
 unfold aE at hp;split at hp
 ·obtain⟨p',h1,h2⟩:=List.mem_map.mp hp
  obtain⟨u,j,rfl⟩:=h p' h1;split at h2
  ·exact⟨u,i,h2.symm⟩
  ·exact⟨u,j,h2.symm⟩
 ·rcases T0.mp hp with z|z
  ·exact h p z
  ·exact⟨v,i,S1.mp z⟩
theorem iU (kvs:Kvs) (v:Nat) (i:Int):gI (aE kvs (Sum.inl (v:Int)) (.int i))=up (gI kvs) v (some i):=by
 funext u
 unfold gI;rw[kP];by_cases c:u=v
 ·subst c
  rw[if_pos rfl,aS];rfl
 ·rw[if_neg (fun z=>c (by injection z with z;exact Int.ofNat.inj z)),aK _ _ c]
theorem Wf.dget {d:Addr} (h:Wf kvs) (hd:H d=some (.dK kvs)):fB H d (.int (v:Nat)) ((gI kvs v).map V.int):=.inl ⟨kvs,Sum.inl (v:Int),.inl hd,O,(h.val v).symm⟩
def stD (s:Nat×Int):Dt:=.tup [.int s.1,.int s.2]
def sts (ws:List Wt) (c:Nat) (P fl:List Int) (x:Nat):List (Nat×Int):=(goN ws x).map (fun n=>(n,slk (wn ws c) (fn P) n))++((coN ws x).filter fun n=>decide (0<fn fl n)).map fun n=>(n,0)
def near:Option Int->Int->Bool
 | none,_=>true
 | some b,e=>decide (e<b)
def rlx (ws:List Wt) (c:Nat) (far:Kvs) (x:Nat) (a:Int) (s:Kvs×Kvs) (st:Nat×Int):Kvs×Kvs:=
 if (!(gI far (ac (wn ws c) st.1 x)).isSome && near (gI s.1 (ac (wn ws c) st.1 x)) (a + st.2))=true then
  (aE s.1 (Sum.inl ((ac (wn ws c) st.1 x:Nat):Int)) (.int (a + st.2)),aE s.2 (Sum.inl ((ac (wn ws c) st.1 x:Nat):Int)) (.int (st.1:Nat))) else s
def io (ws:List Wt) (c:Nat) (P fl:List Int) (far:Kvs) (x:Nat) (a:Int) (s:Kvs×Kvs):Kvs×Kvs:=(sts ws c P fl x).foldl (rlx ws c far x a) s
theorem EN {far:Kvs}{s:Kvs×Kvs} (h:Wf s.1/\Wf s.2):(Wf (rlx ws c far x a s st).1/\Wf (rlx ws c far x a s st).2)/\(rlx ws c far x a s st).1.length<=s.1.length + 1/\(rlx ws c far x a s st).2.length<=s.2.length + 1:=by
 unfold rlx;split
 ·exact⟨⟨h.1.put _ _,h.2.put _ _⟩,ql _ _ _,ql _ _ _⟩
 ·exact⟨h,by omega,by omega⟩
theorem Bh  (h:n∈goN ws x):n<ws.length:=List.mem_range.mp (List.mem_filter.mp h).1
theorem Aa  (h:n∈coN ws x):n<ws.length:=List.mem_range.mp (List.mem_filter.mp h).1
theorem sts_lt {P fl:List Int} (h:s∈sts ws c P fl x):s.1<ws.length:=by
 rcases T0.mp h with z|z
 ·obtain⟨n,hn,rfl⟩:=List.mem_map.mp z
  exact Bh hn
 ·obtain⟨n,hn,rfl⟩:=List.mem_map.mp z
  exact Aa (List.mem_filter.mp hn).1
theorem Ga (ws:List Wt) (x:Nat):(goN ws x).length<=ws.length:=by
 have:=RI (fun n=>decide ((ws.getD n (0,0,0,0)).1=x)) (List.range ws.length);rw[RU] at this;exact this
theorem FH (ws:List Wt) (x:Nat):(coN ws x).length<=ws.length:=by
 have:=RI (fun n=>decide ((ws.getD n (0,0,0,0)).2.1=x)) (List.range ws.length);rw[RU] at this;exact this
theorem FA {K:PySem.W.Frag}{H:Hp}:∀ {ds:List Dt}{xs:List V}{es:List Dt}{ys:List V},aJ K H ds xs->aJ K H es ys->aJ K H (ds++es) (xs++ys)
 | [],xs,es,ys,h,h'=>by
  have e:xs=[]:=h;subst e;exact h'
 | d::ds,xs,es,ys,h,h'=>by
  obtain⟨y,r,e,h1,h2⟩:=h;subst e;exact⟨y,r++ys,O,h1,FA h2 h'⟩
theorem vy {K:PySem.W.Frag}{x:V} (h:DtV K H (stD s) x):∃ t,x=.ref t/\SqT K H t [.int s.1,.int s.2]:=by
 obtain⟨t,xs,rfl,h,y1,r1,rfl,e1,y2,r2,rfl,e2,e3⟩:=h;have z1:y1=.int s.1:=e1;have z2:y2=.int s.2:=e2;have z3:r2=[]:=e3;subst z1 z2 z3;exact⟨t,O,h⟩
theorem tK {l:List Nat}{x:V} (h:(aM l)[j]?=some x):∃ n,l[j]?=some n/\x=.int (n:Nat):=by
 unfold aM at h;rw[Q4] at h;cases e:l[j]? with
 | none=>rw[e] at h;cases h
 | some n=>rw[e] at h;exact⟨n,O,(Option.some.inj h).symm⟩
section
variable {K:PySem.W.Frag}{a:Adr}
def spLook (C:Addr):Sp:=fun vs H Q _=>∃ q r ws c p fl fA wA cA far wt cm,∃ (x:Nat) (e:Int),vs=[.ref q,.int x,.ref fA,.ref wA,.ref cA]/\bI C H q r ws c/\H r.p=some (.lst ((p:List Int).map V.int))/\p.length=c/\H r.f=some (.lst ((fl:List Int).map V.int))/\fl.length=ws.length/\(wn ws c).Ok/\ws.length<=200/\x<c /\
 H fA=some (.dK far)/\Wf far/\gI far x=some e/\H wA=some (.dK wt)/\Wf wt/\wt.length<=1000000/\H cA=some (.dK cm)/\Wf cm/\cm.length<=1000000/\fA≠wA/\fA≠cA/\wA≠cA /\
 ∀ H',Kx [wA,cA] H H'->H' wA=some (.dK (io ws c p fl far x e (wt,cm)).1)->H' cA=some (.dK (io ws c p fl far x e (wt,cm)).2)->Q .non H'
theorem Mo (T:Tx K mg a):Cal P w K mg base CX0 2 "look_around" ["layout","point","far","waiting","came_by"] [] (spLook a.Layout):=T.d_look_around.cal fun f fd F=>by
 have m_Layout_slack:=DV (P:=P) (w:=w) (base:=base) T;have m_Layout_end_across:=AB (P:=P) (w:=w) (base:=base) T;refine F.ok pW (fun vs H Q E h=>?_) (fun aA A outer s H vs Q E hr h=>?_)
 ·obtain⟨q,r,ws,c,p,fl,fA,wA,cA,far,wt,cm,x,e,rfl,_⟩:=h
  rfl
 ·obtain⟨q,r,ws,c,p,fl,fA,wA,cA,far,wt,cm,x,e,rfl,L,hp,hc,hf,iI,ok,hw,hx,hV,j6,ge,IV,Ka,b9,lW,wO,kC,n1,n2,n3,k⟩:=h
  obtain⟨dx,ex⟩:=L.ex;obtain⟨gs,g1,g2,g3⟩:=L.hg;obtain⟨cs,c1,c2,c3⟩:=L.hc;obtain⟨ga,kB⟩:=eB (l:=gs) (j:=x) (by omega);obtain⟨ca,lK⟩:=eB (l:=cs) (j:=x) (by omega);have BY:=(g3 x ga kB).1;have BR:=(c3 x ca lK).1;have xW:atI (gs.map V.ref) (x:Int)=some (.ref ga):=by rw[iL (by omega),Q7,Q4,kB];rfl
  have zc:atI (cs.map V.ref) (x:Int)=some (.ref ca):=by rw[iL (by omega),Q7,Q4,lK];rfl
  have gl:=Ga ws x;have cl:=FH ws x;refine⟨_,(aq (pb (i:=5) pW.nd O O (N:=["number","layout"]) (cap:=[none,some 0]) O (bM (osc:=aC vo) (XN:=["layout","point","far","waiting","came_by","steps","number","slack","neighbour","distance"]) O O (by decide +kernel)) (bV (aG bx (bG (pv 0) rfl) (pv 1) (fun _ _=>O))) (fun cl C s H fp aa=>(az (i:=0) (show(["number","layout"]:List Str).Nodup by decide +kernel) rfl (.inl rfl))) (fun cl C s H fp aa=>cy) (fun cl C s H fp aa=>(gG (af (pv 0) (af (tG (pv 1) T.c_Layout m_Layout_slack (hr.mono (by decide)) (af (pv 0) ak)) ak)))) (hsw:=O))
   (aq (eJ (iO PySem.F.plainAttrs_list PySem.F.slot_list_extend PySem.F.type_list_extend Ax (pv 5) (af (cY (N:=["number","layout"]) (cap:=[none,some 0]) O (bM (osc:=aC vo) (XN:=["layout","point","far","waiting","came_by","steps","number","slack","neighbour","distance"]) O O (by decide +kernel)) (bV (aG bx (bG (pv 0) rfl) (pv 1) (fun _ _=>O))) (fun cl C s H fp aa=>(az (i:=0) (show(["number","layout"]:List Str).Nodup by decide +kernel) rfl (.inl rfl))) (fun cl C s H fp aa=>vM (cJ oK (aG (tj (K:=K) O) (AA (K:=K) O (pv 1) O) (pv 0) (fun _ _=>O)) au (bH _))) (fun cl C s H fp aa=>(gG (af (pv 0) (af au ak))))) ak)))
   (aB (cV PassesOwn.never rfl (bV (pv 5)) (fD rfl (aO (az (i:=6) pW.nd O (.inl O)) (aO (az (i:=7) pW.nd O (.inl O)) cz))) (aq (aQ (i:=8) pW.nd O (.inl O) (tG (pv 0) T.c_Layout m_Layout_end_across (hr.mono (by decide)) (af (pv 6) (af (pv 1) ak))))
   (aq (aQ (i:=9) pW.nd O (.inl O) (aI fu (cH (bb hr) (pv 2) (pv 1) (fun _ _=>O)) (pv 7)))
   (aB (d6 (PW.pt (pw_and (tL (Fy (bb hr) (pv 8) (pv 2))) (PU (PW.pt (kW (tL (Fy (bb hr) (pv 8) (pv 3))) (my (cJ tZ (pv 9) (cH (bb hr) (pv 3) (pv 8) (fun _ _=>O)) (bH _)))))))) (aq (jH (bb hr) (pv 3) (pv 8) (pv 9) O)
   (aB (jH (bb hr) (pv 4) (pv 8) (pv 6) rfl))) d9)))))))),?_⟩
  refine⟨_,O,q,a.Layout,dx,_,_,O,ex,T.c_Layout,T.na_Layout_going,GL,_,O,r.g,_,_,_,O,O,SqL.of g1,xW,ga,O,⟨_,SqL.of BY⟩,fun D hD=>?_⟩;refine fW (K:=K) (a:=ga) (xs:=aM (goN ws x)) (fun j τ G=>∃ v1 ys,τ=[v1,some (.ref q)]/\ae H G/\G D=some (.lst ys)/\aJ K G ((((goN ws x).take j).map fun n=>(n,slk (wn ws c) (fn p) n)).map stD) ys) ⟨none,[],O,ae.new hD,ah,O⟩ ?_ ?_ ?_
  ·rintro j τ G _ ⟨_,_,rfl,sg,_⟩
   exact SqL.of (sg _ _ BY)
  ·rintro j y τ G hy ⟨v1,ys,rfl,sg,B3,aR⟩
   obtain⟨n,hn,rfl⟩:=tK hy;have nl:=Bh (Q0 hn);have kn:ys.length<=200:=by
    have:=aR.length;rw[QT,QT,Rb] at this;omega
   dsimp only[bA,cK];rw[if_pos rfl];refine⟨_,O,_,O,q,dx,_,O,sg _ _ ex,by rfl,_,O,q,r,ws,c,p,n,O,L.same sg,sg _ _ hp,hc,nl,ok,(by show 2<=sizeLine;decide),fun z nz=>?_⟩;have s5:ae G (upd G z (.tup [.int (n:Nat),.int (slk (wn ws c) (fn p) n)])):=ae.new nz;have h5:upd G z (.tup [.int (n:Nat),.int (slk (wn ws c) (fn p) n)]) z=some (.tup [.int (n:Nat),.int (slk (wn ws c) (fn p) n)]):=ah;generalize upd G z (.tup [.int (n:Nat),.int (slk (wn ws c) (fn p) n)])=H5 at s5 h5 ⊢;refine⟨_,s5 _ _ B3,by rw[Q3];omega,_,_,O,bv hD (sg.trans s5),ah,?_⟩;rw[zam hn,Q2,Q2];have kp:Tk H5 (upd H5 D (.lst (ys++[.ref z]))):=Tk.upd (s5 _ _ B3) rfl;exact aJ.snoc (d:=stD (n,slk (wn ws c) (fn p) n)) (kp.dt O ⟨z,_,O,SqT.of h5,_,_,O,O,_,_,O,O,O⟩) (kp.dts (cW (fun _=>O) _) (s5.dts aR))
  rintro τ H1 ⟨v1,ys,rfl,s1,jz,kK⟩
  rw[Rt (by unfold aM;rw[QT];exact QY _)] at kK;have ky:ys.length<=200:=by
   have:=kK.length;rw[QT,QT] at this;omega
  have Qj:H D=none:=hD;refine⟨_,O,.inl ⟨O,_,SqL.of jz⟩,_,O,q,a.Layout,dx,_,_,O,s1 _ _ ex,T.c_Layout,T.na_Layout_coming,Ea,_,O,r.c,_,_,_,O,O,SqL.of (s1 _ _ c1),zc,ca,O,⟨_,SqL.of (s1 _ _ BR)⟩,fun Z hZ=>?_⟩;refine fW (K:=K) (a:=ca) (xs:=aM (coN ws x)) (fun j τ G=>∃ v1 zs,τ=[v1,some (.ref q)]/\ae H1 G/\G Z=some (.lst zs)/\aJ K G (((((coN ws x).take j).filter fun n=>decide (0<fn fl n)).map fun n=>(n,(0:Int))).map stD) zs) ⟨none,[],O,ae.new hZ,ah,O⟩ ?_ ?_ ?_
  ·rintro j τ G _ ⟨_,_,rfl,sg,_⟩
   exact SqL.of (sg _ _ (s1 _ _ BR))
  ·rintro j y τ G hy ⟨v1,zs,rfl,sg,yo,aR⟩
   obtain⟨n,hn,rfl⟩:=tK hy;have nl:=Aa (Q0 hn);have tg:=s1.trans sg;have kn:zs.length<=200:=by
    have e1:=aR.length;have e2:=RI (fun n=>decide (0<fn fl n)) ((coN ws x).take j);rw[QT,QT] at e1;rw[Rb] at e2;omega
   dsimp only[bA];refine⟨_,O,q,a.Layout,dx,_,_,O,tg _ _ ex,T.c_Layout,T.na_Layout_flow,uc,_,O,r.f,_,_,_,O,O,SqL.of (tg _ _ hf),ou (by omega),_,_,O,O,_,O,?_⟩;refine dv (fun b1=>?_) (fun b1=>?_)
   ·have b2:decide (0<fn fl n)=true:=Ro (Rj b1)
    refine⟨_,O,(by show 2<=sizeLine;decide),fun z nz=>?_⟩;have s5:ae G (upd G z (.tup [.int (n:Nat),.int 0])):=ae.new nz;have h5:upd G z (.tup [.int (n:Nat),.int 0]) z=some (.tup [.int (n:Nat),.int 0]):=ah;generalize upd G z (.tup [.int (n:Nat),.int 0])=H5 at s5 h5 ⊢;refine⟨_,s5 _ _ yo,by rw[Q3];omega,_,_,O,bv hZ (sg.trans s5),ah,?_⟩;rw[zam hn,Sz,RX,if_pos b2,SL,Q2,Q2];have kp:Tk H5 (upd H5 Z (.lst (zs++[.ref z]))):=Tk.upd (s5 _ _ yo) rfl;exact aJ.snoc (d:=stD (n,0)) (kp.dt O ⟨z,_,O,SqT.of h5,_,_,O,O,_,_,O,O,O⟩) (kp.dts (cW (fun _=>O) _) (s5.dts aR))
   ·have b2:decide (0<fn fl n)=false:=RQ (RH b1)
    refine⟨_,zs,O,sg,yo,?_⟩;rw[zam hn,Sz,RX,if_neg (by rw[b2];decide),SL,So];exact aR
  rintro τ H2 ⟨v2,zs,rfl,s2,Du,jZ⟩
  rw[Rt (by unfold aM;rw[QT];exact QY _)] at jZ;have kz:zs.length<=200:=by
   have e1:=jZ.length;have e2:=RI (fun n=>decide (0<fn fl n)) (coN ws x);rw[QT,QT] at e1;omega
  have bW:=s2 _ _ jz;refine⟨D,Z,ys,zs,O,O,bW,Du,by rw[Q3];omega,?_⟩;have yW:Tk H2 (upd H2 D (.lst (ys++zs))):=Tk.upd bW rfl;have dY:aJ K (upd H2 D (.lst (ys++zs))) ((sts ws c p fl x).map stD) (ys++zs):=by
   unfold sts;rw[Q2];exact FA (yW.dts (cW (fun _=>O) _) (s2.dts kK)) (yW.dts (cW (fun _=>O) _) jZ)
  have s3:ae H (upd H2 D (.lst (ys++zs))):=bv hD (s1.trans s2);have h3:upd H2 D (.lst (ys++zs)) D=some (.lst (ys++zs)):=ah;generalize upd H2 D (.lst (ys++zs))=H3 at dY s3 h3 ⊢;clear kK jZ jz bW Du yW s1 s2;have zy:=s3 _ _ hV;have ke:=s3 _ _ IV;have ku:=s3 _ _ lW;have L3:=L.same s3;generalize cO:sts ws c p fl x=st at dY;have pr:∀ s∈st,s.1<ws.length:=fun s hs=>sts_lt (by rw[cO];exact hs)
  have QQ:st.length<=400:=by
   have:=dY.length;rw[QT,Rm] at this;omega
  have lay:∀ G,Kx [wA,cA] H3 G->bI a.Layout G q r ws c:=fun G kx=>L3.kx kx fun y hy=>by
   rcases Rp.mp hy with z|z
   ·rw[z]
    exact .inr (.inr (.inr ⟨wt,ke⟩))
   ·rw[S1.mp z]
    exact .inr (.inr (.inr ⟨cm,ku⟩))
  have rO:∀ G,Kx [wA,cA] H3 G->Tk H3 G:=fun G kx b o e z=>kx b o e fun y=>by
   rcases Rp.mp y with y|y
   ·rw[y,ke] at e
    cases e
    cases z
   ·rw[S1.mp y,ku] at e
    cases e
    cases z
  have kD:∀ G,Kx [wA,cA] H3 G->G D=some (.lst (ys++zs)):=fun G kx=>kx _ _ h3 fun y=>by
   rcases Rp.mp y with y|y
   ·rw[y,ke] at h3
    cases h3
   ·rw[S1.mp y,ku] at h3
    cases h3
  have kF:∀ G,Kx [wA,cA] H3 G->G fA=some (.dK far):=fun G kx=>kx _ _ zy fun y=>by
   rcases Rp.mp y with y|y
   ·exact n1 y
   ·exact n2 (S1.mp y)
  refine⟨_,O,D,O,⟨_,SqL.of h3⟩,iP (K:=K) (a:=D) (xs:=ys++zs) (fun i σ G=>∃ v6 v7 v8 v9,σ=[some (.ref q),some (.int (x:Nat)),some (.ref fA),some (.ref wA),some (.ref cA),some (.ref D),v6,v7,v8,v9]/\Kx [wA,cA] H3 G/\G wA=some (.dK ((st.take i).foldl (rlx ws c far x e) (wt,cm)).1)/\G cA=some (.dK ((st.take i).foldl (rlx ws c far x e) (wt,cm)).2)/\(Wf ((st.take i).foldl (rlx ws c far x e) (wt,cm)).1/\Wf ((st.take i).foldl (rlx ws c far x e) (wt,cm)).2)/\((st.take i).foldl (rlx ws c far x e) (wt,cm)).1.length<=1000000 + i/\((st.take i).foldl (rlx ws c far x e) (wt,cm)).2.length<=1000000 + i)
   ⟨none,none,none,none,rfl,Kx.of (ae.refl _),ke,ku,⟨Ka,wO⟩,b9,kC⟩ ?_ ?_ ?_⟩
  ·rintro i σ G _ ⟨_,_,_,_,rfl,kx,_⟩
   exact SqL.of (kD G kx)
  ·rintro i y σ G hy ⟨v6,v7,v8,v9,rfl,kx,j9,lq,wf,lw,lc⟩
   obtain⟨⟨n,d⟩,hs,ds⟩:=eL dY hy;have hi:i<st.length:=(List.getElem?_eq_some_iff.mp hs).1;have nl:=pr _ (Q0 hs);obtain⟨t,rfl,ht⟩:=vy ((rO G kx).dt O ds);have LG:=lay G kx;obtain⟨uD,ex3⟩:=LG.ex;have fo:(st.take (i + 1)).foldl (rlx ws c far x e) (wt,cm)=rlx ws c far x e ((st.take i).foldl (rlx ws c far x e) (wt,cm)) (n,d):=by rw[zam hs,RT];rfl
   rw[fo];obtain⟨r1,r2,r3⟩:=EN (ws:=ws) (c:=c) (far:=far) (x:=x) (a:=e) (st:=(n,d)) wf;generalize (st.take i).foldl (rlx ws c far x e) (wt,cm)=now at j9 lq wf lw lc r1 r2 r3 ⊢;refine⟨t,_,O,ht,O,_,_,O,_,_,O,O,?_⟩;refine⟨_,O,q,uD,_,O,ex3,by rfl,_,O,_,O,q,r,ws,c,n,x,O,LG,nl,?_⟩;have gf:=j6.dget (v:=x) (kF G kx);rw[ge] at gf;refine⟨_,O,_,O,fA,_,O,gf,_,O,_,_,O,O,?_⟩;generalize uL:ac (wn ws c) n x=nb;have gn:=j6.dget (v:=nb) (kF G kx);have gw:=wf.1.dget (v:=nb) j9;have rx:rlx ws c far x e now (n,d)=if (!(gI far nb).isSome && near (gI now.1 nb) (e + d))=true then(aE now.1 (Sum.inl ((nb:Nat):Int)) (.int (e + d)),aE now.2 (Sum.inl ((nb:Nat):Int)) (.int (n:Nat))) else now:=by rw[<- uL];rfl
   dsimp only[bA];refine⟨_,O,_,O,fA,_,O,gn,_,O,?_⟩;cases ef:gI far nb with
   | some b=>
    rw[ef] at rx;have rx:rlx ws c far x e now (n,d)=now:=rx;refine mi (mi ⟨_,_,_,_,O,kx,?_,?_,r1,by omega,by omega⟩)
    ·rw[rx];exact j9
    ·rw[rx];exact lq
   | none=>
    rw[ef] at rx;refine eK ?_;refine⟨_,O,_,O,wA,_,O,gw,_,O,?_⟩;cases ew:gI now.1 nb with
    | none=>
     rw[ew] at rx;have rx:rlx ws c far x e now (n,d)=(aE now.1 (Sum.inl ((nb:Nat):Int)) (.int (e + d)),aE now.2 (Sum.inl ((nb:Nat):Int)) (.int (n:Nat))):=rx;refine eK (eK ?_);refine⟨_,O,_,O,_,O,wA,_,O,.inl ⟨now.1,Sum.inl ((nb:Nat):Int),j9,O,by rw[Q3];omega,O⟩,?_⟩;refine⟨_,O,_,O,_,O,cA,_,O,.inl ⟨now.2,Sum.inl ((nb:Nat):Int),by rw[ai (Ne.symm n3)];exact lq,O,by rw[Q3];omega,O⟩,?_⟩;refine⟨_,_,_,_,O,(kx.trans (Kx.upd (by simp))).trans (Kx.upd (by simp)),?_,?_,r1,by omega,by omega⟩
     ·rw[ai n3,ah,rx]
     ·rw[ah,rx]
    | some b=>
     rw[ew] at rx gw;refine mi ?_;refine⟨_,O,_,O,_,O,wA,_,O,gw,_,_,O,O,_,O,?_⟩;refine dv (fun b1=>?_) (fun b1=>?_)
     ·have b2:decide (e + d<b)=true:=b1
      have rx:rlx ws c far x e now (n,d)=(aE now.1 (Sum.inl ((nb:Nat):Int)) (.int (e + d)),aE now.2 (Sum.inl ((nb:Nat):Int)) (.int (n:Nat))):=by
       rw[rx];exact if_pos b2
      refine⟨_,O,_,O,_,O,wA,_,O,.inl ⟨now.1,Sum.inl ((nb:Nat):Int),j9,O,by rw[Q3];omega,O⟩,?_⟩;refine⟨_,O,_,O,_,O,cA,_,O,.inl ⟨now.2,Sum.inl ((nb:Nat):Int),by rw[ai (Ne.symm n3)];exact lq,O,by rw[Q3];omega,O⟩,?_⟩;refine⟨_,_,_,_,O,(kx.trans (Kx.upd (by simp))).trans (Kx.upd (by simp)),?_,?_,r1,by omega,by omega⟩
      ·rw[ai n3,ah,rx]
      ·rw[ah,rx]
     ·have b2:decide (e + d<b)=false:=b1
      have rx:rlx ws c far x e now (n,d)=now:=by
       rw[rx];exact if_neg (by show ¬ decide (e + d<b)=true;rw[b2];decide)
      refine⟨_,_,_,_,O,kx,?_,?_,r1,by omega,by omega⟩
      ·rw[rx];exact j9
      ·rw[rx];exact lq
  ·rintro σ G ⟨v6,v7,v8,v9,rfl,kx,j9,lq,_⟩
   have hl:(ys++zs).length=st.length:=by rw[<- dY.length,QT]
   rw[hl,Rf] at j9 lq;refine k G (fun b o q z=>kx b o (s3 b o q) z) ?_ ?_
   ·rw[j9]
    unfold io;rw[cO]
   ·rw[lq]
    unfold io;rw[cO]
end
def cI (kvs:Kvs) (v:Nat):Option Nat:=(gI kvs v).map Int.toNat
theorem DX (kvs:Kvs) (v n:Nat):cI (aE kvs (Sum.inl (v:Int)) (.int (n:Nat)))=up (cI kvs) v (some n):=by
 funext u
 unfold cI;rw[iU];by_cases c:u=v
 ·subst c
  rw[aS,aS];rfl
 ·rw[aK _ _ c,aK _ _ c]
theorem Arc.to {P:Nat->Int}{q:Nat} (A:Arc N P fl q p n d):p=K63.ac N n q:=by
 unfold K63.ac;obtain⟨_,⟨h1,h2,_⟩|⟨h1,h2,_⟩⟩:=A
 ·by_cases c:N.ot n=q
  ·rw[if_pos c,h1,<- c,h2]
  ·rw[if_neg c,h2]
 ·rw[if_pos h1,h2]
theorem MY {P fl:List Int} (h:(n,d)∈sts ws c P fl x):Arc (wn ws c) (fn P) (fn fl) x (ac (wn ws c) n x) n d:=by
 have key:∀ p,Arc (wn ws c) (fn P) (fn fl) x p n d->Arc (wn ws c) (fn P) (fn fl) x (ac (wn ws c) n x) n d:=fun p A=>by
  have e:=A.to;rw[<- e];exact A
 rcases T0.mp h with z|z
 ·obtain⟨n',hn,e⟩:=List.mem_map.mp z
  cases e
  exact key ((wn ws c).ot n) ⟨Bh hn,.inl ⟨Rj (List.mem_filter.mp hn).2,O,O⟩⟩
 ·obtain⟨n',hn,e⟩:=List.mem_map.mp z
  cases e
  obtain⟨h1,h2⟩:=List.mem_filter.mp hn;exact key ((wn ws c).on n) ⟨Aa h1,.inr ⟨Rj (List.mem_filter.mp h1).2,O,Rj h2,O⟩⟩
theorem PR {P fl:List Int} (A:Arc (wn ws c) (fn P) (fn fl) x p n d):(n,d)∈sts ws c P fl x:=by
 obtain⟨hn,⟨h1,h2,h3⟩|⟨h1,h2,h3,h4⟩⟩:=A
 ·exact Ru _ (List.mem_map.mpr ⟨n,List.mem_filter.mpr ⟨List.mem_range.mpr hn,Ro h1⟩,by rw[h3]⟩)
 ·exact Q8 _ (List.mem_map.mpr ⟨n,List.mem_filter.mpr ⟨List.mem_filter.mpr ⟨List.mem_range.mpr hn,Ro h1⟩,Ro h3⟩,by rw[h4]⟩)
theorem MG {P fl:List Int}{far cm:Kvs} (ok:(wn ws c).Ok) (ti:Ti (wn ws c) (fn P) (fn fl)) (hx:gI far x=some a) (mx:∀ q b,gI far q=some b->b<=a)
  (h:Se (wn ws c) (fn P) (fn fl) nd (gI far) (gI wt) (cI cm) rk size fun q _ _=>q≠x/\gI far q≠none) :
  Se (wn ws c) (fn P) (fn fl) nd (gI far) (gI (io ws c P fl far x a (wt,cm)).1) (cI (io ws c P fl far x a (wt,cm)).2) rk size fun q _ _=>gI far q≠none:=by
 have gen:∀ j,j<=(sts ws c P fl x).length->Se (wn ws c) (fn P) (fn fl) nd (gI far) (gI (((sts ws c P fl x).take j).foldl (rlx ws c far x a) (wt,cm)).1) (cI (((sts ws c P fl x).take j).foldl (rlx ws c far x a) (wt,cm)).2) rk size fun q n d=>(q≠x/\gI far q≠none)\/(q=x/\(n,d)∈(sts ws c P fl x).take j):=fun j=>by
  induction j with
  | zero=>
   intro _;refine⟨h.dj,h.lo,h.nn,h.ro,h.cb,h.ck,h.rk,fun q n d p b A L e=>h.ar q n d p b A ?_ e⟩;rcases L with L|⟨_,L⟩
   ·exact L
   ·cases L
  | succ j ih=>
   intro hj;have ih:=ih (by omega);obtain⟨⟨n,d⟩,hs⟩:∃ s,(sts ws c P fl x)[j]?=some s:=⟨(sts ws c P fl x)[j],QX (by omega)⟩;have A:=MY (Q0 hs);have tk:(sts ws c P fl x).take (j + 1)=(sts ws c P fl x).take j++[(n,d)]:=by rw[TD,hs];rfl
   have hl:∀ q n' d',((q≠x/\gI far q≠none)\/(q=x/\(n',d')∈(sts ws c P fl x).take (j + 1)))->((q≠x/\gI far q≠none)\/(q=x/\(n',d')∈(sts ws c P fl x).take j))\/(q=x/\n'=n/\d'=d):=fun q n' d' z=>by
    rcases z with z|⟨z1,z2⟩
    ·exact .inl (.inl z)
    ·rw[tk] at z2
     rcases T0.mp z2 with y|y
     ·exact .inl (.inr ⟨z1,y⟩)
     ·have e:=S1.mp y
      injection e with e1 e2
      exact .inr ⟨z1,e1,e2⟩
   have ta:∀ p',Arc (wn ws c) (fn P) (fn fl) x p' n d->p'=ac (wn ws c) n x:=fun p' A'=>A'.to
   have fo:((sts ws c P fl x).take (j + 1)).foldl (rlx ws c far x a) (wt,cm)=rlx ws c far x a (((sts ws c P fl x).take j).foldl (rlx ws c far x a) (wt,cm)) (n,d):=by rw[tk,RT];rfl
   rw[fo];generalize ((sts ws c P fl x).take j).foldl (rlx ws c far x a) (wt,cm)=now at ih ⊢;unfold rlx;cases ef:gI far (ac (wn ws c) n x) with
   | some b=>
    have e:(!(gI far (ac (wn ws c) n x)).isSome && near (gI now.1 (ac (wn ws c) n x)) (a + d))=false:=by rw[ef];rfl
    rw[if_neg (by rw[ef] at e;rw[e];decide)];exact ih.keep ti hx mx A (.inl ⟨b,ef⟩) hl ta
   | none=>
    cases ew:gI now.1 (ac (wn ws c) n x) with
    | none=>
     rw[if_pos (show(!(none:Option Int).isSome && near none (a + d))=true from rfl),iU,DX];exact ih.near ok ti hx mx A ef (fun b z=>by rw[ew] at z;cases z) hl ta
    | some b=>
     by_cases cc:a + d<b
     ·rw[if_pos (by show(true && decide (a + d<b))=true;rw[Ro cc];rfl),iU,DX]
      exact ih.near ok ti hx mx A ef (fun b' z=>by rw[ew] at z;cases z;exact cc) hl ta
     ·rw[if_neg (by show ¬ (true && decide (a + d<b))=true;rw[RQ cc];decide)]
      exact ih.keep ti hx mx A (.inr ⟨b,ew,by omega⟩) hl ta
 have fin:=gen _ (QY _);rw[Rf] at fin;refine⟨fin.dj,fin.lo,fin.nn,fin.ro,fin.cb,fin.ck,fin.rk,fun q n d p b A L e=>fin.ar q n d p b A ?_ e⟩;by_cases z:q=x
 ·exact .inr ⟨z,by rw[z] at A;exact PR A⟩
 ·exact .inl ⟨z,L⟩
theorem K9 {key:V->Int}{m m':V} (h:la key xs m) (h':la key xs m'):m=m':=by
 obtain⟨i,e,l,f⟩:=h;obtain⟨i',e',l',f'⟩:=h';rcases S7 i i' with c|c|c
 ·have:=f' i m c e
  have:=l i' m' e';omega
 ·subst c
  rw[e] at e';exact Option.some.inj e'
 ·have:=f i' m' c e'
  have:=l' i m e;omega
def kyF (wt:Kvs):V->Int
 | .int i=>(gI wt i.toNat).getD 0
 | _=>0
open Classical in
def mn (wt:Kvs):Nat:=if h:∃ x:Nat,la (kyF wt) (L2.zbm wt) (.int (x:Nat)) then Classical.choose h else 0
theorem mn_eq  (h:la (kyF wt) (L2.zbm wt) (.int (x:Nat))):mn wt=x:=by
 have e:∃ x:Nat,la (kyF wt) (L2.zbm wt) (.int (x:Nat)):=⟨x,h⟩;unfold mn;rw[dif_pos e];have z:=K9 (Classical.choose_spec e) h;injection z with z
 exact Int.ofNat.inj z
theorem Wf.drop  (h:Wf kvs) (k:Key):Wf (du kvs k):=fun p hp=>h p (List.mem_filter.mp hp).1
theorem Oe (kvs:Kvs) (k:Key):(du kvs k).length<=kvs.length:=RI _ _
theorem FR (k j:Key):∀ kvs:Kvs,aN (du kvs k) j=if j=k then none else aN kvs j
 | []=>by split <;> rfl
 | p::r=>by
  have ih:=FR k j r;unfold du at ih ⊢;by_cases c:p.1=k
  ·rw[RX,if_neg (by simp[c]),ih]
   by_cases c2:j=k
   ·rw[if_pos c2,if_pos c2]
   ·rw[if_neg c2,if_neg c2,eA (fun z=>c2 (by rw[<- z,c]))]
  ·rw[RX,if_pos (by simp[c])]
   by_cases c3:p.1=j
   ·rw[fU c3,if_neg (fun z=>c (by rw[c3,z])),fU c3]
   ·rw[eA c3,ih,eA c3]
theorem Eh (kvs:Kvs) (v:Nat):gI (du kvs (Sum.inl (v:Int)))=up (gI kvs) v none:=by
 funext u
 unfold gI;rw[FR];by_cases c:u=v
 ·subst c
  rw[if_pos rfl,aS];rfl
 ·rw[if_neg (fun z=>c (by injection z with z;exact Int.ofNat.inj z)),aK _ _ c]
theorem Wf.has  (h:Wf kvs){p:Key×V} (hp:p∈kvs):∃ v i,p.1=Sum.inl ((v:Nat):Int)/\gI kvs v=some i:=by
 obtain⟨v,i,rfl⟩:=h p hp;have z:(aN kvs (Sum.inl (v:Int))).isSome=true:=by
  rw[<- mH];exact List.any_eq_true.mpr ⟨_,hp,Ro O⟩
 rw[h.val v] at z;obtain⟨y,e⟩:=Option.isSome_iff_exists.mp z;cases g:gI kvs v with
 | none=>rw[g] at e;cases e
 | some j=>exact⟨v,j,O,g⟩
theorem Wf.mem  (g:gI kvs v=some i):V.int (v:Nat)∈L2.zbm kvs:=by
 unfold gI at g;cases e:aN kvs (Sum.inl (v:Int)) with
 | none=>rw[e] at g;cases g
 | some x=>
  unfold aN at e;obtain⟨p,e1,e2⟩:=Option.map_eq_some_iff.mp e;have m:=SZ e1;have c:=List.find?_some e1;unfold L2.zbm;refine List.mem_map.mpr ⟨p,m,?_⟩;rw[show p.1=Sum.inl (v:Int) from Rj c];rfl
theorem Wf.least  (h:Wf kvs){m:V} (f:la (kyF kvs) (L2.zbm kvs) m):m=.int (mn kvs:Nat)/\∃ a,gI kvs (mn kvs)=some a/\∀ q b,gI kvs q=some b->a<=b:=by
 obtain⟨i,e,l,fl⟩:=id f;have mm:=Q0 e;unfold L2.zbm at mm;obtain⟨p,hp,rfl⟩:=List.mem_map.mp mm;obtain⟨v,a,e1,e2⟩:=h.has hp;rw[e1] at f l ⊢;have f:la (kyF kvs) (L2.zbm kvs) (.int (v:Nat)):=f;have z:=mn_eq f;rw[z];refine⟨O,a,e2,fun q b g=>?_⟩;obtain⟨j,hj⟩:=List.mem_iff_getElem?.mp (Wf.mem g);have y:=l j _ hj;have y1:kyF kvs (kV (Sum.inl ((v:Nat):Int)))=a:=by
  show(gI kvs ((v:Nat):Int).toNat).getD 0=a;rw[Q7,e2];rfl
 have y2:kyF kvs (V.int (q:Nat))=b:=by
  show(gI kvs ((q:Nat):Int).toNat).getD 0=b;rw[Q7,g];rfl
 rw[y1,y2] at y;exact y
def left (far:Nat->Option Int) (c:Nat):Nat:=(sm (fun v=>if (far v).isSome=true then 0 else 1) c).toNat
theorem Ot {far:Nat->Option Int} (hx:x<c) (h:far x=none):left (up far x (some a)) c<left far c:=by
 have e:sm (fun v=>if (far v).isSome=true then 0 else 1) c=sm (fun v=>(if (up far x (some a) v).isSome=true then 0 else 1) + (if v=x then 1 else 0)) c:=cX c fun v _=>by
  by_cases z:v=x
  ·subst z
   rw[h,aS,if_pos (show v=v from rfl)];rfl
  ·rw[aK _ _ z,if_neg z]
   omega
 rw[qg,qb,if_pos hx] at e;have nn:=uj (f:=fun v=>if (up far x (some a) v).isSome=true then 0 else 1) c fun v _=>by
  show(0:Int)<=if (up far x (some a) v).isSome=true then 0 else 1;split <;> decide
 unfold left;omega
def w0 (nd:List Int):Nat->Kvs
 | 0=>[]
 | k + 1=>if fn nd k<0 then aE (w0 nd k) (Sum.inl ((k:Nat):Int)) (.int 0) else w0 nd k
theorem Az (nd:List Int):∀ k,Wf (w0 nd k)/\(w0 nd k).length<=k/\∀ p,gI (w0 nd k) p=if p<k/\fn nd p<0 then some 0 else none
 | 0=>⟨(fun p hp=>by cases hp),QY _,fun p=>by rw[if_neg (fun z=>absurd z.1 (R0 _))];rfl⟩
 | k + 1=>by
  obtain⟨h1,h2,h3⟩:=Az nd k;unfold w0;by_cases c:fn nd k<0
  ·rw[if_pos c]
   refine⟨h1.put _ _,Rz (ql _ _ _) (by omega),fun p=>?_⟩;rw[iU];by_cases z:p=k
   ·subst z
    rw[aS,if_pos ⟨RW _,c⟩]
   ·rw[aK _ _ z,h3]
    by_cases y:p<k/\fn nd p<0
    ·rw[if_pos y,if_pos ⟨by omega,y.2⟩]
    ·rw[if_neg y,if_neg (fun q=>y ⟨by omega,q.2⟩)]
  ·rw[if_neg c]
   refine⟨h1,by omega,fun p=>?_⟩;rw[h3];by_cases z:p=k
   ·subst z
    rw[if_neg (fun q=>c q.2),if_neg (fun q=>c q.2)]
   ·by_cases y:p<k/\fn nd p<0
    ·rw[if_pos y,if_pos ⟨by omega,y.2⟩]
    ·rw[if_neg y,if_neg (fun q=>y ⟨by omega,q.2⟩)]
theorem Mq (ws:List Wt) (c:Nat) (P fl:List Int) (x:Nat):(sts ws c P fl x).length<=2 * ws.length:=by
 unfold sts;rw[Rm,QT,QT];have h1:=Ga ws x;have h2:=FH ws x;have h3:=RI (fun n=>decide (0<fn fl n)) (coN ws x);omega
theorem EB {ws:List Wt}{c:Nat}{far:Kvs}{x:Nat}{a:Int}:∀ (st:List (Nat×Int)){s:Kvs×Kvs},Wf s.1/\Wf s.2->(Wf (st.foldl (rlx ws c far x a) s).1/\Wf (st.foldl (rlx ws c far x a) s).2)/\(st.foldl (rlx ws c far x a) s).1.length<=s.1.length + st.length/\(st.foldl (rlx ws c far x a) s).2.length<=s.2.length + st.length
 | [],s,h=>⟨h,QY _,QY _⟩
 | t::st,s,h=>by
  obtain⟨r1,r2,r3⟩:=EN (ws:=ws) (c:=c) (far:=far) (x:=x) (a:=a) (st:=t) h;obtain⟨f1,f2,f3⟩:=EB (ws:=ws) (c:=c) (far:=far) (x:=x) (a:=a) st r1;refine⟨f1,?_,?_⟩
  ·show(st.foldl _ (rlx ws c far x a s t)).1.length<=_
   rw[Re];omega
  ·show(st.foldl _ (rlx ws c far x a s t)).2.length<=_
   rw[Re];omega
theorem MJ {P fl:List Int}{far:Kvs}{s:Kvs×Kvs} (h:Wf s.1/\Wf s.2):(Wf (io ws c P fl far x a s).1/\Wf (io ws c P fl far x a s).2)/\(io ws c P fl far x a s).1.length<=s.1.length + 2 * ws.length/\(io ws c P fl far x a s).2.length<=s.2.length + 2 * ws.length:=by
 obtain⟨f1,f2,f3⟩:=EB (ws:=ws) (c:=c) (far:=far) (x:=x) (a:=a) (sts ws c P fl x) h;have:=Mq ws c P fl x;exact⟨f1,Rz f2 (by omega),Rz f3 (by omega)⟩
abbrev Sst:=Kvs×Kvs×Kvs
variable {a:Adr}{eQ:Nat->Int}{nd:List Int}{ring:List Nat}{wt:Nat->Option Int}
def tkF (s:Sst):Kvs:=aE s.1 (Sum.inl ((mn s.2.1:Nat):Int)) (.int ((gI s.2.1 (mn s.2.1)).getD 0))
def turn (ws:List Wt) (c:Nat) (P fl:List Int) (s:Sst):Sst:=(tkF s,io ws c P fl (tkF s) (mn s.2.1) ((gI s.2.1 (mn s.2.1)).getD 0) (du s.2.1 (Sum.inl ((mn s.2.1:Nat):Int)),s.2.2))
theorem Gf (far:Nat->Option Int):∀ c,left far c<=c/\0<=sm (fun v=>if (far v).isSome=true then 0 else 1) c
 | 0=>⟨QY _,RF _⟩
 | c + 1=>by
  obtain⟨h1,h2⟩:=Gf far c;unfold left at h1 ⊢;have e:sm (fun v=>if (far v).isSome=true then 0 else 1) (c + 1)=sm (fun v=>if (far v).isSome=true then 0 else 1) c + (if (far c).isSome=true then 0 else 1):=rfl;rw[e];by_cases z:(far c).isSome=true
  ·rw[if_pos z]
   omega
  ·rw[if_neg z]
   omega
structure kT (ws:List Wt) (c:Nat) (P fl nd:List Int) (k x:Nat) (far cm:Kvs):Prop where
 at_:x=mn (itr (turn ws c P fl) k ([],w0 nd c,[])).2.1
 far:far=tkF (itr (turn ws c P fl) k ([],w0 nd c,[]))
 cm:cm=(itr (turn ws c P fl) k ([],w0 nd c,[])).2.2
 pos:0<fn nd x
 no:∀ j,j<k->¬ 0<fn nd (mn (itr (turn ws c P fl) j ([],w0 nd c,[])).2.1)
theorem Se.less {P nd:Nat->Int}{far:Nat->Option Int} (h:Se N P fl nd far wt cm rk size Lk) (hl:∀ q n d,lX q n d->Lk q n d):Se N P fl nd far wt cm rk size lX:=
 ⟨h.dj,h.lo,h.nn,h.ro,h.cb,h.ck,h.rk,fun q n d p b A L e=>h.ar q n d p b A (hl q n d L) e⟩
section
variable {K:PySem.W.Frag}
def MP (t:Adr):Sp:=fun vs H Q _=>∃ q r ws c p fl nd fA cA eQ,∃ k0:Nat,vs=[.ref q,.ref fA,.ref cA]/\bI t.Layout H q r ws c/\H r.p=some (.lst ((p:List Int).map V.int))/\p.length=c/\H r.f=some (.lst ((fl:List Int).map V.int))/\fl.length=ws.length/\H r.n=some (.lst ((nd:List Int).map V.int))/\nd.length=c/\(wn ws c).Ok/\ws.length<=200/\c<=200 /\
 H fA=some (.dK [])/\H cA=some (.dK [])/\fA≠cA/\Ti (wn ws c) (fn p) (fn fl)/\(∀ n,n<ws.length->0<=eQ n)/\(∀ v,v<c->fn nd v=bal (wn ws c) eQ v - bal (wn ws c) (fn fl) v)/\k0<c/\0<fn nd k0 /\
 H t.tb_search=some (.tbl oz oH) /\
 ∀ k x far cm H',Kx [fA,cA] H H'->kT ws c p fl nd k x far cm->H' fA=some (.dK far)->H' cA=some (.dK cm)->Wf far->Wf cm->far.length<=1000000->cm.length<=1000000 ->
  (∃ wt rk size D,size<=1000/\Se (wn ws c) (fn p) (fn fl) (fn nd) (gI far) wt (cI cm) rk size (fun q _ _=>q≠x/\gI far q≠none)/\gI far x=some D/\(∀ q b,gI far q=some b->b<=D)/\∀ q b,wt q=some b->D<=b)->Q (.int (x:Nat)) H'
theorem Lu (T:Tx K mg a):Cal P w K mg base CX0 4 "search" ["layout","far","came_by"] [] (MP a):=T.d_search.calL T.lam_search fun f fd F LM=>by
 have de:=Mo (P:=P) (w:=w) (base:=base) T;refine F.okL LM uh (fun vs H Q E h=>?_) (fun cc A outer s H vs Q E hc hr h=>?_)
 ·obtain⟨q,r,ws,c,p,fl,nd,fA,cA,eQ,k0,rfl,_⟩:=h
  rfl
 ·obtain⟨q,r,ws,c,p,fl,nd,fA,cA,eQ,k0,rfl,L,hp,jv,hf,iI,hn,c7,ok,hw,fX,hV,lW,nC,ti,rN,hnd,xp,nN,iZ,k⟩:=h
  obtain⟨dx,ex⟩:=L.ex;refine⟨_,(aq (aQ (i:=3) uh.nd O (.inr O) mC)
   (aq (cV PassesOwn.never rfl (sT rfl T.n_enumerate (af (bG (pv 0) rfl) ak)) (fD rfl (aO (az (i:=4) uh.nd O (.inl O)) (aO (az (i:=5) uh.nd O (.inl O)) cz))) (aB (d6 (cJ tZ (pv 5) au (bH _)) (aB (jH (bb hr) (pv 3) (pv 4) au O)) d9)))
   (aB (uk PassesOwn.never (jq kN) (aq (aQ (i:=4) uh.nd O (.inl O) (OO (N:=["candidate","waiting"]) (cap:=[none,some 3]) O T.n_min hr (af (pv 3) ak) O hc (bM (osc:=aC An) (XN:=["layout","far","came_by","waiting","point","need"]) O O (by decide +kernel)) (fun f c' s H=>(cH (bb (bj.deeper (k:=0) (bj.in1 (hr.mono (by decide))) _)) (pv 1) (pv 0) (fun _ _=>O)))))
   (aq (jH (bb hr) (pv 1) (pv 4) (Oz (pv 3) (pv 4) ⟨rfl,rfl,rfl,rfl⟩) rfl)
   (aq (d6 (cJ oK (aG bx (bG (pv 0) rfl) (pv 4) (fun _ _=>O)) au (bH _)) (aB (bn (pv 4))) d9)
   (aB (eJ (a7 de (hr.mono (by decide)) rfl (af (pv 0) (af (pv 4) (af (pv 1) (af (pv 3) (af (pv 2) ak))))))))))))))),?_⟩
  refine fun wA uM=>?_
  have sh:fA≠wA:=ap hV uM;have wZ:cA≠wA:=ap lW uM;have s1:ae H (upd H wA (.dK [])):=ae.new uM;have h1:upd H wA (.dK []) wA=some (.dK []):=ah;generalize upd H wA (.dK [])=H1 at s1 h1 ⊢;have Br:∀ y∈[fA,cA,wA],Dc H1 y:=fun y hy=>by
   simp only[Rp,Rk,or_false] at hy
   rcases hy with z|z|z <;> rw[z]
   ·exact⟨_,s1 _ _ hV⟩
   ·exact⟨_,s1 _ _ lW⟩
   ·exact⟨_,h1⟩
  have lay:∀ G,Kx [fA,cA,wA] H1 G->bI a.Layout G q r ws c:=fun G kx=>(L.same s1).kx kx fun y hy=>.inr (.inr (.inr (Br y hy)))
  have keep:∀ G,Kx [fA,cA,wA] H1 G->∀ b o,H1 b=some o->(∀ kvs,o≠.dK kvs)->G b=some o:=fun G kx b o e z=>kx b o e fun y=>by
   obtain⟨kvs,q⟩:=Br b y;rw[e] at q;cases q
   exact z _ rfl
  refine⟨_,O,q,a.Layout,dx,_,_,O,s1 _ _ ex,T.c_Layout,T.na_Layout_needs,ow,r.n,O,⟨_,SqL.of (s1 _ _ hn)⟩,vn (K:=K) (l:=r.n) (xs:=nd.map V.int) (fun i σ G=>∃ v4 v5,σ=[some (.ref q),some (.ref fA),some (.ref cA),some (.ref wA),v4,v5]/\Kx [wA] H1 G/\G wA=some (.dK (w0 nd i)))
   ⟨none,none,rfl,Kx.of (ae.refl _),h1⟩ ?_ ?_ ?_⟩
  ·rintro i σ G _ ⟨_,_,rfl,kx,_⟩
   exact SqL.of (keep G (kx.mono (by simp)) _ _ (s1 _ _ hn) (fun _ z=>by cases z))
  ·rintro i y tt σ G hy nt ⟨v4,v5,rfl,kx,hG⟩
   have hi:i<nd.length:=by
    have:=(List.getElem?_eq_some_iff.mp hy).1;rw[QT] at this;exact this
   have ey:y=.int (fn nd i):=by
    rw[Q4,QX hi] at hy;rw[<- Option.some.inj hy];unfold fn;rw[QV,QX hi];rfl
   subst ey;have s3:ae G (upd G tt (.tup [.int i,.int (fn nd i)])):=ae.new nt;have h3:upd G tt (.tup [.int i,.int (fn nd i)]) tt=some (.tup [.int i,.int (fn nd i)]):=ah;generalize upd G tt (.tup [.int i,.int (fn nd i)])=G3 at s3 h3 ⊢;have st:w0 nd (i + 1)=if fn nd i<0 then aE (w0 nd i) (Sum.inl ((i:Nat):Int)) (.int 0) else w0 nd i:=rfl;have wl:=(Az nd i).2.1;refine⟨tt,_,O,SqT.of h3,O,_,_,O,_,_,O,O,?_⟩;refine⟨_,O,_,_,O,O,_,O,?_⟩;refine dv (fun c1=>?_) (fun c1=>?_)
   ·rw[st,if_pos (Rj c1)]
    exact⟨_,O,_,O,wA,_,O,.inl ⟨w0 nd i,Sum.inl ((i:Nat):Int),s3 _ _ hG,O,by rw[Q3];omega,O⟩,_,_,O,(kx.trans (Kx.of s3)).trans (Kx.upd (by simp)),ah⟩
   ·rw[st,if_neg (RH c1)]
    exact⟨_,_,O,kx.trans (Kx.of s3),s3 _ _ hG⟩
  ·rintro σ G0 ⟨v4,v5,rfl,sC,Do⟩
   rw[QT,c7] at Do;have xY:Kx [fA,cA,wA] H1 G0:=sC.mono (by simp);have zQ:G0 fA=some (.dK []):=sC _ _ (s1 _ _ hV) (by simp[sh]);have ye:G0 cA=some (.dK []):=sC _ _ (s1 _ _ lW) (by simp[wZ]);obtain⟨w1,w2,w3⟩:=Az nd c;have rQ:∀ G,Kx [fA,cA,wA] H1 G->Kx [fA,cA] H G:=fun G kx b o e z=>kx b o (s1 b o e) fun y=>by
    simp only[Rp,Rk,or_false] at y z
    rcases y with y|y|y
    ·exact z (.inl y)
    ·exact z (.inr y)
    ·rw[y,uM] at e
     cases e
   have BF:Wf ([]:Kvs):=fun p hp=>by cases hp
   refine⟨fun m σ G=>∃ j v4 v5 rk,σ=[some (.ref q),some (.ref fA),some (.ref cA),some (.ref wA),v4,v5]/\Kx [fA,cA,wA] H1 G/\m=left (gI (itr (turn ws c p fl) j ([],w0 nd c,[])).1) c/\j + left (gI (itr (turn ws c p fl) j ([],w0 nd c,[])).1) c<=c /\
     G fA=some (.dK (itr (turn ws c p fl) j ([],w0 nd c,[])).1)/\G wA=some (.dK (itr (turn ws c p fl) j ([],w0 nd c,[])).2.1)/\G cA=some (.dK (itr (turn ws c p fl) j ([],w0 nd c,[])).2.2)/\(Wf (itr (turn ws c p fl) j ([],w0 nd c,[])).1/\Wf (itr (turn ws c p fl) j ([],w0 nd c,[])).2.1/\Wf (itr (turn ws c p fl) j ([],w0 nd c,[])).2.2) /\
     ((itr (turn ws c p fl) j ([],w0 nd c,[])).1.length<=j/\(itr (turn ws c p fl) j ([],w0 nd c,[])).2.1.length<=c + 400 * j/\(itr (turn ws c p fl) j ([],w0 nd c,[])).2.2.length<=400 * j) /\
     Se (wn ws c) (fn p) (fn fl) (fn nd) (gI (itr (turn ws c p fl) j ([],w0 nd c,[])).1) (gI (itr (turn ws c p fl) j ([],w0 nd c,[])).2.1) (cI (itr (turn ws c p fl) j ([],w0 nd c,[])).2.2) rk j (fun q _ _=>gI (itr (turn ws c p fl) j ([],w0 nd c,[])).1 q≠none) /\
     (∀ v b,gI (itr (turn ws c p fl) j ([],w0 nd c,[])).1 v=some b->fn nd v<=0)/\∀ i,i<j->¬ 0<fn nd (mn (itr (turn ws c p fl) i ([],w0 nd c,[])).2.1),
    ⟨_,0,v4,v5,fun _=>0,O,xY,O,?_,zQ,Do,ye,⟨BF,w1,BF⟩,⟨QY _,Rz w2 (RA _ _),QY _⟩,?_,fun v b z=>(by cases z),fun i z=>absurd z (R0 _)⟩,?_⟩
   ·have:=(Gf (gI ([]:Kvs)) c).1
    show 0 + left (gI ([]:Kvs)) c<=c;omega
   ·exact Se.start (N:=wn ws c) (nd:=fn nd) w3 _ _
   rintro m σ G ⟨j,v4,v5,rk,rfl,kx,rfl,hj,gf,gw,gc,⟨yk,pG,yZ⟩,⟨l1,l2,l3⟩,se,np,no⟩
   have sj:itr (turn ws c p fl) (j + 1) ([],w0 nd c,[])=turn ws c p fl (itr (turn ws c p fl) j ([],w0 nd c,[])):=rfl;have hS:kT ws c p fl nd j (mn (itr (turn ws c p fl) j ([],w0 nd c,[])).2.1) (tkF (itr (turn ws c p fl) j ([],w0 nd c,[]))) (itr (turn ws c p fl) j ([],w0 nd c,[])).2.2\/¬ 0<fn nd (mn (itr (turn ws c p fl) j ([],w0 nd c,[])).2.1):=by
    by_cases z:0<fn nd (mn (itr (turn ws c p fl) j ([],w0 nd c,[])).2.1)
    ·exact .inl ⟨O,O,O,z,no⟩
    ·exact .inr z
   have HR:¬ 0<fn nd (mn (itr (turn ws c p fl) j ([],w0 nd c,[])).2.1)->∀ i,i<j + 1->¬ 0<fn nd (mn (itr (turn ws c p fl) i ([],w0 nd c,[])).2.1):=fun z i hi=>by
    rcases RZ i j with y|y
    ·exact no i y
    ·rw[show i=j by omega]
     exact z
   obtain⟨v0,b0,e0⟩:=se.more ok rN hnd ti np xp nN;refine⟨_,O,eK ⟨_,fun σ' H' h=>h,?_⟩⟩;simp only[sj]
   generalize itr (turn ws c p fl) j ([],w0 nd c,[])=S at *;obtain⟨far,wt,cm⟩:=S;dsimp only at *;have xB:0<wt.length:=by
    cases wt with
    | nil=>cases e0
    | cons _ _=>exact Nat.succ_pos _
   refine⟨_,O,wA,wt,kyF wt,O,gw,xB,keep G kx _ _ (s1 _ _ iZ) (fun _ z=>by cases z),fun y hy o H2 pQ=>?_,fun m H2 sm fm=>?_⟩
   ·unfold L2.zbm at hy
    obtain⟨pp,KP,rfl⟩:=List.mem_map.mp hy;obtain⟨v,i,e1,e2⟩:=pG.has KP;rw[e1];refine⟨_,O,_,O,wA,.int i,O,.inl ⟨wt,Sum.inl (v:Int),.inr ⟨o,pQ _ _ ah⟩,O,by rw[pG.val v,e2];rfl⟩,?_,ae.refl _⟩;show V.int i=V.int ((gI wt ((v:Nat):Int).toNat).getD 0);rw[Q7,e2];rfl
   obtain⟨rfl,a0,ga,zu⟩:=pG.least fm;obtain⟨BZ,mx,fx⟩:=se.pop ga zu;have xc:=(se.nn _ _ (.inr ga)).2;have tk:tkF (far,wt,cm)=aE far (Sum.inl ((mn wt:Nat):Int)) (.int a0):=by
    show aE far _ (.int ((gI wt (mn wt)).getD 0))=_;rw[ga];rfl
   have tn:turn ws c p fl (far,wt,cm)=(aE far (Sum.inl ((mn wt:Nat):Int)) (.int a0),io ws c p fl (aE far (Sum.inl ((mn wt:Nat):Int)) (.int a0)) (mn wt) a0 (du wt (Sum.inl ((mn wt:Nat):Int)),cm)):=by
    unfold turn;rw[tk];show(_,io ws c p fl _ (mn wt) ((gI wt (mn wt)).getD 0) _)=_;rw[ga];rfl
   rw[tk] at hS;simp only[tn]
   generalize mn wt=x at *;have gM:Kx [fA,cA,wA] H1 H2:=kx.trans (Kx.of sm);refine⟨_,O,wA,O,.inl ⟨wt,.inl (sm _ _ gw)⟩,_,O,wt,Sum.inl ((x:Nat):Int),.int a0,sm _ _ gw,O,by rw[pG.val x,ga];rfl,_,O,_,O,fA,_,O,.inl ⟨far,Sum.inl ((x:Nat):Int),by rw[ai sh];exact sm _ _ gf,O,by rw[Q3];omega,O⟩,?_⟩;have eX:Kx [fA,cA,wA] H1 (upd (upd H2 wA (.dK (du wt (Sum.inl ((x:Nat):Int))))) fA (.dK (aE far (Sum.inl ((x:Nat):Int)) (.int a0)))):=(gM.trans (Kx.upd (by simp))).trans (Kx.upd (by simp));have f4:upd (upd H2 wA (.dK (du wt (Sum.inl ((x:Nat):Int))))) fA (.dK (aE far (Sum.inl ((x:Nat):Int)) (.int a0))) fA=some (.dK (aE far (Sum.inl ((x:Nat):Int)) (.int a0))):=ah;have w4:upd (upd H2 wA (.dK (du wt (Sum.inl ((x:Nat):Int))))) fA (.dK (aE far (Sum.inl ((x:Nat):Int)) (.int a0))) wA=some (.dK (du wt (Sum.inl ((x:Nat):Int)))):=by rw[ai (Ne.symm sh),ah]
   have c4:upd (upd H2 wA (.dK (du wt (Sum.inl ((x:Nat):Int))))) fA (.dK (aE far (Sum.inl ((x:Nat):Int)) (.int a0))) cA=some (.dK cm):=by rw[ai (Ne.symm nC),ai wZ];exact sm _ _ gc
   generalize upd (upd H2 wA (.dK (du wt (Sum.inl ((x:Nat):Int))))) fA (.dK (aE far (Sum.inl ((x:Nat):Int)) (.int a0)))=H4 at eX f4 w4 c4 ⊢;have L4:=lay H4 eX;obtain⟨HW,ex4⟩:=L4.ex;have lC:=keep H4 eX _ _ (s1 _ _ hn) (fun _ z=>by cases z);have KD:=keep H4 eX _ _ (s1 _ _ hp) (fun _ z=>by cases z);have IL:=keep H4 eX _ _ (s1 _ _ hf) (fun _ z=>by cases z);have BX:x<c:=xc;have Bs:=ql far (Sum.inl ((x:Nat):Int)) (.int a0);have dl:=Oe wt (Sum.inl ((x:Nat):Int));have gx:gI (aE far (Sum.inl ((x:Nat):Int)) (.int a0)) x=some a0:=by rw[iU,aS]
   rw[<- iU,<- Eh] at BZ;rw[<- iU] at mx;have DC:Se (wn ws c) (fn p) (fn fl) (fn nd) (gI (aE far (Sum.inl ((x:Nat):Int)) (.int a0))) (gI (du wt (Sum.inl ((x:Nat):Int)))) (cI cm) (up rk x j) (j + 1) fun q _ _=>q≠x/\gI (aE far (Sum.inl ((x:Nat):Int)) (.int a0)) q≠none:=BZ.less fun q n d z=>by
    have z2:=z.2;rw[iU,aK _ _ z.1] at z2;exact z2
   refine⟨_,O,q,a.Layout,HW,_,_,O,ex4,T.c_Layout,T.na_Layout_needs,ow,_,O,r.n,_,_,_,O,O,SqL.of lC,ou (by omega),_,_,O,O,_,O,?_⟩;refine dv (fun c1=>?_) (fun c1=>?_)
   ·have c2:0<fn nd x:=Rj c1
    rcases hS with hS|hS
    ·refine⟨_,O,k j x _ cm H4 (rQ _ eX) hS f4 c4 (yk.put _ _) yZ (by omega) (by omega) ⟨_,_,j + 1,a0,by omega,DC,gx,mx,fun q b e=>?_⟩⟩
     rw[Eh] at e;by_cases z:q=x
     ·rw[z,aS] at e
      cases e
     ·rw[aK _ _ z] at e
      exact zu q b e
    ·exact absurd c2 hS
   ·have c2:¬ 0<fn nd x:=RH c1
    refine⟨_,O,_,O,_,O,_,O,_,O,q,r,ws,c,p,fl,fA,wA,cA,_,_,cm,x,a0,O,L4,KD,jv,IL,iI,ok,hw,BX,f4,yk.put _ _,gx,w4,pG.drop _,by omega,c4,yZ,by omega,sh,nC,Ne.symm wZ,fun H5 iE Jx Kc=>?_⟩;obtain⟨o1,o2,o3⟩:=MJ (ws:=ws) (c:=c) (P:=p) (fl:=fl) (far:=aE far (Sum.inl ((x:Nat):Int)) (.int a0)) (x:=x) (a:=a0) (s:=(du wt (Sum.inl ((x:Nat):Int)),cm)) ⟨pG.drop _,yZ⟩;have ll:left (gI (aE far (Sum.inl ((x:Nat):Int)) (.int a0))) c<left (gI far) c:=by
     rw[iU];exact Ot BX fx
    rw[tn] at sj;refine⟨left (gI (itr (turn ws c p fl) (j + 1) ([],w0 nd c,[])).1) c,by rw[sj];exact ll,j + 1,some (.int (x:Nat)),v5,up rk x j,?_⟩;rw[sj];refine⟨O,eX.trans (iE.mono (by simp)),O,?_,?_,Jx,Kc,⟨yk.put _ _,o1.1,o1.2⟩,⟨?_,?_,?_⟩,MG ok ti gx mx DC,fun v b e=>?_,HR c2⟩
    ·show j + 1 + left (gI (aE far (Sum.inl ((x:Nat):Int)) (.int a0))) c<=c
     omega
    ·exact iE _ _ f4 (by simp[sh,nC])
    ·show(aE far (Sum.inl ((x:Nat):Int)) (.int a0)).length<=j + 1
     omega
    ·refine Rz o2 ?_
     show(du wt (Sum.inl ((x:Nat):Int))).length + 2 * ws.length<=c + 400 * (j + 1);omega
    ·refine Rz o3 ?_
     show cm.length + 2 * ws.length<=400 * (j + 1);omega
    ·have e:gI (aE far (Sum.inl ((x:Nat):Int)) (.int a0)) v=some b:=e
     rw[iU] at e;by_cases z:v=x
     ·rw[z]
      omega
     ·rw[aK _ _ z] at e
      exact np v b e
end
def wyL (N:Wn) (cm:Nat->Option Nat) (e k:Nat):List (Nat×Int):=(List.range k).map fun i=>(cn cm (itr (bc N cm) i e),((itr (bc N cm) i e:Nat):Int))
theorem AT (N:Wn) (cm:Nat->Option Nat) (e k:Nat):wyL N cm e (k + 1)=wyL N cm e k++[(cn cm (itr (bc N cm) k e),((itr (bc N cm) k e:Nat):Int))]:=by
 unfold wyL;rw[T2,Q2];rfl
section
variable {K:PySem.W.Frag}
def spWay (K:PySem.W.Frag) (C:Addr):Sp:=fun vs H Q _=>∃ q r ws c cA cm,∃ (rk:Nat->Nat) (e:Nat),vs=[.ref q,.ref cA,.int e]/\bI C H q r ws c/\H cA=some (.dK cm)/\Wf cm/\(∀ x i,gI cm x=some i->0<=i) /\
 (∀ i,(cI cm (itr (bc (wn ws c) (cI cm)) i e)).isSome=true->cn (cI cm) (itr (bc (wn ws c) (cI cm)) i e)<ws.length/\rk (itr (bc (wn ws c) (cI cm)) (i + 1) e)<rk (itr (bc (wn ws c) (cI cm)) i e))/\rk e<=10000 /\
 ∀ k g xs H',ae H H'->H g=none->H' g=some (.lst xs)->aJ K H' ((wyL (wn ws c) (cI cm) e k).map stD) xs->cI cm (itr (bc (wn ws c) (cI cm)) k e)=none->(∀ i,i<k->(cI cm (itr (bc (wn ws c) (cI cm)) i e)).isSome=true)->k<=10000->Q (.ref g) H'
theorem ok_way (T:Tx K mg a):Cal P w K mg base CX0 2 "way_back" ["layout","came_by","end"] [] (spWay K a.Layout):=T.d_way_back.cal fun f fd F=>by
 have m_Layout_end_across:=AB (P:=P) (w:=w) (base:=base) T;refine F.ok vO (fun vs H Q E h=>?_) (fun aA A outer s H vs Q E hr h=>?_)
 ·obtain⟨q,r,ws,c,cA,cm,rk,e,rfl,_⟩:=h
  rfl
 ·obtain⟨q,r,ws,c,cA,cm,rk,e,rfl,L,lW,wf,nn,JZ,re,k⟩:=h
  obtain⟨dx,ex⟩:=L.ex;refine⟨_,(aq (aQ (i:=3) vO.nd O (.inl O) (dJ ak))
   (aq (aQ (i:=4) vO.nd O (.inl O) (pv 2))
   (aq (uk PassesOwn.never (tL (pc_din (bb hr) (pv 4) (pv 1))) (aq (eJ (iO PySem.F.plainAttrs_list PySem.F.slot_list_append PySem.F.type_list_append mf (pv 3) (af (gG (af (cH (bb hr) (pv 1) (pv 4) (fun _ _=>O)) (af (pv 4) ak))) ak)))
   (aB (aQ (i:=4) vO.nd O (.inl O) (tG (pv 0) T.c_Layout m_Layout_end_across (hr.mono (by decide)) (af (cH (bb hr) (pv 1) (pv 4) (fun _ _=>O)) (af (pv 4) ak)))))))
   (aB (bn (pv 3)))))),?_⟩
  refine⟨(by show 0<=sizeLine;decide),fun g ng=>?_⟩;have s1:ae H (upd H g (.lst [])):=ae.new ng;have h1:upd H g (.lst []) g=some (.lst []):=ah;generalize upd H g (.lst [])=H1 at s1 h1 ⊢;refine⟨_,O,?_⟩;refine⟨fun m σ G=>∃ i xs,m=rk (itr (bc (wn ws c) (cI cm)) i e)/\σ=[some (.ref q),some (.ref cA),some (.int (e:Nat)),some (.ref g),some (.int (itr (bc (wn ws c) (cI cm)) i e:Nat))]/\ae H G/\G g=some (.lst xs)/\aJ K G ((wyL (wn ws c) (cI cm) e i).map stD) xs/\(∀ j,j<i->(cI cm (itr (bc (wn ws c) (cI cm)) j e)).isSome=true)/\i + rk (itr (bc (wn ws c) (cI cm)) i e)<=10000,
   ⟨_,0,[],rfl,rfl,s1,h1,rfl,fun j z=>absurd z (R0 _),by show 0 + rk e<=10000;omega⟩,?_⟩
  rintro m σ G ⟨i,xs,rfl,rfl,sg,hg,aR,all,hi⟩
  have gd:=wf.dget (v:=itr (bc (wn ws c) (cI cm)) i e) (sg _ _ lW);refine⟨_,O,_,O,cA,_,O,gd,_,O,?_⟩;cases eg:gI cm (itr (bc (wn ws c) (cI cm)) i e) with
  | none=>
   refine mi ⟨_,O,k i g xs G sg ng hg aR ?_ all (by omega)⟩;show(gI cm (itr (bc (wn ws c) (cI cm)) i e)).map Int.toNat=none;rw[eg];rfl
  | some z=>
   have z0:=nn _ _ eg;obtain⟨n,rfl⟩:∃ n:Nat,z=(n:Int):=⟨z.toNat,by omega⟩;have cs:cI cm (itr (bc (wn ws c) (cI cm)) i e)=some n:=by
    show(gI cm (itr (bc (wn ws c) (cI cm)) i e)).map Int.toNat=some n;rw[eg];rfl
   have Cn:cn (cI cm) (itr (bc (wn ws c) (cI cm)) i e)=n:=by
    unfold cn;rw[cs];rfl
   obtain⟨nl,rl⟩:=JZ i (by rw[cs];rfl);rw[Cn] at nl;rw[eg] at gd;have lx:xs.length<=10000:=by
    have:=aR.length;unfold wyL at this;rw[QT,QT,RU] at this;omega
   refine eK ⟨_,fun σ' H' h=>h,?_⟩;refine⟨_,O,.inl ⟨O,_,SqL.of hg⟩,_,O,_,O,cA,_,O,gd,_,O,(by show 2<=sizeLine;decide),fun t nt=>⟨g,_,_,O,O,ae.new nt _ _ hg,by rw[Q3];omega,?_⟩⟩;have s5:ae G (upd G t (.tup [.int (n:Nat),.int (itr (bc (wn ws c) (cI cm)) i e:Nat)])):=ae.new nt;have h5:upd G t (.tup [.int (n:Nat),.int (itr (bc (wn ws c) (cI cm)) i e:Nat)]) t=some (.tup [.int (n:Nat),.int (itr (bc (wn ws c) (cI cm)) i e:Nat)]):=ah;generalize upd G t (.tup [.int (n:Nat),.int (itr (bc (wn ws c) (cI cm)) i e:Nat)])=H5 at s5 h5 ⊢;have s6:ae H (upd H5 g (.lst (xs++[.ref t]))):=bv ng (sg.trans s5);have kp:Tk H5 (upd H5 g (.lst (xs++[.ref t]))):=Tk.upd (s5 _ _ hg) rfl;have h6:upd H5 g (.lst (xs++[.ref t])) g=some (.lst (xs++[.ref t])):=ah;have Dr:aJ K (upd H5 g (.lst (xs++[.ref t]))) ((wyL (wn ws c) (cI cm) e (i + 1)).map stD) (xs++[.ref t]):=by
    rw[AT,Q2,Cn];exact aJ.snoc (d:=stD (n,((itr (bc (wn ws c) (cI cm)) i e:Nat):Int))) (kp.dt O ⟨t,_,O,SqT.of h5,_,_,O,O,_,_,O,O,O⟩) (kp.dts (cW (fun _=>O) _) (s5.dts aR))
   generalize upd H5 g (.lst (xs++[.ref t]))=H6 at s6 h6 Dr ⊢;have pO:=wf.dget (v:=itr (bc (wn ws c) (cI cm)) i e) (s6 _ _ lW);rw[eg] at pO;refine⟨_,O,q,dx,_,O,s6 _ _ ex,by rfl,_,O,_,O,cA,_,O,pO,_,O,q,r,ws,c,n,_,O,L.same s6,nl,?_⟩;have nx:itr (bc (wn ws c) (cI cm)) (i + 1) e=ac (wn ws c) n (itr (bc (wn ws c) (cI cm)) i e):=qc cs;refine⟨rk (itr (bc (wn ws c) (cI cm)) (i + 1) e),rl,i + 1,xs++[.ref t],O,?_,s6,h6,Dr,fun j hj=>?_,by omega⟩
   ·rw[nx]
    rfl
   ·rcases RZ j i with y|y
    ·exact all j y
    ·rw[show j=i by omega,cs]
     rfl
end
theorem Ey {N:Wn}{pu:Nat->Option Nat}{p:Nat} (h:∀ i,(pu (itr (bk N pu) i p)).isSome=true):∀ k,((rgL N pu p k).map N.le).sum=fS N pu p k
 | 0=>rfl
 | k + 1=>by
  have ih:=Ey h k;show N.le (cn pu (itr (bk N pu) k p)) + ((rgL N pu p k).map N.le).sum=fS N pu p k + _;rw[ih,iR (h k)];exact Int.add_comm _ _
theorem jN.pos  (h:jN N ring):0<(ring.map N.le).sum:=by
 obtain⟨P,t,pu,p,k,fi,hp,all,rfl,back,ne⟩:=h.told;rw[Ey all];exact fi.b p (k + 1) (Nat.succ_pos _) (fun i _=>all i) back
def amL (N:Wn) (fl nd:Nat->Int) (st:List (Nat×Int)) (e s:Nat):List Int:=nd e::(0 - nd s)::((st.filter fun x=>decide (((N.on x.1:Nat):Int)=x.2)).map fun x=>fl x.1)
def st1 (N:Wn) (am:Int) (f:List Int) (x:Nat×Int):List Int:=f.set x.1 (fn f x.1 + (if ((N.ot x.1:Nat):Int)=x.2 then am else 0 - am))
def ndS (nd:List Int) (s e:Nat) (am:Int):List Int:=(nd.set s (fn nd s + am)).set e (fn (nd.set s (fn nd s + am)) e - am)
theorem vj (N:Wn) (am:Int):∀ (st:List (Nat×Int)) (f:List Int),(st.foldl (st1 N am) f).length=f.length
 | [],_=>rfl
 | x::st,f=>by
  show(st.foldl (st1 N am) (st1 N am f x)).length=_;rw[vj N am st];unfold st1;rw[RD]
theorem at_end {x:V} (h:xs[xs.length - 1]?=some x):atI xs (-1)=some x:=by
 have hp:0<xs.length:=by
  have:=(List.getElem?_eq_some_iff.mp h).1;omega
 unfold atI ixN;rw[if_neg (by decide),if_pos (by omega)];have e2:((-1:Int) + (xs.length:Int)).toNat=xs.length - 1:=by omega
 rw[e2];exact h
section
variable {K:PySem.W.Frag}
def Pg (K:PySem.W.Frag) (C:Addr):Sp:=fun vs H Q _=>∃ q r ws c fl nd sA st xs,∃ e ln lp:Nat,vs=[.ref q,.ref sA,.int e]/\bI C H q r ws c/\H r.f=some (.lst ((fl:List Int).map V.int))/\fl.length=ws.length/\H r.n=some (.lst ((nd:List Int).map V.int))/\nd.length=c /\
 H sA=some (.lst xs)/\sA≠r.f/\sA≠r.n/\aJ K H ((st:List (Nat×Int)).map stD) xs/\st.length<=10000/\(∀ x∈st,x.1<ws.length)/\st[st.length - 1]?=some (ln,((lp:Nat):Int))/\e<c/\ac (wn ws c) ln lp<c /\
 ∀ am H',am∈amL (wn ws c) (fn fl) (fn nd) st e (ac (wn ws c) ln lp)->(∀ x∈amL (wn ws c) (fn fl) (fn nd) st e (ac (wn ws c) ln lp),am<=x)->Kx [r.f,r.n] H H' ->
  H' r.f=some (.lst ((st.foldl (st1 (wn ws c) am) fl).map V.int))->H' r.n=some (.lst ((ndS nd (ac (wn ws c) ln lp) e am).map V.int))->Q .non H'
theorem Po (T:Tx K mg a):Cal P w K mg base CX0 2 "send_along" ["layout","steps","end"] [] (Pg K a.Layout):=T.d_send_along.cal fun f fd F=>by
 have m_Layout_end_across:=AB (P:=P) (w:=w) (base:=base) T;refine F.ok oV (fun vs H Q E h=>?_) (fun aA A outer s H vs Q E hr h=>?_)
 ·obtain⟨q,r,ws,c,fl,nd,sA,st,xs,e,ln,lp,rfl,_⟩:=h
  rfl
 ·obtain⟨q,r,ws,c,fl,nd,sA,st,xs,e,ln,lp,rfl,L,hf,iI,hn,c7,hs,sf,sn,aR,cO,pr,wU,Qy,QA,k⟩:=h
  obtain⟨dx,ex⟩:=L.ex;have lx:st.length=xs.length:=by rw[<- aR.length,QT]
  have pos:0<st.length:=by
   have:=(List.getElem?_eq_some_iff.mp wU).1;omega
  have Jw:ln<ws.length:=pr _ (Q0 wU);obtain⟨xl,xf⟩:=eB (l:=xs) (j:=xs.length - 1) (by omega);obtain⟨s0,qR,JB⟩:=eL aR xf;rw[<- lx,wU] at qR;obtain rfl:=Option.some.inj qR;obtain⟨tl,rfl,Bt⟩:=vy JB;refine⟨_,(aq (aQ (i:=3) oV.nd O (.inl O) (aG bx (pv 1) (pe_un un_neg au) (fun _ _=>O)))
   (aq (aQ (i:=4) oV.nd O (.inl O) (tG (pv 0) T.c_Layout m_Layout_end_across (hr.mono (by decide)) (af (aG cf (pv 3) au (fun _ _=>O)) (af (aG cf (pv 3) au (fun _ _=>O)) ak))))
   (aq (pb (i:=5) oV.nd O O (N:=["number","point","layout"]) (cap:=[none,none,some 0]) O (bM (osc:=aC vX) (XN:=["layout","steps","end","last","start","back","amount","number","point"]) O O (by decide +kernel)) (bV (pv 1)) (fun cl C s H fp aa=>(jS (K:=K) (n:=2) O O (aO (az (i:=0) (show(["number","point","layout"]:List Str).Nodup by decide +kernel) rfl (.inl rfl)) (aO (az (i:=1) (show(["number","point","layout"]:List Str).Nodup by decide +kernel) rfl (.inl rfl)) cz)))) (fun cl C s H fp aa=>vM (cJ oB (aG (tj (K:=K) O) (AA (K:=K) O (pv 2) O) (pv 0) (fun _ _=>O)) (pv 1) (bH _))) (fun cl C s H fp aa=>(pv 0)) (hsw:=O))
   (aq (aQ (i:=6) oV.nd O (.inl O) (bp Mv O T.n_min u9 (af (aI FE (dJ (af (aG bx (bG (pv 0) O) (pv 2) (fun _ _=>O)) (af (aI iq au (aG bx (bG (pv 0) O) (pv 4) (fun _ _=>O))) ak))) (cY (N:=["number","layout"]) (cap:=[none,some 0]) O (bM (osc:=aC vX) (XN:=["layout","steps","end","last","start","back","amount","number","point"]) O O (by decide +kernel)) (bV (pv 5)) (fun cl C s H fp aa=>(az (i:=0) (show(["number","layout"]:List Str).Nodup by decide +kernel) rfl (.inl rfl))) (fun cl C s H fp aa=>cy) (fun cl C s H fp aa=>(aG (tj (K:=K) O) (AA (K:=K) O (pv 1) O) (pv 0) (fun _ _=>O))))) ak)))
   (aq (cV PassesOwn.never rfl (bV (pv 1)) (fD rfl (aO (az (i:=7) oV.nd O (.inl O)) (aO (az (i:=8) oV.nd O (.inl O)) cz))) (aB (o8 (bG (pv 0) O) (pv 7) oY (Af (cJ oB (aG bx (bG (pv 0) O) (pv 7) (fun _ _=>O)) (pv 8) (bH _)) (pv 6) (aI iq au (pv 6))) tf kL)))
   (aq (o8 (bG (pv 0) rfl) (pv 4) oY (pv 6) tf kL)
   (aB (o8 (bG (pv 0) rfl) (pv 2) oY (pv 6) FX kL)))))))),?_⟩
  refine⟨_,O,_,O,sA,_,_,_,O,O,SqL.of hs,at_end xf,?_⟩;refine⟨_,O,q,dx,_,O,ex,by rfl,_,O,tl,_,_,_,O,O,Bt,O,_,O,tl,_,_,_,O,O,Bt,O,q,r,ws,c,ln,lp,O,L,Jw,?_⟩;generalize ac (wn ws c) ln lp=ss at *;refine⟨_,O,sA,O,⟨_,SqL.of hs⟩,fun D hD=>?_⟩;refine fW (K:=K) (a:=sA) (xs:=xs) (fun j τ G=>∃ v1 v2,τ=[v1,v2,some (.ref q)]/\ae H G/\G D=some (.lst (aM (((st.take j).filter fun x=>decide ((((wn ws c).on x.1:Nat):Int)=x.2)).map fun x=>x.1)))) ⟨none,none,O,ae.new hD,ah⟩ ?_ ?_ ?_
  ·rintro j τ G _ ⟨_,_,rfl,sg,_⟩
   exact SqL.of (sg _ _ hs)
  ·rintro j y τ G hy ⟨v1,v2,rfl,sg,hG⟩
   obtain⟨⟨n,d⟩,pN,dj⟩:=eL aR hy;have nl:=pr _ (Q0 pN);obtain⟨t,rfl,ht⟩:=vy (sg.dt dj);refine⟨t,_,O,ht,O,_,_,O,_,_,O,O,?_⟩;refine⟨_,O,q,a.Layout,dx,_,_,O,sg _ _ ex,T.c_Layout,T.na_Layout_ones,qh,_,O,r.o,_,_,_,O,O,SqL.of (sg _ _ L.ho),kY _ nl,_,O,O,_,O,?_⟩;have P9:(((st.take j).filter fun x=>decide ((((wn ws c).on x.1:Nat):Int)=x.2)).map fun x=>x.1).length<=10000:=by
    rw[QT];have e1:=RI (fun x:Nat×Int=>decide ((((wn ws c).on x.1:Nat):Int)=x.2)) (st.take j);have e2:=Uj j st;rw[Rb] at e1;omega
   refine dv (fun b1=>?_) (fun b1=>?_)
   ·have b2:decide ((((wn ws c).on n:Nat):Int)=d)=true:=by
     have:=Rj b1;injection this with z
     exact Ro z
    refine⟨_,O,_,hG,?_,_,_,O,bv hD sg,?_⟩
    ·show(aM _).length<sizeLine
     unfold aM;rw[QT,Q3];omega
    ·rw[ah,zam pN,Sz,RX,if_pos b2,SL,Q2]
     unfold aM;rw[Q2];rfl
   ·have b2:decide ((((wn ws c).on n:Nat):Int)=d)=false:=by
     refine RQ fun z=>?_
     have:=RH b1;exact this (by rw[<- z];rfl)
    refine⟨_,_,O,sg,?_⟩;rw[zam pN,Sz,RX,if_neg (by rw[b2];decide),SL,So];exact hG
  rintro τ H1 ⟨v1,v2,rfl,s1,jz⟩
  rw[Rt (by omega)] at jz;have Bv:=s1 _ _ ex;have Dl:=s1 _ _ hn;refine⟨_,O,q,a.Layout,dx,_,_,O,Bv,T.c_Layout,T.na_Layout_needs,ow,_,O,r.n,_,_,_,O,O,SqL.of Dl,ou (by omega),_,O,q,a.Layout,dx,_,_,O,Bv,T.c_Layout,T.na_Layout_needs,ow,_,O,r.n,_,_,_,O,O,SqL.of Dl,ou (by omega),_,_,O,O,(by show 2<=sizeLine;decide),fun g1 Dx=>?_⟩;have s2:ae H (upd H1 g1 (.lst [.int (fn nd e),.int (0 - fn nd ss)])):=s1.trans (ae.new Dx);have h2:upd H1 g1 (.lst [.int (fn nd e),.int (0 - fn nd ss)]) g1=some (.lst [.int (fn nd e),.int (0 - fn nd ss)]):=ah;have bW:=ae.new Dx (o:=.lst [.int (fn nd e),.int (0 - fn nd ss)]) _ _ jz;generalize upd H1 g1 (.lst [.int (fn nd e),.int (0 - fn nd ss)])=H2 at s2 h2 bW ⊢;generalize wR:(st.filter fun x=>decide ((((wn ws c).on x.1:Nat):Int)=x.2))=bk at bW;have QL:bk.length<=10000:=by
   rw[<- wR];have:=RI (fun x:Nat×Int=>decide ((((wn ws c).on x.1:Nat):Int)=x.2)) st;omega
  have wK:∀ x∈bk,x.1<ws.length:=fun x hx=>by
   rw[<- wR] at hx;exact pr x (List.mem_filter.mp hx).1
  refine⟨_,O,D,O,⟨_,SqL.of bW⟩,fun Z hZ=>?_⟩;refine fW (K:=K) (a:=D) (xs:=aM (bk.map fun x=>x.1)) (fun j τ G=>∃ v1,τ=[v1,some (.ref q)]/\ae H2 G/\G Z=some (.lst (((bk.take j).map fun x=>fn fl x.1).map V.int))) ⟨none,O,ae.new hZ,ah⟩ ?_ ?_ ?_
  ·rintro j τ G _ ⟨_,rfl,sg,_⟩
   exact SqL.of (sg _ _ bW)
  ·rintro j y τ G hy ⟨v1,rfl,sg,hG⟩
   obtain⟨n,nM,rfl⟩:=tK hy;rw[Q4] at nM;cases eb:bk[j]? with
   | none=>rw[eb] at nM;cases nM
   | some b=>
    rw[eb] at nM;obtain rfl:b.1=n:=Option.some.inj nM;have bl:=wK b (Q0 eb);have tg:=s2.trans sg;dsimp only[bA,cK];rw[if_pos rfl];refine⟨_,O,q,a.Layout,dx,_,_,O,tg _ _ ex,T.c_Layout,T.na_Layout_flow,uc,_,O,r.f,_,_,_,O,O,SqL.of (tg _ _ hf),ou (by omega),_,hG,?_,_,O,bv hZ sg,?_⟩
    ·rw[QT,QT,Rb,Q3]
     omega
    ·rw[ah,zam eb,Q2,Q2]
     rfl
  rintro τ H3 ⟨v3,rfl,s3,lR⟩
  rw[Rt (by unfold aM;rw[QT,QT];exact QY _)] at lR;refine⟨g1,Z,_,_,O,O,s3 _ _ h2,lR,?_,fun g2 HK=>?_⟩
  ·rw[QT,QT,Q3]
   show 2 + bk.length<=_;omega
  have qx:amL (wn ws c) (fn fl) (fn nd) st e ss=fn nd e::(0 - fn nd ss)::(bk.map fun x=>fn fl x.1):=by
   unfold amL;rw[wR]
  have e4:([V.int (fn nd e),V.int (0 - fn nd ss)]++(bk.map fun x=>fn fl x.1).map V.int)=(amL (wn ws c) (fn fl) (fn nd) st e ss).map V.int:=by
   rw[qx];rfl
  rw[e4];have s4:ae H (upd H3 g2 (.lst ((amL (wn ws c) (fn fl) (fn nd) st e ss).map V.int))):=(s2.trans s3).trans (ae.new HK);have h4:upd H3 g2 (.lst ((amL (wn ws c) (fn fl) (fn nd) st e ss).map V.int)) g2=some (.lst ((amL (wn ws c) (fn fl) (fn nd) st e ss).map V.int)):=ah;generalize upd H3 g2 (.lst ((amL (wn ws c) (fn fl) (fn nd) st e ss).map V.int))=H4 at s4 h4 ⊢;refine⟨g2,_,O,SqL.of h4,(by rw[qx];exact List.cons_ne_nil _ _),fun am hm iF=>?_⟩;have L4:=L.same s4;have lay:∀ G,Kx [r.f] H4 G->bI a.Layout G q r ws c:=fun G kx=>L4.kx kx fun y hy=>.inr (.inl (S1.mp hy))
  have C4:=s4 _ _ hs;have x8:=s4.dts aR;have rO:∀ G,Kx [r.f] H4 G->Tk H4 G:=fun G kx b o z1 z2=>kx b o z1 fun y=>by
   rw[S1.mp y,s4 _ _ hf] at z1;cases z1
   cases z2
  refine⟨_,O,sA,O,⟨_,SqL.of C4⟩,iP (K:=K) (a:=sA) (xs:=xs) (fun i σ G=>∃ v7 v8,σ=[some (.ref q),some (.ref sA),some (.int (e:Nat)),some (.ref tl),some (.int (ss:Nat)),some (.ref D),some (.int am),v7,v8]/\Kx [r.f] H4 G/\G r.f=some (.lst (((st.take i).foldl (st1 (wn ws c) am) fl).map V.int)))
   ⟨none,none,rfl,Kx.of (ae.refl _),s4 _ _ hf⟩ ?_ ?_ ?_⟩
  ·rintro i σ G _ ⟨_,_,rfl,kx,_⟩
   exact SqL.of (kx _ _ C4 (by simp[sf]))
  ·rintro i y σ G hy ⟨v7,v8,rfl,kx,hG⟩
   obtain⟨⟨n,d⟩,pN,dj⟩:=eL x8 hy;have nl:=pr _ (Q0 pN);obtain⟨t,rfl,ht⟩:=vy ((rO G kx).dt O dj);have LG:=lay G kx;obtain⟨cE,gL⟩:=LG.ex;have Bs:=vj (wn ws c) am (st.take i) fl;have fo:(st.take (i + 1)).foldl (st1 (wn ws c) am) fl=st1 (wn ws c) am ((st.take i).foldl (st1 (wn ws c) am) fl) (n,d):=by rw[zam pN,RT];rfl
   rw[fo];generalize (st.take i).foldl (st1 (wn ws c) am) fl=now at hG Bs ⊢;have Bw:n<now.length:=by
    have:n<ws.length:=nl;omega
   refine⟨t,_,O,ht,O,_,_,O,_,_,O,O,?_⟩;refine⟨_,O,q,a.Layout,cE,_,_,O,gL,T.c_Layout,T.na_Layout_flow,uc,_,O,r.f,_,_,_,O,O,SqL.of hG,by omega,tR Bw,?_⟩;refine⟨_,O,q,a.Layout,cE,_,_,O,gL,T.c_Layout,T.na_Layout_others,ua,_,O,r.t,_,_,_,O,O,SqL.of LG.ht,kY _ nl,_,O,O,_,O,?_⟩;refine dv (fun b1=>?_) (fun b1=>?_)
   ·have b2:(((wn ws c).ot n:Nat):Int)=d:=by
     have:=Rj b1;injection this with z
    have sq:st1 (wn ws c) am now (n,d)=now.set n (fn now n + am):=by
     unfold st1;rw[if_pos b2]
    rw[sq];refine⟨_,O,_,_,O,O,r.f,_,_,_,O,O,hG,jF (by omega) (by rw[QT];omega),?_⟩;rw[Q7,<- Sr];exact⟨_,_,O,kx.trans (Kx.upd (by simp)),ah⟩
   ·have b2:¬ (((wn ws c).ot n:Nat):Int)=d:=fun z=>by
     have:=RH b1;exact this (by rw[<- z];rfl)
    have sq:st1 (wn ws c) am now (n,d)=now.set n (fn now n + (0 - am)):=by
     unfold st1;rw[if_neg b2]
    rw[sq];refine⟨_,O,_,_,O,O,_,_,O,O,r.f,_,_,_,O,O,hG,jF (by omega) (by rw[QT];omega),?_⟩;rw[Q7,<- Sr];exact⟨_,_,O,kx.trans (Kx.upd (by simp)),ah⟩
  ·rintro σ G ⟨v7,v8,rfl,kx,hG⟩
   rw[<- lx,Rf] at hG;have LG:=lay G kx;obtain⟨cE,gL⟩:=LG.ex;have C8:G r.n=some (.lst (nd.map V.int)):=kx _ _ (s4 _ _ hn) (by simp[Ne.symm L.fn]);refine⟨_,O,q,a.Layout,cE,_,_,O,gL,T.c_Layout,T.na_Layout_needs,ow,_,O,r.n,_,_,_,O,O,SqL.of C8,by omega,tR (by omega),_,O,_,_,O,O,r.n,_,_,_,O,O,C8,jF (by omega) (by rw[QT];omega),?_⟩;rw[Q7,<- Sr];have iE:Kx [r.f,r.n] H (upd G r.n (.lst ((nd.set ss (fn nd ss + am)).map V.int))):=((Kx.of s4).trans (kx.mono (by simp))).trans (Kx.upd (by simp));have h5:upd G r.n (.lst ((nd.set ss (fn nd ss + am)).map V.int)) r.n=some (.lst ((nd.set ss (fn nd ss + am)).map V.int)):=ah;have f5:upd G r.n (.lst ((nd.set ss (fn nd ss + am)).map V.int)) r.f=some (.lst ((st.foldl (st1 (wn ws c) am) fl).map V.int)):=by rw[ai L.fn];exact hG
   generalize upd G r.n (.lst ((nd.set ss (fn nd ss + am)).map V.int))=H5 at iE h5 f5 ⊢;have L5:bI a.Layout H5 q r ws c:=L.kx iE fun y hy=>by
    rcases Rp.mp hy with z|z
    ·exact .inr (.inl z)
    ·exact .inr (.inr (.inl (S1.mp z)))
   obtain⟨HL,ex5⟩:=L5.ex;have l5:e<(nd.set ss (fn nd ss + am)).length:=by rw[RD];omega
   refine⟨_,O,q,a.Layout,HL,_,_,O,ex5,T.c_Layout,T.na_Layout_needs,ow,_,O,r.n,_,_,_,O,O,SqL.of h5,by omega,tR l5,_,O,_,_,O,O,r.n,_,_,_,O,O,h5,jF (by omega) (by rw[QT];omega),?_⟩;rw[Q7,<- Sr];exact k am _ hm iF (iE.trans (Kx.upd (by simp))) (by rw[ai L.fn];exact f5) ah
end
def keyN:Key->Nat
 | .inl i=>i.toNat
 | .inr _=>0
def valI:V->Int
 | .int i=>i
 | _=>0
def mv1 (D:Int) (P:List Int) (kv:Key×V):List Int:=P.set (keyN kv.1) (fn P (keyN kv.1) + (D - valI kv.2))
theorem Bm (D:Int):∀ (far:Kvs) (P:List Int),(far.foldl (mv1 D) P).length=P.length
 | [],_=>rfl
 | x::far,P=>by
  show(far.foldl (mv1 D) (mv1 D P x)).length=_;rw[Bm D far];unfold mv1;rw[RD]
theorem Mc (v:Nat) (b:Int) (r:Kvs):gI ((Sum.inl (v:Int),V.int b)::r)=up (gI r) v (some b):=by
 funext u
 unfold gI;by_cases c:u=v
 ·subst c
  rw[fU rfl,aS];rfl
 ·rw[eA (fun z=>c (by injection z with z;exact(Int.ofNat.inj z).symm)),aK _ _ c]
theorem FK {v:Nat}:∀ {r:Kvs},Sum.inl (v:Int)∉r.map Prod.fst->gI r v=none
 | [],_=>rfl
 | p::r,h=>by
  have h1:p.1≠Sum.inl (v:Int):=fun z=>h (by rw[<- z];exact Q9)
  have ih:=FK (v:=v) (r:=r) fun z=>h (Q6 _ z)
  unfold gI at ih ⊢;rw[eA h1];exact ih
theorem GE (D:Int):∀ (far:Kvs) (P:List Int),Wf far->(far.map Prod.fst).Nodup->(∀ v b,gI far v=some b->v<P.length)->fn (far.foldl (mv1 D) P)=mv (fn P) (gI far) D
 | [],P,_,_,_=>rfl
 | x::far,P,wf,nd,lt=>by
  obtain⟨v,b,rfl⟩:=wf x Q9;rw[RN,SX] at nd;have out:=FK nd.1;rw[Mc] at lt ⊢;have vl:v<P.length:=lt v b (aS _ _ _);have e1:mv1 D P (Sum.inl (v:Int),V.int b)=P.set v (fn P v + (D - b)):=by
   unfold mv1;show P.set ((v:Int).toNat) (fn P ((v:Int).toNat) + (D - b))=_;rw[Q7]
  show fn (far.foldl (mv1 D) (mv1 D P (Sum.inl (v:Int),V.int b)))=_;rw[e1,GE D far _ (fun p hp=>wf p (Q6 _ hp)) nd.2 (fun u b' e=>by
   have ne:u≠v:=fun z=>by rw[z,out] at e;cases e
   rw[RD];exact lt u b' (by rw[aK _ _ ne];exact e)),me vl]
  funext u
  unfold mv;by_cases c:u=v
  ·subst c
   rw[out,aS,aS]
  ·rw[aK (gI far) _ c,aK _ _ c]
theorem En {k:Key}{v:V} (h:(kvs.map Prod.fst).Nodup):((aE kvs k v).map Prod.fst).Nodup:=by
 unfold aE;split
 ·have e:(kvs.map fun p=>if p.1=k then(p.1,v) else p).map Prod.fst=kvs.map Prod.fst:=by
   rw[Ss];refine SH fun p _=>?_
   show(if p.1=k then(p.1,v) else p).1=p.1;split <;> rfl
  first|exact e ▸ h|(rw[Ss];refine(SH (g:=Prod.fst) fun p _=>?_) ▸ h;show(if _ then _ else _:Key×V).1=p.1;split <;> rfl)
 ·rename_i hc
  rw[Q2];refine UD.mpr ⟨h,by simp,fun x hx y hy=>?_⟩;rw[RN,List.map_nil,S1] at hy;rw[hy];rintro rfl
  obtain⟨p,hp,e⟩:=List.mem_map.mp hx;exact hc (List.any_eq_true.mpr ⟨p,hp,Ro e⟩)
def NNc (kvs:Kvs):Prop:=∀ x i,gI kvs x=some i->0<=i
theorem rlx_nn {far:Kvs}{a:Int}{s:Kvs×Kvs} (h:NNc s.2):NNc (rlx ws c far x a s st).2:=by
 unfold rlx;split
 ·intro y i e
  rw[show gI (aE s.2 (Sum.inl ((ac (wn ws c) st.1 x:Nat):Int)) (.int (st.1:Nat)))=_ from iU _ _ _] at e;by_cases z:y=ac (wn ws c) st.1 x
  ·rw[z,aS] at e
   cases e
   omega
  ·rw[aK _ _ z] at e
   exact h y i e
 ·exact h
theorem Go {ws:List Wt}{c:Nat}{far:Kvs}{x:Nat}{a:Int}:∀ (st:List (Nat×Int)){s:Kvs×Kvs},NNc s.2->NNc (st.foldl (rlx ws c far x a) s).2
 | [],_,h=>h
 | t::st,_,h=>Go st (rlx_nn (st:=t) h)
theorem EX {ws:List Wt}{c:Nat}{P fl nd:List Int}:∀ k,NNc (itr (turn ws c P fl) k ([],w0 nd c,[])).2.2/\((itr (turn ws c P fl) k ([],w0 nd c,[])).1.map Prod.fst).Nodup
 | 0=>⟨fun x i e=>(by cases e),Sm⟩
 | k + 1=>by
  obtain⟨h1,h2⟩:=EX (ws:=ws) (c:=c) (P:=P) (fl:=fl) (nd:=nd) k;have sj:itr (turn ws c P fl) (k + 1) ([],w0 nd c,[])=turn ws c P fl (itr (turn ws c P fl) k ([],w0 nd c,[])):=rfl;rw[sj];generalize itr (turn ws c P fl) k ([],w0 nd c,[])=S at h1 h2 ⊢;exact⟨Go _ h1,En h2⟩
theorem kT.nn {P fl:List Int}{k:Nat}{far cm:Kvs} (h:kT ws c P fl nd k x far cm):NNc cm/\(far.map Prod.fst).Nodup:=by
 obtain⟨h1,h2⟩:=EX (ws:=ws) (c:=c) (P:=P) (fl:=fl) (nd:=nd) k;rw[h.cm,h.far];exact⟨h1,En h2⟩
theorem kT.uniq {P fl:List Int}{k k' x':Nat}{far cm og zA:Kvs} (h:kT ws c P fl nd k x far cm) (h':kT ws c P fl nd k' x' og zA):x=x'/\far=og/\cm=zA:=by
 have e:k=k':=by
  rcases S7 k k' with z|z|z
  ·have:=h'.no k z
   rw[<- h.at_] at this;exact absurd h.pos this
  ·exact z
  ·have:=h.no k' z
   rw[<- h'.at_] at this;exact absurd h'.pos this
 subst e;exact⟨h.at_.trans h'.at_.symm,h.far.trans h'.far.symm,h.cm.trans h'.cm.symm⟩
abbrev S3:=List Int×List Int×List Int
def Snd (ws:List Wt) (c:Nat) (s s':S3):Prop:=∃ j x far cm k am D,kT ws c s.1 s.2.1 s.2.2 j x far cm/\gI far x=some D/\cI cm (itr (bc (wn ws c) (cI cm)) k x)=none/\(∀ i,i<k->(cI cm (itr (bc (wn ws c) (cI cm)) i x)).isSome=true) /\
 am∈amL (wn ws c) (fn s.2.1) (fn s.2.2) (wyL (wn ws c) (cI cm) x k) x (itr (bc (wn ws c) (cI cm)) k x)/\(∀ y∈amL (wn ws c) (fn s.2.1) (fn s.2.2) (wyL (wn ws c) (cI cm) x k) x (itr (bc (wn ws c) (cI cm)) k x),am<=y) /\
 s'=(far.foldl (mv1 D) s.1,(wyL (wn ws c) (cI cm) x k).foldl (st1 (wn ws c) am) s.2.1,ndS s.2.2 (itr (bc (wn ws c) (cI cm)) k x) x am)
theorem Snd.uniq {ws:List Wt}{c:Nat}{s t u:S3} (h:Snd ws c s t) (h':Snd ws c s u):t=u:=by
 obtain⟨j,x,far,cm,k,am,D,h1,h2,h3,h4,h5,h6,rfl⟩:=h;obtain⟨j',x',og,zA,k',Bz,D',g1,g2,g3,g4,g5,g6,rfl⟩:=h';obtain⟨rfl,rfl,rfl⟩:=h1.uniq g1;have e:k=k':=by
  rcases S7 k k' with z|z|z
  ·have:=g4 k z
   rw[h3] at this;cases this
  ·exact z
  ·have:=h4 k' z
   rw[g3] at this;cases this
 subst e;have e2:am=Bz:=by
  have:=h6 Bz g5;have:=g6 am h5;omega
 subst e2;rw[h2] at g2;cases g2
 rfl
theorem As (N:Wn) (cm:Nat->Option Nat) (e k:Nat):(wyL N cm e k).length=k:=by
 unfold wyL;rw[QT,RU]
theorem Ft {N:Wn}{cm:Nat->Option Nat}{x:Nat}{am:Int}{fl:List Int}:∀ k,(∀ i,i<k->cn cm (itr (bc N cm) i x)<fl.length)->fn ((wyL N cm x k).foldl (st1 N am) fl)=fs N cm x am (fn fl) k
 | 0,_=>rfl
 | k + 1,h=>by
  have ih:=Ft (N:=N) (cm:=cm) (x:=x) (am:=am) (fl:=fl) k fun i hi=>h i (by omega)
  have l:=vj N am (wyL N cm x k) fl;rw[AT,RT];show fn (st1 N am ((wyL N cm x k).foldl (st1 N am) fl) (cn cm (itr (bc N cm) k x),((itr (bc N cm) k x:Nat):Int)))=up (fs N cm x am (fn fl) k) _ _;have hk:=h k (by omega);rw[<- l] at hk;rw[<- ih];generalize (wyL N cm x k).foldl (st1 N am) fl=g at hk ⊢;unfold st1;show fn (g.set (cn cm (itr (bc N cm) k x)) _)=_;rw[me hk];have e:(if ((N.ot (cn cm (itr (bc N cm) k x)):Nat):Int)=((itr (bc N cm) k x:Nat):Int) then am else 0 - am)=if N.ot (cn cm (itr (bc N cm) k x))=itr (bc N cm) k x then am else 0 - am:=by
   by_cases z:N.ot (cn cm (itr (bc N cm) k x))=itr (bc N cm) k x
   ·rw[if_pos z,if_pos (by rw[z])]
   ·rw[if_neg z,if_neg (show ¬ ((N.ot (cn cm (itr (bc N cm) k x)):Nat):Int)=((itr (bc N cm) k x:Nat):Int) by omega)]
  show up _ _ (_ + (if ((N.ot (cn cm (itr (bc N cm) k x)):Nat):Int)=((itr (bc N cm) k x:Nat):Int) then am else 0 - am))=_;rw[e]
theorem DI {s:Nat} (hs:s<nd.length) (he:e<nd.length) (p:Nat):fn (ndS nd s e am) p=fn nd p + (if s=p then am else 0) - (if e=p then am else 0):=by
 unfold ndS;rw[me (by rw[RD];exact he),me hs];by_cases c1:p=e
 ·subst c1
  rw[aS,if_pos rfl];by_cases c2:p=s
  ·subst c2
   rw[aS,if_pos rfl]
  ·rw[aK _ _ c2,if_neg (Ne.symm c2)]
   omega
 ·rw[aK _ _ c1,if_neg (Ne.symm c1)]
  by_cases c2:p=s
  ·subst c2
   rw[aS,if_pos rfl];omega
  ·rw[aK _ _ c2,if_neg (Ne.symm c2)]
   omega
theorem Snd.keeps {P fl:List Int} (ok:(wn ws c).Ok) (jv:P.length=c) (iI:fl.length=ws.length) (c7:nd.length=c) (ti:Ti (wn ws c) (fn P) (fn fl)) (hnd:∀ v,v<c->fn nd v=bal (wn ws c) eQ v - bal (wn ws c) (fn fl) v)
  {far cm:Kvs}{k:Nat} (sr:kT ws c P fl nd j x far cm) (j6:Wf far) (se:Se (wn ws c) (fn P) (fn fl) (fn nd) (gI far) wt (cI cm) rk size (fun q _ _=>q≠x/\gI far q≠none)) (gx:gI far x=some D) (mx:∀ q b,gI far q=some b->b<=D) (wl:∀ q b,wt q=some b->D<=b)
  (sw:cI cm (itr (bc (wn ws c) (cI cm)) k x)=none) (cs:∀ i,i<k->(cI cm (itr (bc (wn ws c) (cI cm)) i x)).isSome=true)
  (hm:am∈amL (wn ws c) (fn fl) (fn nd) (wyL (wn ws c) (cI cm) x k) x (itr (bc (wn ws c) (cI cm)) k x)) (iF:∀ y∈amL (wn ws c) (fn fl) (fn nd) (wyL (wn ws c) (cI cm) x k) x (itr (bc (wn ws c) (cI cm)) k x),am<=y) :
  Ti (wn ws c) (fn (far.foldl (mv1 D) P)) (fn ((wyL (wn ws c) (cI cm) x k).foldl (st1 (wn ws c) am) fl)) /\
  (∀ v,v<c->fn (ndS nd (itr (bc (wn ws c) (cI cm)) k x) x am) v=bal (wn ws c) eQ v - bal (wn ws c) (fn ((wyL (wn ws c) (cI cm) x k).foldl (st1 (wn ws c) am) fl)) v) /\
  mw (wn ws c) (fn (ndS nd (itr (bc (wn ws c) (cI cm)) k x) x am))<mw (wn ws c) (fn nd):=by
 obtain⟨nn,lO⟩:=sr.nn;have xc:x<c:=(se.nn x D (.inl gx)).2;obtain⟨as,uI⟩:=se.way gx k;have sc:itr (bc (wn ws c) (cI cm)) k x<c:=(se.nn _ _ (.inl uI)).2;have rY:=se.root uI sw;have BL:∀ i,i<k->∃ d b a,Arc (wn ws c) (fn P) (fn fl) (ac (wn ws c) (cn (cI cm) (itr (bc (wn ws c) (cI cm)) i x)) (itr (bc (wn ws c) (cI cm)) i x)) (itr (bc (wn ws c) (cI cm)) i x) (cn (cI cm) (itr (bc (wn ws c) (cI cm)) i x)) d/\gI far (ac (wn ws c) (cn (cI cm) (itr (bc (wn ws c) (cI cm)) i x)) (itr (bc (wn ws c) (cI cm)) i x))=some b/\a=b + d/\ac (wn ws c) (cn (cI cm) (itr (bc (wn ws c) (cI cm)) i x)) (itr (bc (wn ws c) (cI cm)) i x)≠itr (bc (wn ws c) (cI cm)) i x:=fun i hi=>by
  obtain⟨a,ea⟩:=se.way gx i;obtain⟨d,b,A,fb,e,ne,_⟩:=se.back ea (iR (cs i hi));exact⟨d,b,a,A,fb,e,ne⟩
 have lt:∀ i,i<k->cn (cI cm) (itr (bc (wn ws c) (cI cm)) i x)<fl.length:=fun i hi=>by
  obtain⟨d,b,a,A,_⟩:=BL i hi;rw[iI];exact A.1
 have mem:∀ i,i<k->(wn ws c).on (cn (cI cm) (itr (bc (wn ws c) (cI cm)) i x))=itr (bc (wn ws c) (cI cm)) i x->am<=fn fl (cn (cI cm) (itr (bc (wn ws c) (cI cm)) i x)):=fun i hi e=>by
  refine iF _ (Q6 _ (Q6 _ (List.mem_map.mpr ⟨(cn (cI cm) (itr (bc (wn ws c) (cI cm)) i x),((itr (bc (wn ws c) (cI cm)) i x:Nat):Int)),List.mem_filter.mpr ⟨?_,Ro (by rw[e])⟩,O⟩)));unfold wyL;exact List.mem_map.mpr ⟨i,List.mem_range.mpr hi,O⟩
 have HH:am<=fn nd x:=iF _ Q9;have Iq:am<=0 - fn nd (itr (bc (wn ws c) (cI cm)) k x):=iF _ (Q6 _ Q9);have lE:0<am:=by
  unfold amL at hm;rcases Rp.mp hm with z|z
  ·rw[z]
   exact sr.pos
  ·rcases Rp.mp z with z|z
   ·rw[z]
    omega
   ·obtain⟨⟨n,d⟩,h1,h2⟩:=List.mem_map.mp z
    obtain⟨h1,h3⟩:=List.mem_filter.mp h1;unfold wyL at h1;obtain⟨i,hi,e⟩:=List.mem_map.mp h1;cases e
    obtain⟨d,b,a,A,_,_,ne⟩:=BL i (List.mem_range.mp hi);have on:(wn ws c).on (cn (cI cm) (itr (bc (wn ws c) (cI cm)) i x))=itr (bc (wn ws c) (cI cm)) i x:=Int.ofNat.inj (Rj h3);obtain⟨_,⟨p1,p2,_⟩|⟨_,_,p3,_⟩⟩:=A
    ·exact absurd (p1.symm.trans on) ne
    ·rw[<- h2]
     exact p3
 have Hn:=se.moved ti gx mx wl;have Ix:=se.sent_ti gx Hn (SG lE) k cs mem;have Cq:=Ft (am:=am) (fl:=fl) k lt;refine⟨?_,fun v hv=>?_,Pr sc xc lE HH Iq fun p hp=>?_⟩
 ·rw[Cq,GE D far P j6 lO (fun v b e=>by rw[jv];exact(se.nn v b (.inl e)).2)]
  exact Ix
 ·rw[Cq,se.sent_bal gx v k cs,DI (by omega) (by omega),hnd v hv]
  omega
 ·exact DI (by omega) (by omega) p
section
variable {K:PySem.W.Frag}
def spOnce (t:Adr):Sp:=fun vs H Q _=>∃ q r ws c p fl nd eQ,∃ k0:Nat,vs=[.ref q]/\bI t.Layout H q r ws c/\H r.p=some (.lst ((p:List Int).map V.int))/\p.length=c/\H r.f=some (.lst ((fl:List Int).map V.int))/\fl.length=ws.length/\H r.n=some (.lst ((nd:List Int).map V.int))/\nd.length=c/\(wn ws c).Ok/\ws.length<=200/\c<=200 /\
 Ti (wn ws c) (fn p) (fn fl)/\(∀ n,n<ws.length->0<=eQ n)/\(∀ v,v<c->fn nd v=bal (wn ws c) eQ v - bal (wn ws c) (fn fl) v)/\k0<c/\0<fn nd k0/\H t.tb_search=some (.tbl oz oH) /\
 ∀ p' dN bo H',Kx [r.p,r.f,r.n] H H'->H' r.p=some (.lst ((p':List Int).map V.int))->H' r.f=some (.lst ((dN:List Int).map V.int))->H' r.n=some (.lst ((bo:List Int).map V.int))->Snd ws c (p,fl,nd) (p',dN,bo) ->
  p'.length=c->dN.length=ws.length->bo.length=c->Ti (wn ws c) (fn p') (fn dN)->(∀ v,v<c->fn bo v=bal (wn ws c) eQ v - bal (wn ws c) (fn dN) v)->mw (wn ws c) (fn bo)<mw (wn ws c) (fn nd)->Q .non H'
theorem Od (T:Tx K mg a):Cal P w K mg base CX0 5 "send_once" ["layout"] [] (spOnce a):=T.d_send_once.cal fun f fd F=>by
 have i8:=Lu (P:=P) (w:=w) (base:=base) T;have fY:=ok_way (P:=P) (w:=w) (base:=base) T;have dW:=Po (P:=P) (w:=w) (base:=base) T;refine F.ok p0 (fun vs H Q E h=>?_) (fun aA A outer s H vs Q E hr h=>?_)
 ·obtain⟨q,r,ws,c,p,fl,nd,eQ,k0,rfl,_⟩:=h
  rfl
 ·obtain⟨q,r,ws,c,p,fl,nd,eQ,k0,rfl,L,hp,jv,hf,iI,hn,c7,ok,hw,fX,ti,rN,hnd,xp,nN,iZ,k⟩:=h
  refine⟨_,(aq (aQ (i:=1) p0.nd O (.inl O) mC)
   (aq (aQ (i:=2) p0.nd O (.inl O) mC)
   (aq (aQ (i:=3) p0.nd O (.inl O) (a7 i8 (hr.mono (by decide)) rfl (af (pv 0) (af (pv 1) (af (pv 2) ak)))))
   (aq (cV PassesOwn.never rfl (Ge (pU PySem.F.plainAttrs_dict PySem.F.slot_dict_items PySem.F.type_dict_items DY (pv 1))) (fD rfl (aO (az (i:=4) p0.nd O (.inl O)) (aO (az (i:=5) p0.nd O (.inl O)) cz))) (aB (o8 (bG (pv 0) O) (pv 4) oY (aI iq (cH (bb hr) (pv 1) (pv 3) (fun _ _=>O)) (pv 5)) tf kL)))
   (aB (eJ (a7 dW (hr.mono (by decide)) rfl (af (pv 0) (af (a7 fY (hr.mono (by decide)) rfl (af (pv 0) (af (pv 2) (af (pv 3) ak)))) (af (pv 3) ak)))))))))),?_⟩
  refine fun fA lL=>?_
  have s1:ae H (upd H fA (.dK [])):=ae.new lL;have f1:upd H fA (.dK []) fA=some (.dK []):=ah;generalize upd H fA (.dK [])=H1 at s1 f1 ⊢;refine fun cA zr=>?_
  have nC:fA≠cA:=ap f1 zr;have s2:ae H (upd H1 cA (.dK [])):=s1.trans (ae.new zr);have f2:upd H1 cA (.dK []) fA=some (.dK []):=by rw[ai nC];exact f1
  have c2:upd H1 cA (.dK []) cA=some (.dK []):=ah;have Cg:H cA=none:=none_of s1 zr;generalize upd H1 cA (.dK [])=H2 at s2 f2 c2 ⊢;refine⟨_,O,_,O,_,O,q,r,ws,c,p,fl,nd,fA,cA,eQ,k0,O,L.same s2,s2 _ _ hp,jv,s2 _ _ hf,iI,s2 _ _ hn,c7,ok,hw,fX,f2,c2,nC,ti,rN,hnd,xp,nN,s2 _ _ iZ,fun j x far cm H3 fj sr lN pR j6 wO lf lc GZ=>?_⟩;obtain⟨wt,rk,size,D,hsz,se,gx,mx,wl⟩:=GZ;obtain⟨nn,lO⟩:=sr.nn;have JU:Kx [r.p] H H3:=fun b o e _=>fj b o (s2 b o e) fun y=>by
   rcases Rp.mp y with y|y
   ·rw[y,lL] at e
    cases e
   ·rw[S1.mp y,Cg] at e
    cases e
  have p3:H3 r.p=some (.lst (p.map V.int)):=fj _ _ (s2 _ _ hp) fun y=>by
   rcases Rp.mp y with y|y
   ·rw[y,lL] at hp
    cases hp
   ·rw[S1.mp y,Cg] at hp
    cases hp
  refine⟨_,O,.inr (.inr (.inl ⟨O,.inl ⟨_,lN⟩⟩)),fA,far,O,O,lN,fun vw fL=>⟨vw,fA,far,O,ah,by rw[ai (ap lN fL)];exact lN,fun o=>?_⟩⟩;have JV:r.p≠vw:=ap p3 fL;have y9:r.p≠fA:=kU p3 lN (by intro z;cases z);have Qn:fA≠vw:=ap lN fL;have JP:cA≠vw:=ap pR fL;have f4:upd (upd H3 vw (iQ vw fA)) fA (.frz o (.dK far)) fA=some (.frz o (.dK far)):=ah;have p4:upd (upd H3 vw (iQ vw fA)) fA (.frz o (.dK far)) r.p=some (.lst (p.map V.int)):=by rw[ai y9,ai JV];exact p3
  have c4:upd (upd H3 vw (iQ vw fA)) fA (.frz o (.dK far)) cA=some (.dK cm):=by rw[ai (Ne.symm nC),ai JP];exact pR
  have xg:Kx [r.p] H (upd (upd H3 vw (iQ vw fA)) fA (.frz o (.dK far))):=fun b u e z=>by
   have e3:=JU b u e z;rw[ai (fun y=>by rw[y,lL] at e;cases e),ai (ap e3 fL)];exact e3
  generalize upd (upd H3 vw (iQ vw fA)) fA (.frz o (.dK far))=H4 at f4 p4 c4 xg ⊢;have lay:∀ G,Kx [r.p] H4 G->bI a.Layout G q r ws c:=fun G kx=>L.kx (xg.trans kx) fun y hy=>.inl (S1.mp hy)
  have xP:∀ v b,gI far v=some b->v<c:=fun v b e=>(se.nn v b (.inl e)).2
  refine Gu (d:=fA) (o:=o) (kvs:=far) (fun i σ G=>∃ v4 v5,σ=[some (.ref q),some (.ref fA),some (.ref cA),some (.int (x:Nat)),v4,v5]/\Kx [r.p] H4 G/\G r.p=some (.lst (((far.take i).foldl (mv1 D) p).map V.int)))
   ⟨none,none,rfl,Kx.of (ae.refl _),p4⟩ ?_ ?_ ?_
  ·rintro i σ G _ ⟨_,_,rfl,kx,_⟩
   exact kx _ _ f4 (by simp[Ne.symm y9])
  ·rintro i key y tt σ G hy nt ⟨v4,v5,rfl,kx,hG⟩
   obtain⟨v,b,Ia⟩:=j6 _ (Q0 hy);cases Ia
   obtain⟨v',b',e1,e2⟩:=j6.has (Q0 hy);have e1:(Sum.inl (v:Int):Key)=Sum.inl ((v':Nat):Int):=e1;have vv:v=v':=by
    injection e1 with z
    exact Int.ofNat.inj z
   have vc:v<c:=xP v b' (by rw[vv];exact e2);have s3:ae G (upd G tt (.tup [kV (Sum.inl (v:Int)),.int b])):=ae.new nt;have h3:upd G tt (.tup [kV (Sum.inl (v:Int)),.int b]) tt=some (.tup [.int (v:Nat),.int b]):=ah;generalize upd G tt (.tup [kV (Sum.inl (v:Int)),.int b])=G3 at s3 h3 ⊢;have fj:Kx [r.p] H4 G3:=kx.trans (Kx.of s3);have LG:=lay G3 fj;obtain⟨cE,gL⟩:=LG.ex;have gU:=s3 _ _ hG;have ml:=Bm D (far.take i) p;have fo:(far.take (i + 1)).foldl (mv1 D) p=mv1 D ((far.take i).foldl (mv1 D) p) (Sum.inl (v:Int),V.int b):=by rw[zam hy,RT];rfl
   rw[fo];generalize (far.take i).foldl (mv1 D) p=now at gU ml ⊢;have vl:v<now.length:=by omega
   have fG:G3 fA=some (.frz o (.dK far)):=fj _ _ f4 (by simp[Ne.symm y9]);have sq:mv1 D now (Sum.inl (v:Int),V.int b)=now.set v (fn now v + (D - b)):=by
    unfold mv1;show now.set ((v:Int).toNat) (fn now ((v:Int).toNat) + (D - b))=_;rw[Q7]
   rw[sq];refine⟨tt,_,O,SqT.of h3,O,_,_,O,_,_,O,O,?_⟩;refine⟨_,O,q,a.Layout,cE,_,_,O,gL,T.c_Layout,T.na_Layout_places,oQ,_,O,r.p,_,_,_,O,O,SqL.of gU,by omega,tR vl,?_⟩;refine⟨_,O,_,O,fA,.int D,O,.inl ⟨far,Sum.inl (x:Int),.inr ⟨o,fG⟩,O,by rw[j6.val x,gx];rfl⟩,_,O,_,_,O,O,_,_,O,O,r.p,_,_,_,O,O,gU,jF (by omega) (by rw[QT];omega),?_⟩;rw[Q7,<- Sr];exact⟨_,_,O,fj.trans (Kx.upd (by simp)),ah⟩
  ·rintro σ G ⟨v4,v5,rfl,kx,hG⟩
   rw[Rf] at hG;have xr:Kx [r.p] H G:=xg.trans kx;have KI:cA≠r.p:=kU c4 p4 (by intro z;cases z);have cG:G cA=some (.dK cm):=kx _ _ c4 (by simp[KI]);have LG:=lay G kx;have way:∀ i,(cI cm (itr (bc (wn ws c) (cI cm)) i x)).isSome=true->cn (cI cm) (itr (bc (wn ws c) (cI cm)) i x)<ws.length/\rk (itr (bc (wn ws c) (cI cm)) (i + 1) x)<rk (itr (bc (wn ws c) (cI cm)) i x):=fun i hi=>by
    obtain⟨a1,ea⟩:=se.way gx i;obtain⟨d,b,A,_⟩:=se.back ea (iR hi);exact⟨A.1,se.falls gx hi⟩
   have Qe:rk x<size:=se.rk x D gx;refine⟨_,O,_,O,_,O,_,O,q,r,ws,c,cA,cm,rk,x,O,LG,cG,wO,nn,way,by omega,fun kk g xs H5 s5 ng hg aR sw cs mU=>?_⟩;have xc:x<c:=(se.nn x D (.inl gx)).2;obtain⟨as,uI⟩:=se.way gx kk;have sc:itr (bc (wn ws c) (cI cm)) kk x<c:=(se.nn _ _ (.inl uI)).2;have bE:0<kk:=by
    rcases Tt kk with z|z
    ·subst z
     have:=se.root gx sw;have:=sr.pos;omega
    ·exact z
   obtain⟨k',rfl⟩:∃ k',kk=k' + 1:=⟨kk - 1,by omega⟩;have fG:G r.f=some (.lst (fl.map V.int)):=xr _ _ hf (by simp[Ne.symm L.pf]);have nG:G r.n=some (.lst (nd.map V.int)):=xr _ _ hn (by simp[Ne.symm L.pn]);have f5:=s5 _ _ fG;have n5:=s5 _ _ nG;have JC:itr (bc (wn ws c) (cI cm)) (k' + 1) x=ac (wn ws c) (cn (cI cm) (itr (bc (wn ws c) (cI cm)) k' x)) (itr (bc (wn ws c) (cI cm)) k' x):=qc (iR (cs k' (by omega)));have keeps:=fun(am:Int)=>Snd.keeps (am:=am) ok jv iI c7 ti hnd sr j6 se gx mx wl sw cs
   have snd:=fun(am:Int) (hm:am∈amL (wn ws c) (fn fl) (fn nd) (wyL (wn ws c) (cI cm) x (k' + 1)) x (itr (bc (wn ws c) (cI cm)) (k' + 1) x)) iF=>(⟨j,x,far,cm,k' + 1,am,D,sr,gx,sw,cs,hm,iF,O⟩:Snd ws c (p,fl,nd) _)
   rw[JC] at keeps snd sc;refine⟨_,O,q,r,ws,c,fl,nd,g,wyL (wn ws c) (cI cm) x (k' + 1),xs,x,cn (cI cm) (itr (bc (wn ws c) (cI cm)) k' x),itr (bc (wn ws c) (cI cm)) k' x,O,LG.same s5,f5,iI,n5,c7,hg,Ne.symm (ap fG ng),Ne.symm (ap nG ng),aR,by rw[As];exact mU,fun y hy=>?_,?_,xc,sc,fun am H6 hm iF sI f6 n6=>?_⟩
   ·unfold wyL at hy
    obtain⟨i,hi,rfl⟩:=List.mem_map.mp hy;exact(way i (cs i (List.mem_range.mp hi))).1
   ·rw[As,AT,show k' + 1 - 1=k' by omega]
    have l:=As (wn ws c) (cI cm) x k';rw[SC (by omega),l,Nat.sub_self];rfl
   ·obtain⟨t1,t2,t3⟩:=keeps am hm iF
    have uC:Kx [r.p,r.f,r.n] H H6:=((xr.mono (by simp)).trans (Kx.of s5)).trans (sI.mono (by simp));refine k _ _ _ H6 uC (sI _ _ (s5 _ _ hG) (by simp[L.pf,L.pn])) f6 n6 (snd am hm iF) (by rw[Bm];exact jv) (by rw[vj];exact iI) ?_ t1 t2 t3;unfold ndS;rw[RD,RD];exact c7
end
abbrev Wi:=Int×Int×Int×Int
def wV (q:Wi):List V:=[.int q.1,.int q.2.1,.int q.2.2.1,.int q.2.2.2]
def wD (q:Wi):Dt:=.tup [.int q.1,.int q.2.1,.int q.2.2.1,.int q.2.2.2]
section
variable {K:PySem.W.Frag}
theorem mB {x:V}{q:Wi} (h:DtV K H (wD q) x):∃ t,x=.ref t/\SqT K H t (wV q):=by
 obtain⟨t,xs,rfl,h1,y1,Dv,rfl,rfl,y2,xA,rfl,rfl,y3,CP,rfl,rfl,y4,Kn,rfl,rfl,h2⟩:=h;rw[show Kn=[] from h2] at h1;exact⟨t,O,h1⟩
def jr (K:PySem.W.Frag) (H:Hp) (l:Addr) (ws:List Wi):Prop:=∃ xs,SqL K H l xs/\aJ K H (ws.map wD) xs
theorem jr.same {l:Addr}{ws:List Wi} (h:jr K H l ws) (s:ae H H'):jr K H' l ws:=by
 obtain⟨xs,h1,h2⟩:=h;exact⟨xs,s.sqL h1,s.dts h2⟩
end
def diff (ps:List Int) (q:Wi):Int:=pz ps q.2.1 - pz ps q.1
def keep (ps:List Int) (q:Wi):Bool:=decide (q.2.2.1<=diff ps q)
def InR (n:Nat) (q:Wi):Prop:=(0<=q.1/\q.1<n)/\0<=q.2.1/\q.2.1<n
def A0 (z:Int):Prop:=-(2 ^ 64)<z/\z<2 ^ 64
section
variable {K:PySem.W.Frag}
end
variable {G G':Hp}{Q:VK}{am ls:List Int}{dx:Addr}{f:Nat->List Nat}{gs:List Addr}{i m:Nat}
def d7 (ls:List Int) (p:Wi×Int):List Int:=(ls.set p.1.2.1.toNat (pz ls p.1.2.1 + p.2)).set p.1.1.toNat (pz (ls.set p.1.2.1.toNat (pz ls p.1.2.1 + p.2)) p.1.1 - p.2)
def bP (n:Nat) (ws:List Wi) (am:List Int):List Int:=(ws.zip am).foldl d7 (List.replicate n 0)
theorem MI (ls:List Int) (p:Wi×Int):(d7 ls p).length=ls.length:=by
 unfold d7;rw[RD,RD]
theorem tH:∀ (ps:List (Wi×Int)) (ls:List Int),(ps.foldl d7 ls).length=ls.length
 | [],_=>rfl
 | p::ps,ls=>by
  show(ps.foldl d7 (d7 ls p)).length=_;rw[tH ps,MI]
theorem vE (n:Nat) (ws:List Wi) (am:List Int):(bP n ws am).length=n:=by
 unfold bP;rw[tH,Rs]
theorem tm {ws:List Wi}{q:Wi}{x:Int} (h1:ws[i]?=some q) (h2:am[i]?=some x):(ws.zip am)[i]?=some (q,x):=by
 rw[Rx];exact⟨h1,h2⟩
theorem iS {x:V} (h:(am.map V.int)[i]?=some x):∃ z,am[i]?=some z/\x=.int z:=by
 obtain⟨z,hz,rfl⟩:=Option.map_eq_some_iff.mp ((Q4 (f:=V.int) (l:=am) (i:=i)).symm.trans h);exact⟨z,hz,O⟩
theorem getZ {k:Int} (h0:0<=k) (h1:k<ls.length):(ls.map V.int)[k.toNat]?=some (.int (pz ls k)):=by
 rw[<- iL h0];exact Bk h0 h1
theorem wq (n:Nat):(List.replicate n [V.int 0]).flatten=(List.replicate n (0:Int)).map V.int:=by
 induction n with
 | zero=>rfl
 | succ n ih=>
  rw[Sj,SD,ih,Sj,RN];rfl
theorem Fd:∀ xs ys:List Int,dm (xs.map Dt.int) (ys.map Dt.int)=decide (xs=ys)
 | [],[]=>rfl
 | [],_::_=>by simp[dm]
 | _::_,[]=>by simp[dm]
 | x::xs,y::ys=>by
  show(eqD (.int x) (.int y) && dm (xs.map Dt.int) (ys.map Dt.int))=_;rw[Fd xs ys];show((x == y) && decide (xs=ys))=_;by_cases h1:x=y
  ·subst h1
   simp
  ·simp[h1]
section
variable {K:PySem.W.Frag}
def spLeft (K:PySem.W.Frag):Sp:=fun vs H Q _=>∃ n l ws p am,vs=[.int n,.ref l,.ref p]/\jr K H l ws/\SqL K H p ((am:List Int).map V.int)/\am.length=ws.length/\0<=n/\n<=1000/\(∀ q∈ws,InR n.toNat q) /\
 ∀ r H',ae H H'->H r=none->H' r=some (.lst ((bP n.toNat ws am).map V.int))->Q (.ref r) H'
theorem Ej (T:Tx K mg a):Cal P w K mg base CX0 1 "left_at_points" ["count","wishes","amounts"] [] (spLeft K):=T.d_left_at_points.cal fun f fd F=>by
 refine F.ok vK (fun vs H Q E h=>?_) (fun aA A outer s H vs Q E hr h=>?_)
 ·obtain⟨n,l,ws,p,am,rfl,_⟩:=h
  rfl
 ·obtain⟨n,l,ws,p,am,rfl,⟨xs,hl,hd⟩,hp,aj,n0,n1,hin,k⟩:=h
  have b9:ws.length=xs.length:=by rw[<- hd.length,QT]
  refine⟨_,(aq (aQ (i:=3) vK.nd O (.inl O) (aI vf (dJ (af au ak)) (pv 0)))
   (aq (cV PassesOwn.never rfl (pc rfl T.n_zip (af (pv 1) (af (pv 2) ak))) (fD rfl (aO (az (i:=4) vK.nd O (.inl O)) (aO (az (i:=5) vK.nd O (.inl O)) cz))) (aq (o8 (pv 3) (aG cf (pv 4) au (fun _ _=>O)) oY (pv 5) tf kL)
   (aB (o8 (pv 3) (aG cf (pv 4) au (fun _ _=>O)) oY (pv 5) FX kL))))
   (aB (bn (pv 3))))),?_⟩
  refine⟨(by show 1<=sizeLine;decide),fun z nz=>⟨_,O,z,n,_,O,O,ah,by omega,by omega,(by rw[Q3];show 1 * n.toNat<=_;omega),fun D nD=>?_⟩⟩;rw[wq];have s1:ae H (upd (upd H z (.lst [V.int 0])) D (.lst ((List.replicate n.toNat (0:Int)).map V.int))):=(ae.new nz).trans (ae.new nD);have h1:upd (upd H z (.lst [V.int 0])) D (.lst ((List.replicate n.toNat (0:Int)).map V.int)) D=some (.lst ((List.replicate n.toNat (0:Int)).map V.int)):=ah;have yh:H D=none:=by
   have:=nD;rw[ai (fun e=>by rw[e,ah] at this;cases this)] at this;exact this
  generalize upd (upd H z (.lst [V.int 0])) D (.lst ((List.replicate n.toNat (0:Int)).map V.int))=H1 at s1 h1 ⊢;have ex:xs.length=(am.map V.int).length:=by rw[QT,aj,b9]
  refine⟨_,O,_,O,l,p,O,⟨_,s1.sqL hl⟩,⟨_,s1.sqL hp⟩,z9 (K:=K) (l1:=l) (l2:=p) (xs:=xs) (ys:=am.map V.int) ex (fun i σ H'=>∃ v4 v5,σ=[some (.int n),some (.ref l),some (.ref p),some (.ref D),v4,v5]/\ae H H'/\H' D=some (.lst ((((ws.zip am).take i).foldl d7 (List.replicate n.toNat 0)).map V.int)))
   ⟨none,none,rfl,s1,h1⟩ ?_ ?_ ?_⟩
  ·rintro i σ H' _ ⟨v4,v5,rfl,sm,_⟩
   exact⟨sm.sqL hl,sm.sqL hp⟩
  ·rintro i x y t σ H' hx hy nt ⟨v4,v5,rfl,sm,hD⟩
   obtain⟨q,hq,dq⟩:=eL hd hx;obtain⟨c,rfl,hc⟩:=mB (sm.dt dq);obtain⟨y,bT,rfl⟩:=iS hy;obtain⟨⟨i1,i2⟩,i3,i4⟩:=hin q (Q0 hq);have s2:ae H' (upd H' t (.tup [.ref c,.int y])):=ae.new nt;have qS:upd H' t (.tup [.ref c,.int y]) t=some (.tup [.ref c,.int y]):=ah;generalize upd H' t (.tup [.ref c,.int y])=H2 at s2 qS ⊢;have bW:=s2 _ _ hD;have fX:=s2.sqT hc;rw[zam (tm hq bT),RT];have mN:(((ws.zip am).take i).foldl d7 (List.replicate n.toNat 0)).length=n.toNat:=by rw[tH,Rs]
   generalize ((ws.zip am).take i).foldl d7 (List.replicate n.toNat 0)=ls at bW mN ⊢;have j3:q.2.1<(ls.length:Int):=by rw[mN];exact i4
   have j1:q.1<((ls.set q.2.1.toNat (pz ls q.2.1 + y)).length:Int):=by rw[RD,mN];exact i2
   refine⟨t,_,O,SqT.of qS,O,_,_,O,_,_,O,O,?_⟩;refine⟨_,O,_,O,c,_,_,_,O,O,fX,O,D,_,_,_,O,O,SqL.of bW,i3,getZ i3 j3,_,O,_,_,O,O,D,_,_,_,O,O,bW,jF i3 (by rw[QT];exact j3),?_⟩;rw[<- Sr];have tk:Tk H2 (upd H2 D (.lst ((ls.set q.2.1.toNat (pz ls q.2.1 + y)).map V.int))):=Tk.upd bW rfl;have h3:upd H2 D (.lst ((ls.set q.2.1.toNat (pz ls q.2.1 + y)).map V.int)) D=some (.lst ((ls.set q.2.1.toNat (pz ls q.2.1 + y)).map V.int)):=ah;have o3:∀ b u,H b=some u->upd H2 D (.lst ((ls.set q.2.1.toNat (pz ls q.2.1 + y)).map V.int)) b=some u:=fun b u e=>by
    rw[ai (ap e yh)];exact s2 _ _ (sm b u e)
   generalize upd H2 D (.lst ((ls.set q.2.1.toNat (pz ls q.2.1 + y)).map V.int))=H3 at tk h3 o3 ⊢;refine⟨_,O,_,O,c,_,_,_,O,O,tk.sqT fX,O,D,_,_,_,O,O,SqL.of h3,i1,getZ i1 j1,_,O,_,_,O,O,D,_,_,_,O,O,h3,jF i1 (by rw[QT];exact j1),?_⟩;rw[<- Sr];refine⟨_,_,O,fun b u e=>?_,ah⟩;rw[ai (ap e yh)];exact o3 b u e
  ·rintro σ H' ⟨v4,v5,rfl,sm,hD⟩
   rw[Rt (by rw[RL];omega)] at hD;exact⟨_,O,k D H' sm yh hD⟩
def Ph (K:PySem.W.Frag):Sp:=fun vs H Q _=>∃ l ws,vs=[.ref l]/\jr K H l ws/\ws.length<=1000/\∀ r H',ae H H'->H r=none->H' r=some (.lst ((ws.map fun q=>q.2.2.2).map V.int))->Q (.ref r) H'
theorem D6 (T:Tx K mg a):Cal P w K mg base CX0 1 "weights_of" ["wishes"] [] (Ph K):=T.d_weights_of.cal fun f fd F=>by
 refine F.ok O0 (fun vs H Q E h=>?_) (fun aA A outer s H vs Q E hr h=>?_)
 ·obtain⟨l,ws,rfl,_⟩:=h
  rfl
 ·obtain⟨l,ws,rfl,⟨xs,hl,hd⟩,hk,k⟩:=h
  have b9:ws.length=xs.length:=by rw[<- hd.length,QT]
  refine⟨_,(aB (bn (cY (N:=["one","other","least","weight"]) (cap:=[none,none,none,none]) O (bM (osc:=aC A4) (XN:=["wishes"]) O O (by decide +kernel)) (bV (pv 0)) (fun cl C s H fp aa=>(jS (K:=K) (n:=4) O O (aO (az (i:=0) (show(["one","other","least","weight"]:List Str).Nodup by decide +kernel) rfl (.inl rfl)) (aO (az (i:=1) (show(["one","other","least","weight"]:List Str).Nodup by decide +kernel) rfl (.inl rfl)) (aO (az (i:=2) (show(["one","other","least","weight"]:List Str).Nodup by decide +kernel) rfl (.inl rfl)) (aO (az (i:=3) (show(["one","other","least","weight"]:List Str).Nodup by decide +kernel) rfl (.inl rfl)) cz)))))) (fun cl C s H fp aa=>cy) (fun cl C s H fp aa=>(pv 3))))),?_⟩;refine⟨_,O,l,O,⟨_,hl⟩,fun D hD=>?_⟩;refine fW (K:=K) (a:=l) (xs:=xs) (fun i τ H'=>∃ v1 v2 v3 v4,τ=[v1,v2,v3,v4]/\ae H H'/\H' D=some (.lst (((ws.take i).map fun q=>q.2.2.2).map V.int))) ⟨none,none,none,none,O,ae.new hD,ah⟩ ?_ ?_ ?_
  ·rintro i τ H' _ ⟨v1,v2,v3,v4,rfl,sm,hy⟩
   exact sm.sqL hl
  ·rintro i x τ H' hx ⟨v1,v2,v3,v4,rfl,sm,hy⟩
   obtain⟨q,hq,dq⟩:=eL hd hx;obtain⟨t,rfl,h1⟩:=mB (sm.dt dq);refine⟨t,_,O,h1,O,_,_,O,_,_,O,_,_,O,_,_,O,O,?_⟩;dsimp only[cK];rw[if_pos rfl];refine⟨_,O,_,hy,?_,_,_,_,_,O,?_,?_⟩
   ·rw[QT,QT,Rb,Q3]
    omega
   ·intro b u e
    rw[ai (ap e hD)];exact sm b u e
   ·rw[ah,zam hq,Q2,Q2]
    rfl
  ·rintro τ H' ⟨v1,v2,v3,v4,rfl,sm,hy⟩
   rw[<- b9,Rf] at hy;exact k D H' sm hD hy
def jT (n:Nat) (ws:List Wi) (fl:List Int):Bool:=decide (fl.length=ws.length) && (!(fl.map fun x=>decide (x<0)).any id && decide (bP n ws fl=bP n ws (ws.map fun q=>q.2.2.2)))
def wa (ws:List Wi) (fl:List Int):Int:=((ws.zip fl).map fun p=>p.2 * p.1.2.2.1).sum
def Ov (K:PySem.W.Frag) (a:Adr):Sp:=fun vs H Q E=>∃ n l ws p fl,vs=[.int n,.ref l,.ref p]/\jr K H l ws/\SqL K H p ((fl:List Int).map V.int)/\ws.length<=1000/\fl.length<=1000/\0<=n/\n<=1000/\(∀ q∈ws,InR n.toNat q/\A0 q.2.2.1) /\
 (jT n.toNat ws fl=true->∀ H',ae H H'->Q (.int (wa ws fl)) H')/\(jT n.toNat ws fl=false->∀ H',ae H H'->E (.ref a.NoFlow) none H')
theorem NI (T:Tx K mg a):Cal P w K mg base (CXe P w) 2 "bound" ["count","wishes","flow"] [] (Ov K a):=T.d_bound.cal fun f fd F=>by
 have aH:=Ej (P:=P) (w:=w) (base:=base) T;have bg:=D6 (P:=P) (w:=w) (base:=base) T;refine F.okX Pb (fun vs H Q E h=>?_) (fun aA A outer s H vs Q E hr h=>?_)
 ·obtain⟨n,l,ws,p,fl,rfl,_⟩:=h
  rfl
 ·obtain⟨n,l,ws,p,fl,rfl,⟨xs,hl,hd⟩,hp,hk,hf,n0,n1,hin,k1,k2⟩:=h
  have b9:ws.length=xs.length:=by rw[<- hd.length,QT]
  refine⟨_,(aq (d6 (PW.pt (kW (cJ qo (bp ek O T.n_len eh (af (pv 2) ak)) (bp ek O T.n_len eh (af (pv 1) ak)) (bH _)) (my (jq (bp EA O T.n_any FT (af (cY (N:=["amount"]) (cap:=[none]) O (bM (osc:=aC wu) (XN:=["count","wishes","flow"]) O O (by decide +kernel)) (bV (pv 2)) (fun cl C s H fp aa=>(az (i:=0) (show(["amount"]:List Str).Nodup by decide +kernel) rfl (.inl rfl))) (fun cl C s H fp aa=>cy) (fun cl C s H fp aa=>(mF tZ (pv 0) au (bH _)))) ak)))))) (aB (AQ oG T.x_NoFlow O T.g_NoFlow)) d9)
   (aq (d6 (cJ (Fu hr.units) (a7 aH (hr.mono (by decide)) rfl (af (pv 0) (af (pv 1) (af (pv 2) ak)))) (a7 aH (hr.mono (by decide)) rfl (af (pv 0) (af (pv 1) (af (a7 bg (hr.mono (by decide)) rfl (af (pv 1) ak)) ak)))) (bH _)) (aB (AQ oG T.x_NoFlow rfl T.g_NoFlow)) d9)
   (aB (bn (bp Bb rfl T.n_sum AL (af (cY (N:=["wish","amount"]) (cap:=[none,none]) O (bM (osc:=aC wu) (XN:=["count","wishes","flow"]) O O (by decide +kernel)) (pc rfl T.n_zip (af (pv 1) (af (pv 2) ak))) (fun cl C s H fp aa=>(jS (K:=K) (n:=2) O O (aO (az (i:=0) (show(["wish","amount"]:List Str).Nodup by decide +kernel) rfl (.inl rfl)) (aO (az (i:=1) (show(["wish","amount"]:List Str).Nodup by decide +kernel) rfl (.inl rfl)) cz)))) (fun cl C s H fp aa=>cy) (fun cl C s H fp aa=>(aI jM (pv 1) (aG (tW (K:=K) O) (pv 0) au (fun _ _=>O))))) ak)))))),?_⟩
  refine⟨_,O,p,_,O,.inl hp,_,O,l,_,O,.inl hl,O,_,O,?_⟩;refine dv (fun c=>?_) (fun c=>?_)
  ·refine eK ⟨by show 0<=sizeLine;decide,k2 ?_ H (ae.refl _)⟩
   have c':¬ fl.length=ws.length:=fun e=>by
    rw[QT,e,b9] at c;simp at c
   unfold jT;rw[RQ c'];rfl
  ·have aj:fl.length=ws.length:=by
    rw[QT,<- b9] at c;have c':(fl.length:Int)=ws.length:=by simpa using c
    omega
   refine⟨_,O,p,O,⟨_,hp⟩,fun D hD=>?_⟩;refine fW (K:=K) (a:=p) (xs:=fl.map V.int) (fun i τ H'=>∃ v1,τ=[v1]/\ae H H'/\H' D=some (.lst (((fl.take i).map fun x=>decide (x<0)).map V.bl))) ⟨none,O,ae.new hD,ah⟩ ?_ ?_ ?_
   ·rintro i τ H' _ ⟨v1,rfl,sm,hy⟩
    exact sm.sqL hp
   ·rintro i x τ H' hx ⟨v1,rfl,sm,hy⟩
    obtain⟨z,hz,rfl⟩:=iS hx;dsimp only[bA,cK];rw[if_pos rfl];refine⟨_,O,_,_,O,O,_,hy,?_,_,O,?_,?_⟩
    ·rw[QT,QT,Rb,Q3]
     omega
    ·intro b u e
     rw[ai (ap e hD)];exact sm b u e
    ·rw[ah,zam hz,Q2,Q2]
     rfl
   rintro τ H1 ⟨v1,rfl,s1,hy⟩
   refine⟨D,_,O,SqL.of hy,_,O,?_⟩;rw[QT,Rf];refine dv (fun c2=>?_) (fun c2=>?_)
   ·refine⟨by show 0<=sizeLine;decide,k2 ?_ H1 s1⟩
    unfold jT;rw[c2];simp
   ·refine⟨_,O,_,O,_,O,n,l,ws,p,fl,O,⟨xs,s1.sqL hl,s1.dts hd⟩,s1.sqL hp,aj,n0,n1,fun q hq=>(hin q hq).1,fun r1 H2 s2 _ h2=>?_⟩
    have t2:=s1.trans s2;refine⟨_,O,_,O,_,O,l,ws,O,⟨xs,t2.sqL hl,t2.dts hd⟩,hk,fun r2 H3 s3 _ h3=>?_⟩;have t3:=t2.trans s3;refine⟨n,l,ws,r2,ws.map fun q=>q.2.2.2,O,⟨xs,t3.sqL hl,t3.dts hd⟩,SqL.of h3,by rw[QT],n0,n1,fun q hq=>(hin q hq).1,fun r3 H4 s4 _ h4=>?_⟩;have t4:=t3.trans s4;refine⟨.lst ((bP n.toNat ws fl).map Dt.int),.lst ((bP n.toNat ws (ws.map fun q=>q.2.2.2)).map Dt.int),O,O,⟨r1,_,O,SqL.of (s4 _ _ (s3 _ _ h2)),tO _⟩,⟨r3,_,O,SqL.of h4,tO _⟩,Fx _,_,O,?_⟩;have e1:eqD (.lst ((bP n.toNat ws fl).map Dt.int)) (.lst ((bP n.toNat ws (ws.map fun q=>q.2.2.2)).map Dt.int))=decide (bP n.toNat ws fl=bP n.toNat ws (ws.map fun q=>q.2.2.2)):=Fd _ _;rw[e1];have eg:jT n.toNat ws fl=decide (bP n.toNat ws fl=bP n.toNat ws (ws.map fun q=>q.2.2.2)):=by
     unfold jT;rw[Ro aj,c2];rfl
    refine dv (fun c3=>?_) (fun c3=>?_)
    ·refine⟨by show 0<=sizeLine;decide,k2 ?_ H4 t4⟩
     rw[eg]
     simpa using c3
    ·have g1:jT n.toNat ws fl=true:=by
      rw[eg]
      simpa using c3
     refine⟨_,O,_,O,l,p,O,⟨_,t4.sqL hl⟩,⟨_,t4.sqL hp⟩,fun D2 bW=>?_⟩;refine AS (K:=K) (l1:=l) (l2:=p) (xs:=xs) (ys:=fl.map V.int) (by rw[QT,aj,b9]) (fun i τ H'=>∃ v1 v2,τ=[v1,v2]/\ae H4 H'/\H' D2=some (.lst ((((ws.zip fl).take i).map fun p=>p.2 * p.1.2.2.1).map V.int))) ⟨none,none,O,ae.new bW,ah⟩ ?_ ?_ ?_
     ·rintro i τ H' _ ⟨v1,v2,rfl,sm,_⟩
      exact⟨sm.sqL (t4.sqL hl),sm.sqL (t4.sqL hp)⟩
     ·rintro i x y t τ H' hx hy nt ⟨v1,v2,rfl,sm,hD⟩
      obtain⟨q,hq,dq⟩:=eL hd hx;obtain⟨c,rfl,hc⟩:=mB (sm.dt (t4.dt dq));obtain⟨y,bT,rfl⟩:=iS hy;have hs:=(hin q (Q0 hq)).2;have s5:ae H' (upd H' t (.tup [.ref c,.int y])):=ae.new nt;have rF:upd H' t (.tup [.ref c,.int y]) t=some (.tup [.ref c,.int y]):=ah;generalize upd H' t (.tup [.ref c,.int y])=H5 at s5 rF ⊢;refine⟨t,_,O,SqT.of rF,O,_,_,O,_,_,O,O,?_⟩;dsimp only[cK];rw[if_pos rfl];refine⟨_,O,_,O,c,_,_,_,O,O,s5.sqT hc,O,_,_,O,O,.inr hs,_,s5 _ _ hD,?_,_,_,O,?_,?_⟩
      ·rw[QT,QT,Rb,RL,Q3]
       omega
      ·intro b u e
       rw[ai (ap e bW)];exact s5 _ _ (sm b u e)
      ·rw[ah,zam (tm hq bT),Q2,Q2]
       rfl
     ·rintro τ H' ⟨v1,v2,rfl,sm,hD⟩
      refine⟨D2,_,O,SqL.of hD,?_⟩;rw[Rt (by rw[RL];omega)];exact k1 g1 H' (t4.trans sm)
end
theorem O5 {α:Type}{b:α}{p:Prop} (e:([]:List α)[i]?=some b):p:=by
 rw[List.getElem?_nil] at e;cases e
def wI (q:Wt):Wi:=((q.1:Nat),(q.2.1:Nat),q.2.2.1,q.2.2.2)
theorem Kx.lst {q b:Addr}{G G':Hp}{C:Addr}{dx:Addr}{fs:List (Str×V)}{xs:List V} (k:Kx [q] G G') (hq:G q=some (.ins C dx fs)) (h:G b=some (.lst xs)):G' b=some (.lst xs):=k _ _ h fun z=>by
 rw[S1.mp z,hq] at h;cases h
theorem Kx.sq {K:PySem.W.Frag}{l:Addr}{fs:List (Str×V)} (k:Kx [q] G G') (hq:G q=some (.ins C dx fs)) (h:SqL K G l xs):SqL K G' l xs:=by
 have ne:∀ o,G l=some o->(∀ C dx fs,o≠.ins C dx fs)->G' l=some o:=fun o e n=>k _ _ e fun z=>by
  rw[S1.mp z,hq] at e;cases e
  exact n _ _ _ rfl
 rcases h with(h|⟨o,h⟩)|h
 ·exact .inl (.inl (ne _ h fun _ _ _ z=>by cases z))
 ·exact .inl (.inr ⟨o,ne _ h fun _ _ _ z=>by cases z⟩)
 ·exact .inr h
theorem Kx.tk {fs:List (Str×V)} (k:Kx [q] G G') (hq:G q=some (.ins C dx fs)):Tk G G':=fun b o e z=>k b o e fun y=>by
 rw[S1.mp y,hq] at e;cases e
 cases z
theorem Kx.none {q b:Addr}{H G:Hp} (k:Kx [q] H G) (e:G b=none) (n:b≠q):H b=none:=by
 cases h:H b with
 | none=>rfl
 | some o=>
  rw[k b o h (by simp[n])] at e;cases e
def Ls (gs:List Addr) (f:Nat->List Nat) (G:Hp):Prop:=∀ i a,gs[i]?=some a->G a=some (.lst (aM (f i)))
theorem Ls.put {a:Addr}{l:List Nat} (h:Ls gs f G) (nd:gs.Nodup) (e:gs[j]?=some a):Ls gs (up f j l) (upd G a (.lst (aM l))):=fun i b eb=>by
 by_cases c:i=j
 ·subst c
  rw[e] at eb;cases eb
  rw[ah,aS]
 ·rw[aK _ _ c,ai (fun z=>c (by
   subst z;exact(UC (List.getElem?_eq_some_iff.mp eb).1 nd).mp (eb.trans e.symm)))]
  exact h i b eb
theorem Ls.keep {a:Addr}{o:HO} (h:Ls gs f G) (n:a∉gs):Ls gs f (upd G a o):=fun i b eb=>by
 rw[ai (fun z=>n (by rw[<- z];exact Q0 eb))];exact h i b eb
def goK (ws:List Wt) (k i:Nat):List Nat:=(List.range k).filter fun n=>decide ((ws.getD n (0,0,0,0)).1=i)
def coK (ws:List Wt) (k i:Nat):List Nat:=(List.range k).filter fun n=>decide ((ws.getD n (0,0,0,0)).2.1=i)
theorem Ob (ws:List Wt) (k:Nat):goK ws (k + 1)=up (goK ws k) (ws.getD k (0,0,0,0)).1 (goK ws k (ws.getD k (0,0,0,0)).1++[k]):=by
 funext i
 unfold goK;rw[T2,Sz];by_cases c:i=(ws.getD k (0,0,0,0)).1
 ·rw[c,aS,RX,if_pos (Ro rfl)]
  rfl
 ·rw[aK _ _ c,RX,if_neg (fun z=>c (Rj z).symm),SL,So]
theorem Pf (ws:List Wt) (k:Nat):coK ws (k + 1)=up (coK ws k) (ws.getD k (0,0,0,0)).2.1 (coK ws k (ws.getD k (0,0,0,0)).2.1++[k]):=by
 funext i
 unfold coK;rw[T2,Sz];by_cases c:i=(ws.getD k (0,0,0,0)).2.1
 ·rw[c,aS,RX,if_pos (Ro rfl)]
  rfl
 ·rw[aK _ _ c,RX,if_neg (fun z=>c (Rj z).symm),SL,So]
theorem LA (ws:List Wt) (k i:Nat):(goK ws k i).length<=k:=by
 have:=RI (fun n=>decide ((ws.getD n (0,0,0,0)).1=i)) (List.range k);rw[RU] at this;exact this
theorem Mx (ws:List Wt) (k i:Nat):(coK ws k i).length<=k:=by
 have:=RI (fun n=>decide ((ws.getD n (0,0,0,0)).2.1=i)) (List.range k);rw[RU] at this;exact this
theorem LN:br "coming" (.ref r.c) (br "going" (.ref r.g) (br "needs" (.ref r.n) (br "flow" (.ref r.f) (br "places" (.ref r.p) (br "leasts" (.ref r.l) (br "others" (.ref r.t) (br "ones" (.ref r.o) [])))))))=bO r:=by
 kernel_rfl
theorem AE {K:PySem.W.Frag}{wA D:Addr} (k:Int) (f:Wt->V) (hl:SqL K H wA xs) (hd:aJ K H ((ws.map wI).map wD) xs) (hw:ws.length<=1000) (hf:∀ w:Wt,atI [.int (w.1:Nat),.int (w.2.1:Nat),.int w.2.2.1,.int w.2.2.2] k=some (f w)) (n:H D=none)
  (h:∀ G,ae H G->G D=some (.lst (ws.map f))->Q (.ref D) G):jK (Itl K wA) D [none] (upd H D (.lst [])) (bA 0) cK (tOp (rIxT K) (tVar 0) (tC (.int k))) Q:=by
 have b9:ws.length=xs.length:=by rw[<- hd.length,QT,QT]
 refine fW (K:=K) (a:=wA) (xs:=xs) (fun j τ G=>∃ v1,τ=[v1]/\ae H G/\G D=some (.lst ((ws.take j).map f))) ⟨none,rfl,ae.new n,ah⟩ ?_ ?_ ?_
 ·rintro j τ G _ ⟨v1,rfl,sg,_⟩
  exact sg.sqL hl
 ·rintro j x τ G hx ⟨v1,rfl,sg,hG⟩
  rw[Ss] at hd;obtain⟨w0,lS,dw⟩:=eL hd hx;obtain⟨t,rfl,ht⟩:=mB (sg.dt dw);dsimp only[bA,cK];rw[if_pos rfl];refine⟨_,O,t,_,_,_,O,O,ht,hf w0,_,hG,?_,_,O,bv n sg,?_⟩
  ·rw[QT,Rb,Q3]
   omega
  ·rw[ah,zam lS,Q2]
   rfl
 rintro τ G ⟨v1,rfl,sg,y⟩
 rw[<- b9,Rf] at y;exact h G sg y
theorem DK {D:Addr} (hc:c<=1000) (n:H D=none) (h:∀ G gs,ae H G->G D=some (.lst ((gs:List Addr).map V.ref))->gs.length=c->gs.Nodup->(∀ (i:Nat) (b:Addr),gs[i]?=some b->G b=some (.lst [])/\H b=none/\b≠D)->Q (.ref D) G):jK (Itr 0 ((c:Nat):Int).toNat) D [none] (upd H D (.lst [])) (bA 0) cK (tLst tNil) Q:=by
 refine wg (lo:=0) (n:=((c:Nat):Int).toNat) (fun j τ G=>∃ v1,∃ gs:List Addr,τ=[v1]/\ae H G/\G D=some (.lst (gs.map V.ref))/\gs.length=j/\gs.Nodup/\∀ i b,gs[i]?=some b->G b=some (.lst [])/\H b=none/\b≠D) ⟨none,[],rfl,ae.new n,ah,rfl,Sm,fun i b e=>O5 e⟩ ?_ ?_
 ·rintro j τ G hj ⟨v1,gs,rfl,sg,hG,gl,nd,m⟩
  rw[Q7] at hj;dsimp only[bA,cK];rw[if_pos rfl];refine⟨(by show 0<=sizeLine;decide),fun z nz=>?_⟩;have zD:z≠D:=fun e=>by rw[e,hG] at nz;cases nz
  refine⟨_,by rw[ai (Ne.symm zD)];exact hG,?_,_,gs++[z],O,bv n (sg.trans (ae.new nz)),?_,by rw[Rm,gl];rfl,?_,fun i b e=>?_⟩
  ·rw[QT,gl,Q3]
   omega
  ·rw[ah,Q2]
   rfl
  ·refine UD.mpr ⟨nd,by simp,fun x hx y hy=>?_⟩
   rw[S1.mp hy];rintro rfl
   obtain⟨i,e⟩:=List.mem_iff_getElem?.mp hx;rw[(m i x e).1] at nz;cases nz
  ·rcases RZ i gs.length with l|l
   ·rw[SV l] at e
    obtain⟨m1,m2,m3⟩:=m i b e;have bz:b≠z:=ap m1 nz;exact⟨by rw[ai m3,ai bz];exact m1,m2,m3⟩
   ·rw[SC l] at e
    have e0:i - gs.length=0:=by
     have:=(List.getElem?_eq_some_iff.mp e).1;rw[T9] at this;omega
    rw[e0] at e;cases e
    exact⟨by rw[ai zD,ah],none_of sg nz,zD⟩
 rintro τ G ⟨v1,gs,rfl,sg,y,gl,nd,m⟩
 rw[Q7] at gl;exact h G gs sg y gl nd m
section
variable {K:PySem.W.Frag}
def spLayI (K:PySem.W.Frag) (C:Addr):Sp:=fun vs H Q _=>∃ q dx wA ws,∃ c:Nat,vs=[.ref q,.int c,.ref wA]/\H q=some (.ins C dx [])/\jr K H wA ((ws:List Wt).map wI)/\(∀ x∈ws,x.1<c/\x.2.1<c)/\ws.length<=1000/\c<=1000 /\
 ∀ r H',Kx [q] H H'->bI C H' q r ws c->H' r.p=some (.lst ((List.replicate c (0:Int)).map V.int))->H' r.f=some (.lst ((List.replicate ws.length (0:Int)).map V.int))->H' r.n=some (.lst ((List.replicate c (0:Int)).map V.int))->H r.p=none->H r.f=none->H r.n=none->Q .non H'
theorem PV (T:Tx K mg a):CalI P w K mg base CX0 1 a.Layout "Layout" ["self","count","wishes"] (spLayI K a.Layout):=T.i_Layout.cal fun f fd F=>by
 refine F.ok AK (fun vs H Q E h=>?_) (fun aA A outer s H vs Q E hr h=>?_)
 ·obtain⟨q,dx,wA,ws,c,rfl,_⟩:=h
  rfl
 ·obtain⟨q,dx,wA,ws,c,rfl,q0,⟨xs,uS,wH⟩,hin,hw,hc,k⟩:=h
  have b9:ws.length=xs.length:=by rw[<- wH.length,QT,QT]
  have sC:Kx [q] H H:=Kx.of (ae.refl _);refine⟨_,(aq (jO (pv 0) (cY (N:=["wish"]) (cap:=[none]) O (bM (osc:=aC oU) (XN:=["self","count","wishes","number","wish"]) O O (by decide +kernel)) (bV (pv 2)) (fun cl C s H fp aa=>(az (i:=0) (show(["wish"]:List Str).Nodup by decide +kernel) rfl (.inl rfl))) (fun cl C s H fp aa=>cy) (fun cl C s H fp aa=>(aG (tW (K:=K) O) (pv 0) au (fun _ _=>O)))) O)
   (aq (jO (pv 0) (cY (N:=["wish"]) (cap:=[none]) O (bM (osc:=aC oU) (XN:=["self","count","wishes","number","wish"]) O O (by decide +kernel)) (bV (pv 2)) (fun cl C s H fp aa=>(az (i:=0) (show(["wish"]:List Str).Nodup by decide +kernel) rfl (.inl rfl))) (fun cl C s H fp aa=>cy) (fun cl C s H fp aa=>(aG (tW (K:=K) O) (pv 0) au (fun _ _=>O)))) O)
   (aq (jO (pv 0) (cY (N:=["wish"]) (cap:=[none]) O (bM (osc:=aC oU) (XN:=["self","count","wishes","number","wish"]) O O (by decide +kernel)) (bV (pv 2)) (fun cl C s H fp aa=>(az (i:=0) (show(["wish"]:List Str).Nodup by decide +kernel) rfl (.inl rfl))) (fun cl C s H fp aa=>cy) (fun cl C s H fp aa=>(aG (tW (K:=K) O) (pv 0) au (fun _ _=>O)))) O)
   (aq (jO (pv 0) (aI vf (dJ (af au ak)) (pv 1)) rfl)
   (aq (jO (pv 0) (aI vf (dJ (af au ak)) (bp ek rfl T.n_len eh (af (pv 2) ak))) rfl)
   (aq (jO (pv 0) (aI vf (dJ (af au ak)) (pv 1)) rfl)
   (aq (jO (pv 0) (cY (N:=["point"]) (cap:=[none]) O (bM (osc:=aC oU) (XN:=["self","count","wishes","number","wish"]) O O (by decide +kernel)) (tI rfl T.n_range (af (pv 1) ak)) (fun cl C s H fp aa=>(az (i:=0) (show(["point"]:List Str).Nodup by decide +kernel) rfl (.inl rfl))) (fun cl C s H fp aa=>cy) (fun cl C s H fp aa=>(dJ ak))) O)
   (aq (jO (pv 0) (cY (N:=["point"]) (cap:=[none]) O (bM (osc:=aC oU) (XN:=["self","count","wishes","number","wish"]) O O (by decide +kernel)) (tI rfl T.n_range (af (pv 1) ak)) (fun cl C s H fp aa=>(az (i:=0) (show(["point"]:List Str).Nodup by decide +kernel) rfl (.inl rfl))) (fun cl C s H fp aa=>cy) (fun cl C s H fp aa=>(dJ ak))) O)
   (aB (cV PassesOwn.never rfl (sT rfl T.n_enumerate (af (pv 2) ak)) (fD rfl (aO (az (i:=3) AK.nd O (.inl O)) (aO (az (i:=4) AK.nd O (.inl O)) cz))) (aq (eJ (iO PySem.F.plainAttrs_list PySem.F.slot_list_append PySem.F.type_list_append mf (aG bx (bG (pv 0) O) (aG cf (pv 4) au (fun _ _=>O)) (fun _ _=>O)) (af (pv 3) ak)))
   (aB (eJ (iO PySem.F.plainAttrs_list PySem.F.slot_list_append PySem.F.type_list_append mf (aG bx (bG (pv 0) rfl) (aG cf (pv 4) au (fun _ _=>O)) (fun _ _=>O)) (af (pv 3) ak))))))))))))))),?_⟩
  refine⟨_,O,wA,O,⟨_,uS⟩,fun oA n0=>?_⟩;refine AE 0 (fun w:Wt=>V.int (w.1:Nat)) uS wH hw (fun _=>O) n0 fun G0 B2 y0=>?_
  refine⟨_,O,q,a.Layout,dx,_,O,B2 _ _ q0,T.c_Layout,T.na_Layout_ones,(by show 0<1000;decide),?_⟩;obtain⟨F1,e1⟩:∃ fs,fs=br "ones" (.ref oA) []:=⟨_,O⟩;rw[<- e1];have l1:F1.length=1:=by
   rw[e1];rfl
  have q1:=ah (H:=G0) (a:=q) (o:=HO.ins a.Layout dx F1);have st0:Kx [q] H (upd G0 q (HO.ins a.Layout dx F1)):=(Kx.of B2).trans (Kx.upd (by simp));have cS:upd G0 q (HO.ins a.Layout dx F1) oA=some (.lst (ws.map (fun w:Wt=>V.int (w.1:Nat)))):=by rw[ai (Ne.symm (ap q0 n0))];exact y0
  generalize upd G0 q (HO.ins a.Layout dx F1)=H1 at q1 st0 cS ⊢;have IM:Kx [q] H H1:=sC.trans st0;have cx:=st0.sq q0 uS;have uy:=(st0.tk q0).dts (cW (fun _=>O) _) wH;refine⟨_,O,wA,O,⟨_,cx⟩,fun tA n1=>?_⟩;refine AE 1 (fun w:Wt=>V.int (w.2.1:Nat)) cx uy hw (fun _=>O) n1 fun G1 Ca y1=>?_
  refine⟨_,O,q,a.Layout,dx,_,O,Ca _ _ q1,T.c_Layout,T.na_Layout_others,(by omega),?_⟩;obtain⟨F2,e2⟩:∃ fs,fs=br "others" (.ref tA) F1:=⟨_,O⟩;rw[<- e2];have l2:F2.length=2:=by
   rw[e2,e1];rfl
  have q2:=ah (H:=G1) (a:=q) (o:=HO.ins a.Layout dx F2);have st1:Kx [q] H1 (upd G1 q (HO.ins a.Layout dx F2)):=(Kx.of Ca).trans (Kx.upd (by simp));have c9:upd G1 q (HO.ins a.Layout dx F2) tA=some (.lst (ws.map (fun w:Wt=>V.int (w.2.1:Nat)))):=by rw[ai (Ne.symm (ap q1 n1))];exact y1
  generalize upd G1 q (HO.ins a.Layout dx F2)=H2 at q2 st1 c9 ⊢;have gM:Kx [q] H H2:=IM.trans st1;have cS:=st1.lst q1 cS;have bY:=st1.sq q1 cx;have bR:=(st1.tk q1).dts (cW (fun _=>O) _) uy;refine⟨_,O,wA,O,⟨_,bY⟩,fun lA n2=>?_⟩;refine AE 2 (fun w:Wt=>V.int w.2.2.1) bY bR hw (fun _=>O) n2 fun G2 B0 y2=>?_
  refine⟨_,O,q,a.Layout,dx,_,O,B0 _ _ q2,T.c_Layout,T.na_Layout_leasts,(by omega),?_⟩;obtain⟨F3,e3⟩:∃ fs,fs=br "leasts" (.ref lA) F2:=⟨_,O⟩;rw[<- e3];have l3:F3.length=3:=by
   rw[e3,e2,e1];rfl
  have q3:=ah (H:=G2) (a:=q) (o:=HO.ins a.Layout dx F3);have iH:Kx [q] H2 (upd G2 q (HO.ins a.Layout dx F3)):=(Kx.of B0).trans (Kx.upd (by simp));have dO:upd G2 q (HO.ins a.Layout dx F3) lA=some (.lst (ws.map (fun w:Wt=>V.int w.2.2.1))):=by rw[ai (Ne.symm (ap q2 n2))];exact y2
  generalize upd G2 q (HO.ins a.Layout dx F3)=H3 at q3 iH dO ⊢;have fj:Kx [q] H H3:=gM.trans iH;have cS:=iH.lst q2 cS;have c9:=iH.lst q2 c9;have rE:=iH.sq q2 bY;have jW:=(iH.tk q2).dts (cW (fun _=>O) _) bR;refine⟨(by show 1<=sizeLine;decide),fun z3 Ds=>⟨_,O,z3,_,_,O,O,ah,by omega,by omega,(by rw[Q3];show 1 * ((c:Nat):Int).toNat<=_;omega),fun pA By=>?_⟩⟩;rw[Q7,wq];have zU:ae H3 (upd (upd H3 z3 (.lst [V.int 0])) pA (.lst ((List.replicate c (0:Int)).map V.int))):=(ae.new Ds).trans (ae.new By);have y3:upd (upd H3 z3 (.lst [V.int 0])) pA (.lst ((List.replicate c (0:Int)).map V.int)) pA=some (.lst ((List.replicate c (0:Int)).map V.int)):=ah;have n3:H3 pA=none:=none_of (ae.new Ds) By;generalize upd (upd H3 z3 (.lst [V.int 0])) pA (.lst ((List.replicate c (0:Int)).map V.int))=G3 at zU y3 ⊢;have qu:=ap q3 n3;have xk:=ap cS n3;have yG:=ap c9 n3;have yX:=ap dO n3;have Hj:H pA=none:=fj.none n3 (Ne.symm qu);refine⟨_,O,q,a.Layout,dx,_,O,zU _ _ q3,T.c_Layout,T.na_Layout_places,(by omega),?_⟩;obtain⟨F4,e4⟩:∃ fs,fs=br "places" (.ref pA) F3:=⟨_,O⟩;rw[<- e4];have l4:F4.length=4:=by
   rw[e4,e3,e2,e1];rfl
  have q4:=ah (H:=G3) (a:=q) (o:=HO.ins a.Layout dx F4);have jw:Kx [q] H3 (upd G3 q (HO.ins a.Layout dx F4)):=(Kx.of zU).trans (Kx.upd (by simp));have fJ:upd G3 q (HO.ins a.Layout dx F4) pA=some (.lst ((List.replicate c (0:Int)).map V.int)):=by rw[ai (Ne.symm (ap q3 n3))];exact y3
  generalize upd G3 q (HO.ins a.Layout dx F4)=H4 at q4 jw fJ ⊢;have eX:Kx [q] H H4:=fj.trans jw;have cS:=jw.lst q3 cS;have c9:=jw.lst q3 c9;have dO:=jw.lst q3 dO;have BW:=jw.sq q3 rE;have lv:=(jw.tk q3).dts (cW (fun _=>O) _) jW;refine⟨(by show 1<=sizeLine;decide),fun z4 zj=>⟨_,O,wA,_,O,.inl ((ae.new zj).sqL BW),z4,_,_,O,O,ah,by omega,by omega,(by rw[Q3];show 1 * ((xs.length:Nat):Int).toNat<=_;omega),fun fA C2=>?_⟩⟩;rw[<- b9];rw[Q7,wq];have y8:ae H4 (upd (upd H4 z4 (.lst [V.int 0])) fA (.lst ((List.replicate ws.length (0:Int)).map V.int))):=(ae.new zj).trans (ae.new C2);have y4:upd (upd H4 z4 (.lst [V.int 0])) fA (.lst ((List.replicate ws.length (0:Int)).map V.int)) fA=some (.lst ((List.replicate ws.length (0:Int)).map V.int)):=ah;have n4:H4 fA=none:=none_of (ae.new zj) C2;generalize upd (upd H4 z4 (.lst [V.int 0])) fA (.lst ((List.replicate ws.length (0:Int)).map V.int))=G4 at y8 y4 ⊢;have rR:=ap q4 n4;have wP:=ap cS n4;have xJ:=ap c9 n4;have zJ:=ap dO n4;have xN:=ap fJ n4;have lC:H fA=none:=eX.none n4 (Ne.symm rR);refine⟨_,O,q,a.Layout,dx,_,O,y8 _ _ q4,T.c_Layout,T.na_Layout_flow,(by omega),?_⟩;obtain⟨F5,e5⟩:∃ fs,fs=br "flow" (.ref fA) F4:=⟨_,O⟩;rw[<- e5];have l5:F5.length=5:=by
   rw[e5,e4,e3,e2,e1];rfl
  have q5:=ah (H:=G4) (a:=q) (o:=HO.ins a.Layout dx F5);have lY:Kx [q] H4 (upd G4 q (HO.ins a.Layout dx F5)):=(Kx.of y8).trans (Kx.upd (by simp));have ie:upd G4 q (HO.ins a.Layout dx F5) fA=some (.lst ((List.replicate ws.length (0:Int)).map V.int)):=by rw[ai (Ne.symm (ap q4 n4))];exact y4
  generalize upd G4 q (HO.ins a.Layout dx F5)=H5 at q5 lY ie ⊢;have iE:Kx [q] H H5:=eX.trans lY;have cS:=lY.lst q4 cS;have c9:=lY.lst q4 c9;have dO:=lY.lst q4 dO;have fJ:=lY.lst q4 fJ;have JM:=lY.sq q4 BW;have jY:=(lY.tk q4).dts (cW (fun _=>O) _) lv;refine⟨(by show 1<=sizeLine;decide),fun z5 CH=>⟨_,O,z5,_,_,O,O,ah,by omega,by omega,(by rw[Q3];show 1 * ((c:Nat):Int).toNat<=_;omega),fun nA Dy=>?_⟩⟩;rw[Q7,wq];have yb:ae H5 (upd (upd H5 z5 (.lst [V.int 0])) nA (.lst ((List.replicate c (0:Int)).map V.int))):=(ae.new CH).trans (ae.new Dy);have y5:upd (upd H5 z5 (.lst [V.int 0])) nA (.lst ((List.replicate c (0:Int)).map V.int)) nA=some (.lst ((List.replicate c (0:Int)).map V.int)):=ah;have n5:H5 nA=none:=none_of (ae.new CH) Dy;generalize upd (upd H5 z5 (.lst [V.int 0])) nA (.lst ((List.replicate c (0:Int)).map V.int))=G5 at yb y5 ⊢;have qL:=ap q5 n5;have wQ:=ap cS n5;have yf:=ap c9 n5;have wM:=ap dO n5;have wJ:=ap fJ n5;have xE:=ap ie n5;have pE:H nA=none:=iE.none n5 (Ne.symm qL);refine⟨_,O,q,a.Layout,dx,_,O,yb _ _ q5,T.c_Layout,T.na_Layout_needs,(by omega),?_⟩;obtain⟨F6,e6⟩:∃ fs,fs=br "needs" (.ref nA) F5:=⟨_,O⟩;rw[<- e6];have l6:F6.length=6:=by
   rw[e6,e5,e4,e3,e2,e1];rfl
  have q6:=ah (H:=G5) (a:=q) (o:=HO.ins a.Layout dx F6);have eW:Kx [q] H5 (upd G5 q (HO.ins a.Layout dx F6)):=(Kx.of yb).trans (Kx.upd (by simp));have jE:upd G5 q (HO.ins a.Layout dx F6) nA=some (.lst ((List.replicate c (0:Int)).map V.int)):=by rw[ai (Ne.symm (ap q5 n5))];exact y5
  generalize upd G5 q (HO.ins a.Layout dx F6)=H6 at q6 eW jE ⊢;have sI:Kx [q] H H6:=iE.trans eW;have cS:=eW.lst q5 cS;have c9:=eW.lst q5 c9;have dO:=eW.lst q5 dO;have fJ:=eW.lst q5 fJ;have ie:=eW.lst q5 ie;have Hq:=eW.sq q5 JM;have Ig:=(eW.tk q5).dts (cW (fun _=>O) _) jY;refine⟨_,O,_,O,by omega,by omega,fun gA n6=>?_⟩;refine DK hc n6 fun G6 bK DA y6 gl6 uG m6=>?_
  have HN:=ap q6 n6;have KE:=ap cS n6;have IW:=ap c9 n6;have Hs:=ap dO n6;have xQ:=ap fJ n6;have xF:=ap ie n6;have zh:=ap jE n6;have yE:=fun i b (e:(bK:List Addr)[i]?=some b)=>ap q6 (m6 i b e).2.1
  have yi:=fun i b (e:(bK:List Addr)[i]?=some b)=>ap cS (m6 i b e).2.1
  have zG:=fun i b (e:(bK:List Addr)[i]?=some b)=>ap c9 (m6 i b e).2.1
  have yA:=fun i b (e:(bK:List Addr)[i]?=some b)=>ap dO (m6 i b e).2.1
  have rK:=fun i b (e:(bK:List Addr)[i]?=some b)=>ap fJ (m6 i b e).2.1
  have qz:=fun i b (e:(bK:List Addr)[i]?=some b)=>ap ie (m6 i b e).2.1
  have sD:=fun i b (e:(bK:List Addr)[i]?=some b)=>ap jE (m6 i b e).2.1
  have x9:=fun i b (e:(bK:List Addr)[i]?=some b)=>Ne.symm (m6 i b e).2.2
  refine⟨_,O,q,a.Layout,dx,_,O,DA _ _ q6,T.c_Layout,T.na_Layout_going,(by omega),?_⟩;obtain⟨F7,e7⟩:∃ fs,fs=br "going" (.ref gA) F6:=⟨_,O⟩;rw[<- e7];have l7:F7.length=7:=by
   rw[e7,e6,e5,e4,e3,e2,e1];rfl
  have q7:=ah (H:=G6) (a:=q) (o:=HO.ins a.Layout dx F7);have jB:Kx [q] H6 (upd G6 q (HO.ins a.Layout dx F7)):=(Kx.of DA).trans (Kx.upd (by simp));have nj:upd G6 q (HO.ins a.Layout dx F7) gA=some (.lst (bK.map V.ref)):=by rw[ai (Ne.symm (ap q6 n6))];exact y6
  have z6:∀ i b,(bK:List Addr)[i]?=some b->upd G6 q (HO.ins a.Layout dx F7) b=some (.lst []):=fun i b e=>by rw[ai (fun z=>by rw[z] at e;exact absurd ((m6 i q e).2.1) (by rw[q6];exact fun y=>by cases y))];exact(m6 i b e).1
  generalize upd G6 q (HO.ins a.Layout dx F7)=H7 at q7 jB nj z6 ⊢;have uC:Kx [q] H H7:=sI.trans jB;have cS:=jB.lst q6 cS;have c9:=jB.lst q6 c9;have dO:=jB.lst q6 dO;have fJ:=jB.lst q6 fJ;have ie:=jB.lst q6 ie;have jE:=jB.lst q6 jE;have IG:=jB.sq q6 Hq;have Ke:=(jB.tk q6).dts (cW (fun _=>O) _) Ig;refine⟨_,O,_,O,by omega,by omega,fun cA n7=>?_⟩;refine DK hc n7 fun G7 bQ BV y7 JN KF m7=>?_
  have Jj:=ap q7 n7;have Iy:=ap cS n7;have Js:=ap c9 n7;have IY:=ap dO n7;have x6:=ap fJ n7;have ya:=ap ie n7;have zN:=ap jE n7;have Jt:=ap nj n7;have xH:=fun i b (e:(bQ:List Addr)[i]?=some b)=>ap q7 (m7 i b e).2.1
  have zR:=fun i b (e:(bQ:List Addr)[i]?=some b)=>ap cS (m7 i b e).2.1
  have yU:=fun i b (e:(bQ:List Addr)[i]?=some b)=>ap c9 (m7 i b e).2.1
  have xZ:=fun i b (e:(bQ:List Addr)[i]?=some b)=>ap dO (m7 i b e).2.1
  have qw:=fun i b (e:(bQ:List Addr)[i]?=some b)=>ap fJ (m7 i b e).2.1
  have qX:=fun i b (e:(bQ:List Addr)[i]?=some b)=>ap ie (m7 i b e).2.1
  have sB:=fun i b (e:(bQ:List Addr)[i]?=some b)=>ap jE (m7 i b e).2.1
  have zv:=fun i b (e:(bQ:List Addr)[i]?=some b)=>ap nj (m7 i b e).2.1
  have xw:=fun i b (e:(bQ:List Addr)[i]?=some b)=>Ne.symm (m7 i b e).2.2
  have yN:=fun i b (e:(bK:List Addr)[i]?=some b)=>Ne.symm (ap (z6 i b e) n7)
  have zV:∀ i b j b',(bK:List Addr)[i]?=some b->(bQ:List Addr)[j]?=some b'->b≠b':=fun i b j b' e e'=>ap (z6 i b e) (m7 j b' e').2.1
  refine⟨_,O,q,a.Layout,dx,_,O,BV _ _ q7,T.c_Layout,T.na_Layout_coming,(by omega),?_⟩;obtain⟨F8,e8⟩:∃ fs,fs=br "coming" (.ref cA) F7:=⟨_,O⟩;rw[<- e8];have q8:=ah (H:=G7) (a:=q) (o:=HO.ins a.Layout dx F8);have iw:Kx [q] H7 (upd G7 q (HO.ins a.Layout dx F8)):=(Kx.of BV).trans (Kx.upd (by simp));have yQ:upd G7 q (HO.ins a.Layout dx F8) cA=some (.lst (bQ.map V.ref)):=by rw[ai (Ne.symm (ap q7 n7))];exact y7
  have z7:∀ i b,(bQ:List Addr)[i]?=some b->upd G7 q (HO.ins a.Layout dx F8) b=some (.lst []):=fun i b e=>by rw[ai (fun z=>by rw[z] at e;exact absurd ((m7 i q e).2.1) (by rw[q7];exact fun y=>by cases y))];exact(m7 i b e).1
  generalize upd G7 q (HO.ins a.Layout dx F8)=H8 at q8 iw yQ z7 ⊢;have py:Kx [q] H H8:=uC.trans iw;have cS:=iw.lst q7 cS;have c9:=iw.lst q7 c9;have dO:=iw.lst q7 dO;have fJ:=iw.lst q7 fJ;have ie:=iw.lst q7 ie;have jE:=iw.lst q7 jE;have nj:=iw.lst q7 nj;have Ku:=iw.sq q7 IG;have nZ:=(iw.tk q7).dts (cW (fun _=>O) _) Ke;have z6:∀ i b,(bK:List Addr)[i]?=some b->H8 b=some (.lst []):=fun i b e=>iw.lst q7 (z6 i b e)
  have eF:F8=bO ⟨oA,tA,lA,pA,fA,nA,gA,cA⟩:=by
   rw[e8,e7,e6,e5,e4,e3,e2,e1];exact LN (r:=⟨oA,tA,lA,pA,fA,nA,gA,cA⟩)
  rw[eF] at q8;have gW:∀ b∈bK++bQ,q≠b/\oA≠b/\tA≠b/\lA≠b/\pA≠b/\fA≠b/\nA≠b/\gA≠b/\cA≠b:=fun b hb=>by
   rcases T0.mp hb with z|z
   ·obtain⟨i,e⟩:=List.mem_iff_getElem?.mp z
    exact⟨yE i b e,yi i b e,zG i b e,yA i b e,rK i b e,qz i b e,sD i b e,x9 i b e,yN i b e⟩
   ·obtain⟨i,e⟩:=List.mem_iff_getElem?.mp z
    exact⟨xH i b e,zR i b e,yU i b e,xZ i b e,qw i b e,qX i b e,sB i b e,zv i b e,xw i b e⟩
  have fresh:∀ b∈bK++bQ,H b=none/\H8 b=some (.lst []):=fun b hb=>by
   have nq:=(gW b hb).1;rcases T0.mp hb with z|z
   ·obtain⟨i,e⟩:=List.mem_iff_getElem?.mp z
    exact⟨sI.none (m6 i b e).2.1 (Ne.symm nq),z6 i b e⟩
   ·obtain⟨i,e⟩:=List.mem_iff_getElem?.mp z
    exact⟨uC.none (m7 i b e).2.1 (Ne.symm nq),z7 i b e⟩
  have rL:∀ b,(∀ c∈bK++bQ,b≠c)->b∉bK++bQ:=fun b h z=>h b z rfl
  have ID:∀ G,Kx (bK++bQ) H8 G->SqL K G wA xs:=fun G kx=>by
   rcases uS with(h|⟨o,h⟩)|h
   ·have e8:=py _ _ h (by simp;rintro rfl;rw[q0] at h;cases h)
    exact .inl (.inl (kx _ _ e8 fun z=>by rw[(fresh _ z).1] at h;cases h))
   ·have e8:=py _ _ h (by simp;rintro rfl;rw[q0] at h;cases h)
    exact .inl (.inr ⟨o,kx _ _ e8 fun z=>by rw[(fresh _ z).1] at h;cases h⟩)
   ·exact .inr h
  have rO:∀ G,Kx (bK++bQ) H8 G->Tk H8 G:=fun G kx b o z1 z2=>kx b o z1 fun y=>by
   rw[(fresh b y).2] at z1;cases z1
   cases z2
  have Dg:∀ b,b∈bK->b∉bQ:=fun b h1 h2=>by
   obtain⟨i,e⟩:=List.mem_iff_getElem?.mp h1;obtain⟨j,e'⟩:=List.mem_iff_getElem?.mp h2;exact zV i b j b e e' rfl
  rw[Ss] at nZ;refine⟨_,O,wA,O,⟨_,Ku⟩,vn (K:=K) (l:=wA) (xs:=xs) (fun i σ G=>∃ v3 v4,σ=[some (.ref q),some (.int (c:Nat)),some (.ref wA),v3,v4]/\Kx (bK++bQ) H8 G/\Ls bK (goK ws i) G/\Ls bQ (coK ws i) G)
   ⟨none,none,rfl,Kx.of (ae.refl _),fun i b e=>z6 i b e,fun i b e=>z7 i b e⟩ ?_ ?_ ?_⟩
  ·rintro i σ G _ ⟨_,_,rfl,kx,_⟩
   exact ID G kx
  ·rintro i x tt σ G hx nt ⟨v3,v4,rfl,kx,lg,lc⟩
   obtain⟨w0,lS,dw⟩:=eL nZ hx;obtain⟨t,rfl,ht⟩:=mB ((rO G kx).dt O dw);obtain⟨i1,i2⟩:=hin w0 (Q0 lS);have hi:i<ws.length:=(List.getElem?_eq_some_iff.mp lS).1;have ew:ws.getD i (0,0,0,0)=w0:=by rw[QV,lS];rfl
   obtain⟨ga,kB⟩:=eB (l:=bK) (j:=w0.1) (by omega);obtain⟨ca,lK⟩:=eB (l:=bQ) (j:=w0.2.1) (by omega);have C9:ga∈bK:=Q0 kB;have CV:ca∈bQ:=Q0 lK;have xW:atI (bK.map V.ref) (w0.1:Int)=some (.ref ga):=by rw[iL (by omega),Q7,Q4,kB];rfl
   have zc:atI (bQ.map V.ref) (w0.2.1:Int)=some (.ref ca):=by rw[iL (by omega),Q7,Q4,lK];rfl
   have s3:ae G (upd G tt (.tup [.int i,.ref t])):=ae.new nt;have h3:upd G tt (.tup [.int i,.ref t]) tt=some (.tup [.int i,.ref t]):=ah;have sP:Ls bK (goK ws i) (upd G tt (.tup [.int i,.ref t])):=fun j b e=>s3 _ _ (lg j b e)
   have B1:Ls bQ (coK ws i) (upd G tt (.tup [.int i,.ref t])):=fun j b e=>s3 _ _ (lc j b e)
   generalize upd G tt (.tup [.int i,.ref t])=G3 at s3 h3 sP B1 ⊢;have fj:Kx (bK++bQ) H8 G3:=kx.trans (Kx.of s3);have q3:G3 q=_:=fj _ _ q8 (rL _ fun b hb=>(gW b hb).1);have g3:G3 gA=_:=fj _ _ nj (rL _ fun b hb=>(gW b hb).2.2.2.2.2.2.2.1);have gl:=LA ws i w0.1;have cl:=Mx ws i w0.2.1;refine⟨tt,_,O,SqT.of h3,O,_,_,O,_,_,O,O,?_⟩;refine⟨_,O,q,a.Layout,dx,_,_,O,q3,T.c_Layout,T.na_Layout_going,GL,_,O,t,_,_,_,O,O,s3.sqT ht,O,gA,_,_,_,O,O,SqL.of g3,xW,.inl ⟨O,_,SqL.of (sP _ _ kB)⟩,_,O,ga,_,_,O,O,sP _ _ kB,?_,?_⟩
   ·unfold aM
    rw[QT,Q3];omega
   have en:aM (goK ws i w0.1)++[V.int (i:Nat)]=aM (goK ws i w0.1++[i]):=by
    unfold aM;rw[Q2];rfl
   rw[en];have eX:Kx (bK++bQ) H8 (upd G3 ga (.lst (aM (goK ws i w0.1++[i])))):=fj.trans (Kx.upd (Ru _ C9));have BM:Ls bK (goK ws (i + 1)) (upd G3 ga (.lst (aM (goK ws i w0.1++[i])))):=by
    rw[Ob,ew];exact sP.put uG kB
   have uE:Ls bQ (coK ws i) (upd G3 ga (.lst (aM (goK ws i w0.1++[i])))):=B1.keep (Dg ga C9);have C7:Tk G3 (upd G3 ga (.lst (aM (goK ws i w0.1++[i])))):=Tk.upd (sP _ _ kB) rfl;generalize upd G3 ga (.lst (aM (goK ws i w0.1++[i])))=G4 at eX BM uE C7 ⊢;have q4:G4 q=_:=eX _ _ q8 (rL _ fun b hb=>(gW b hb).1);have c4:G4 cA=_:=eX _ _ yQ (rL _ fun b hb=>(gW b hb).2.2.2.2.2.2.2.2);refine⟨_,O,q,a.Layout,dx,_,_,O,q4,T.c_Layout,T.na_Layout_coming,Ea,_,O,t,_,_,_,O,O,C7.sqT (s3.sqT ht),O,cA,_,_,_,O,O,SqL.of c4,zc,.inl ⟨O,_,SqL.of (uE _ _ lK)⟩,_,O,ca,_,_,O,O,uE _ _ lK,?_,?_⟩
   ·unfold aM
    rw[QT,Q3];omega
   have en:aM (coK ws i w0.2.1)++[V.int (i:Nat)]=aM (coK ws i w0.2.1++[i]):=by
    unfold aM;rw[Q2];rfl
   rw[en];refine⟨_,_,O,eX.trans (Kx.upd (Q8 _ CV)),BM.keep (fun z=>Dg ca z CV),?_⟩;rw[Pf,ew];exact uE.put KF lK
  ·rintro σ G ⟨v3,v4,rfl,kx,lg,lc⟩
   rw[<- b9] at lg lc;have at_:∀ b o,H8 b=some o->(∀ d∈bK++bQ,b≠d)->G b=some o:=fun b o e n=>kx b o e (rL b n)
   refine k ⟨oA,tA,lA,pA,fA,nA,gA,cA⟩ G (fun b o e z=>?_) ?_ (at_ _ _ fJ fun d hd=>(gW d hd).2.2.2.2.1) (at_ _ _ ie fun d hd=>(gW d hd).2.2.2.2.2.1) (at_ _ _ jE fun d hd=>(gW d hd).2.2.2.2.2.2.1) Hj lC pE
   ·exact kx _ _ (py b o e z) fun y=>by
     rw[(fresh b y).1] at e;cases e
   ·exact⟨⟨dx,at_ _ _ q8 fun d hd=>(gW d hd).1⟩,at_ _ _ cS fun d hd=>(gW d hd).2.1,at_ _ _ c9 fun d hd=>(gW d hd).2.2.1,at_ _ _ dO fun d hd=>(gW d hd).2.2.2.1,
     ⟨bK,at_ _ _ nj fun d hd=>(gW d hd).2.2.2.2.2.2.2.1,gl6,fun i b e=>⟨lg i b e,Ne.symm (rK i b e),Ne.symm (qz i b e),Ne.symm (sD i b e)⟩⟩,
     ⟨bQ,at_ _ _ yQ fun d hd=>(gW d hd).2.2.2.2.2.2.2.2,JN,fun i b e=>⟨lc i b e,Ne.symm (qw i b e),Ne.symm (qX i b e),Ne.symm (sB i b e)⟩⟩,
     ⟨xk,wP,wQ⟩,⟨yG,xJ,yf⟩,⟨yX,zJ,wM⟩,⟨Ne.symm xQ,Ne.symm xF,Ne.symm zh⟩,⟨Ne.symm x6,Ne.symm ya,Ne.symm zN⟩,⟨qu,rR,qL⟩,xN,wJ,xE⟩
end
def mxL:List Int->Int
 | []=>0
 | x::r=>max x (mxL r)
theorem AX:∀ (l:List Int),0<=mxL l/\∀ x∈l,x<=mxL l
 | []=>⟨RF _,fun x h=>by cases h⟩
 | y::r=>by
  obtain⟨h1,h2⟩:=AX r;have e:mxL (y::r)=max y (mxL r):=rfl;rw[e];refine⟨by omega,fun x hx=>?_⟩;rcases Rp.mp hx with z|z
  ·rw[z]
   omega
  ·have:=h2 x z
   omega
theorem vS {m:Int}:∀ (l:List Int),0<=m->(∀ x∈l,x<=m)->mxL l<=m
 | [],h,_=>h
 | y::r,h,hx=>by
  have h1:=vS r h fun x z=>hx x (Q6 _ z)
  have h2:=hx y Q9;have e:mxL (y::r)=max y (mxL r):=rfl;rw[e];omega
def pw:Nat->List Int
 | 0=>[1]
 | m + 1=>16 ^ (m + 1)::pw m
theorem vY:∀ m,(pw m).length=m + 1
 | 0=>rfl
 | m + 1=>by
  show(pw m).length + 1=_;rw[vY m]
theorem N6:∀ m,∃ r,pw m=(16:Int) ^ m::r
 | 0=>⟨[],O⟩
 | m + 1=>⟨pw m,O⟩
def tD (mx:Int) (m:Nat):Prop:=(∀ i,i<m->(16:Int) ^ i * 16<=mx)/\¬ (16:Int) ^ m * 16<=mx
theorem tD.uniq {mx:Int}{m':Nat} (h:tD mx m) (h':tD mx m'):m=m':=by
 rcases S7 m m' with z|z|z
 ·exact absurd (h'.1 m z) h.2
 ·exact z
 ·exact absurd (h.1 m' z) h'.2
theorem Fc (m:Nat):(0:Int)<16 ^ m:=Int.pow_pos (by decide)
theorem p5 (m:Nat):(16:Int) ^ (m + 1)=16 ^ m * 16:=Int.pow_succ _ _
section
variable {K:PySem.W.Frag}
def spFigs (K:PySem.W.Frag):Sp:=fun vs H Q _=>∃ l wt,vs=[.ref l]/\SqL K H l ((wt:List Int).map V.int)/\(∀ x∈wt,0<=x/\x<2 ^ 61)/\∀ m g H',ae H H'->H g=none->H' g=some (.lst ((pw m).map V.int))->tD (mxL wt) m->m<=100->Q (.ref g) H'
theorem On (T:Tx K mg a):Cal P w K mg base CX0 1 "figure_worths" ["weights"] [] (spFigs K):=T.d_figure_worths.cal fun f fd F=>by
 refine F.ok EE (fun vs H Q E h=>?_) (fun aA A outer s H vs Q E hr h=>?_)
 ·obtain⟨l,wt,rfl,_⟩:=h
  rfl
 ·obtain⟨l,wt,rfl,hl,hw,k⟩:=h
  obtain⟨P4,JG⟩:=AX wt;have QF:mxL wt<2 ^ 61:=by
   have:=vS (m:=2 ^ 61 - 1) wt (by decide) fun x hx=>by
    have:=(hw x hx).2;omega
   omega
  refine⟨_,(aq (aQ (i:=1) EE.nd O (.inl O) (dJ (af au ak)))
   (aq (uk PassesOwn.never (cJ op_le (aI jM (aG bx (pv 1) au (fun _ _=>O)) (p7 O T.k_BASE)) (PY O T.n_max (af (pv 0) ak)) (bH _)) (aB (eJ (iO PySem.F.plainAttrs_list PySem.F.slot_list_insert PySem.F.type_list_insert DQ (pv 1) (af au (af (aI jM (aG bx (pv 1) au (fun _ _=>O)) (p7 O T.k_BASE)) ak))))))
   (aB (bn (pv 1))))),?_⟩
  refine⟨(by show 1<=sizeLine;decide),fun g ng=>?_⟩;have s1:ae H (upd H g (.lst [V.int 1])):=ae.new ng;have h1:upd H g (.lst [V.int 1]) g=some (.lst ((pw 0).map V.int)):=ah;generalize upd H g (.lst [V.int 1])=H1 at s1 h1 ⊢;refine⟨fun m σ G=>∃ j:Nat,m=(2 ^ 62 - (16:Int) ^ j).toNat/\σ=[some (.ref l),some (.ref g)]/\ae H G/\G g=some (.lst ((pw j).map V.int))/\(∀ i,i<j->(16:Int) ^ i * 16<=mxL wt)/\(16:Int) ^ j<2 ^ 62/\j<=100,
   ⟨_,0,rfl,rfl,s1,h1,fun i hi=>absurd hi (R0 _),by decide,by decide⟩,?_⟩
  rintro m σ G ⟨j,rfl,rfl,sg,hg,all,Qr,j1⟩
  obtain⟨rr,er⟩:=N6 j;have jp:=Fc j;have at1:atI ((pw j).map V.int) 0=some (.int ((16:Int) ^ j)):=by rw[er];exact at0
  refine⟨_,O,g,_,_,_,O,O,SqL.of hg,at1,_,_,O,O,.inr ⟨by decide,by decide⟩,_,O,l,wt,O,sg.sqL hl,fun e0=>?_,fun mx hm iF=>?_⟩
  ·-- no weight at all
   subst e0;refine⟨_,_,O,O,_,O,dv (fun c=>?_) (fun c=>?_)⟩
   ·have:=Rj c
    have Qp:(0:Int)<16 ^ j * 16:=by omega
    omega
   ·exact⟨_,O,k j g G sg ng hg ⟨all,RH c⟩ j1⟩
  ·have em:mx=mxL wt:=by
    have a1:=JG mx hm;have a2:=vS wt (hw mx hm).1 iF;omega
   subst em;refine⟨_,_,O,O,_,O,dv (fun c=>?_) (fun c=>?_)⟩
   ·have c1:(16:Int) ^ j * 16<=mxL wt:=Rj c
    have jl:j + 1<=100:=by
     rcases RZ j 100 with z|z
     ·exact z
     ·exfalso
      have e1:(16:Int) ^ 100<=16 ^ j:=by
       have h:=Tl (n:=16) (by decide) z
       exact_mod_cast h
      have e2:(2:Int) ^ 62<=16 ^ 100:=by decide +kernel
      omega
    have l1:=vY j;refine⟨_,fun σ' H' h=>h,?_⟩;refine⟨_,O,.inl ⟨O,_,SqL.of hg⟩,_,O,g,_,_,_,O,O,SqL.of hg,at1,_,_,O,O,.inr ⟨by decide,by decide⟩,g,_,0,_,O,O,hg,by omega,by omega,?_,?_⟩
    ·rw[QT,l1,Q3]
     omega
    ·have e3:(16:Int) ^ (j + 1)<2 ^ 62:=by rw[p5];omega
     refine⟨(2 ^ 62 - (16:Int) ^ (j + 1)).toNat,by rw[p5] at e3 ⊢;omega,j + 1,O,O,bv ng sg,?_,fun i hi=>?_,e3,jl⟩
     ·rw[ah]
      show some (HO.lst (V.int ((16:Int) ^ j * 16)::(pw j).map V.int))=some (HO.lst (V.int ((16:Int) ^ (j + 1))::(pw j).map V.int));rw[p5]
     ·rcases RZ i j with z|z
      ·exact all i z
      ·rw[show i=j by omega]
       exact c1
   ·exact⟨_,O,k j g G sg ng hg ⟨all,RH c⟩ j1⟩
end
def pt1 (p:List Nat) (x:Wt):List Nat:=p.map fun y=>if y=p.getD x.2.1 0 then p.getD x.1 0 else y
def ptF (ws:List Wt) (c:Nat):List Nat:=ws.foldl pt1 (List.range c)
theorem Ad (p:List Nat) (x:Wt):(pt1 p x).length=p.length:=by
 unfold pt1;rw[QT]
theorem vU:∀ (ws:List Wt) (p:List Nat),(ws.foldl pt1 p).length=p.length
 | [],_=>rfl
 | x::ws,p=>by
  show(ws.foldl pt1 (pt1 p x)).length=_;rw[vU ws,Ad]
theorem qj {p:List Nat}{x:Wt} (h:i<p.length):(pt1 p x).getD i 0=if p.getD i 0=p.getD x.2.1 0 then p.getD x.1 0 else p.getD i 0:=by
 unfold pt1;rw[QV,Q4,QX h];show(if p[i]=p.getD x.2.1 0 then p.getD x.1 0 else p[i])=_;have e:p.getD i 0=p[i]:=by rw[QV,QX h];rfl
 rw[e]
theorem DR (c:Nat):∀ (ws:List Wt) (p:List Nat),p.length=c->(∀ x∈ws,x.1<c/\x.2.1<c)->(∀ i j,i<c->j<c->p.getD i 0=p.getD j 0->(ws.foldl pt1 p).getD i 0=(ws.foldl pt1 p).getD j 0)/\∀ x∈ws,(ws.foldl pt1 p).getD x.1 0=(ws.foldl pt1 p).getD x.2.1 0
 | [],p,_,_=>⟨fun i j _ _ h=>h,fun x hx=>by cases hx⟩
 | y::ws,p,hp,hin=>by
  have l1:=Ad p y;obtain⟨h1,h2⟩:=DR c ws (pt1 p y) (by omega) fun x hx=>hin x (Q6 _ hx)
  obtain⟨y1,y2⟩:=hin y Q9;have st:∀ i j,i<c->j<c->p.getD i 0=p.getD j 0->(pt1 p y).getD i 0=(pt1 p y).getD j 0:=fun i j hi hj e=>by
   rw[qj (by omega),qj (by omega),e]
  refine⟨fun i j hi hj e=>h1 i j hi hj (st i j hi hj e),fun x hx=>?_⟩;rcases Rp.mp hx with z|z
  ·subst z
   refine h1 _ _ y1 y2 ?_;rw[qj (by omega),qj (by omega),if_pos (show p.getD x.2.1 0=p.getD x.2.1 0 from rfl)];split
   ·rfl
   ·rfl
  ·exact h2 x z
def ls1 (s:Kvs) (x:Int×Nat):Kvs:=aE s (Sum.inl ((x.2:Nat):Int)) (.int (min x.1 ((gI s x.2).getD x.1)))
variable {d:Addr}{pl:List Int}
def lsF (pl:List Int) (pt:List Nat):Kvs:=(pl.zip pt).foldl ls1 []
theorem Ed {s:Kvs} (x:Int×Nat) (h:Wf s):Wf (ls1 s x)/\(ls1 s x).length<=s.length + 1/\gI (ls1 s x)=up (gI s) x.2 (some (min x.1 ((gI s x.2).getD x.1))):=⟨h.put _ _,ql _ _ _,iU _ _ _⟩
theorem AV:∀ (l:List (Int×Nat)){s:Kvs},Wf s->Wf (l.foldl ls1 s)/\(l.foldl ls1 s).length<=s.length + l.length
 | [],_,h=>⟨h,QY _⟩
 | x::l,s,h=>by
  obtain⟨h1,h2,_⟩:=Ed x h;obtain⟨h3,h4⟩:=AV l h1;refine⟨h3,Rz h4 ?_⟩;rw[Re];omega
def LsAt (l:List (Int×Nat)) (s:Kvs):Prop:=(∀ x∈l,∃ m,gI s x.2=some m/\m<=x.1)/\∀ v m,gI s v=some m->∃ x∈l,x.2=v/\x.1=m
theorem GW:∀ (l l0:List (Int×Nat)){s:Kvs},Wf s->LsAt l0 s->LsAt (l0++l) (l.foldl ls1 s)
 | [],l0,_,_,h=>by rw[So];exact h
 | x::l,l0,s,wf,h=>by
  obtain⟨w1,_,w3⟩:=Ed x wf;have e:l0++x::l=(l0++[x])++l:=by rw[R6];rfl
  rw[e];refine GW l (l0++[x]) w1 ⟨fun y hy=>?_,fun v m hv=>?_⟩
  ·rw[w3]
   by_cases c:y.2=x.2
   ·rw[c,aS]
    refine⟨_,O,?_⟩;rcases T0.mp hy with z|z
    ·obtain⟨m,e1,e2⟩:=h.1 y z
     rw[c] at e1;rw[e1];show min x.1 m<=y.1;omega
    ·rw[S1.mp z]
     omega
   ·rw[aK _ _ c]
    rcases T0.mp hy with z|z
    ·exact h.1 y z
    ·rw[S1.mp z] at c
     exact absurd O c
  ·rw[w3] at hv
   by_cases c:v=x.2
   ·rw[c,aS] at hv
    have hv:=Option.some.inj hv;cases eg:gI s x.2 with
    | none=>
     rw[eg] at hv;have hv:min x.1 x.1=m:=hv;exact⟨x,Q8 _ (S1.mpr O),c.symm,by omega⟩
    | some b=>
     rw[eg] at hv;have hv:min x.1 b=m:=hv;by_cases c2:x.1<=b
     ·exact⟨x,Q8 _ (S1.mpr O),c.symm,by omega⟩
     ·obtain⟨y,y1,y2,y3⟩:=h.2 x.2 b eg
      exact⟨y,Ru _ y1,by rw[y2,c],by omega⟩
   ·rw[aK _ _ c] at hv
    obtain⟨y,y1,y2⟩:=h.2 v m hv;exact⟨y,Ru _ y1,y2⟩
def frN (pl:List Int) (pt:List Nat):List Int:=(pl.zip pt).map fun x=>x.1 - (gI (lsF pl pt) x.2).getD 0
theorem FQ (pl:List Int) (pt:List Nat):LsAt (pl.zip pt) (lsF pl pt):=by
 have:=GW (pl.zip pt) [] (s:=[]) (fun p hp=>by cases hp) ⟨fun x hx=>(by cases hx),fun v m e=>by cases e⟩;rw[Tf] at this;exact this
theorem Nm {pt:List Nat} (h:pl.length=pt.length):(frN pl pt).length=pl.length:=by
 unfold frN;rw[QT,RL];omega
theorem vg {pt:List Nat} (h:pl.length=pt.length) (hi:i<pl.length):fn (frN pl pt) i=fn pl i - (gI (lsF pl pt) (pt.getD i 0)).getD 0:=by
 unfold fn frN;have e1:pl[i]?=some pl[i]:=QX hi;have e2:pt[i]?=some (pt[i]'(by omega)):=QX (by omega);have e3:(pl.zip pt)[i]?=some (pl[i],pt[i]'(by omega)):=by
  rw[Rx];exact⟨e1,e2⟩
 rw[QV,Q4,e3,QV,QV,e1,e2];rfl
theorem K4 {pt:List Nat} (h:pl.length=pt.length) (hi:i<pl.length):0<=fn (frN pl pt) i/\∃ j,j<pl.length/\pt.getD j 0=pt.getD i 0/\fn (frN pl pt) j=0:=by
 obtain⟨h1,h2⟩:=FQ pl pt;have mem:∀ k,k<pl.length->(fn pl k,pt.getD k 0)∈pl.zip pt:=fun k hk=>by
  refine Q0 (i:=k) ?_;rw[Rx,QX hk,QX (show k<pt.length by omega)];unfold fn;rw[QV,QV,QX hk,QX (show k<pt.length by omega)];exact⟨O,O⟩
 obtain⟨m,e1,e2⟩:=h1 _ (mem i hi);have e1:gI (lsF pl pt) (pt.getD i 0)=some m:=e1;have e2:m<=fn pl i:=e2;rw[vg h hi,e1];refine⟨by show 0<=fn pl i - m;omega,?_⟩;obtain⟨x,x1,x2,x3⟩:=h2 _ m e1;obtain⟨j,ej⟩:=List.mem_iff_getElem?.mp x1;rw[Rx] at ej;obtain⟨j1,j2⟩:=ej;have jl:j<pl.length:=(List.getElem?_eq_some_iff.mp j1).1;have k1:fn pl j=x.1:=by unfold fn;rw[QV,j1];rfl
 have k2:pt.getD j 0=x.2:=by rw[QV,j2];rfl
 refine⟨j,jl,by rw[k2,x2],?_⟩;rw[vg h jl,k1,k2,x2,e1];show x.1 - m=0;omega
theorem Oj {pt:List Nat} (h:pl.length=pt.length) (hi:i<pl.length) (hj:j<pl.length) (e:pt.getD i 0=pt.getD j 0):fn (frN pl pt) j - fn (frN pl pt) i=fn pl j - fn pl i:=by
 rw[vg h hi,vg h hj,e];omega
theorem Ep {p:List Nat} (h:i<p.length):atI (aM p) (i:Int)=some (.int (p.getD i 0:Nat)):=by
 unfold aM;rw[iL (by omega),Q7,Q4,QX h,QV,QX h];rfl
section
variable {K:PySem.W.Frag}
def LH (K:PySem.W.Frag):Sp:=fun vs H Q _=>∃ l ws,∃ c:Nat,vs=[.int c,.ref l]/\jr K H l ((ws:List Wt).map wI)/\(∀ x∈ws,x.1<c/\x.2.1<c)/\c<=1000/\∀ g H',ae H H'->H g=none->H' g=some (.lst (aM (ptF ws c)))->Q (.ref g) H'
theorem Pm (T:Tx K mg a):Cal P w K mg base CX0 1 "parts_of" ["count","wishes"] [] (LH K):=T.d_parts_of.cal fun f fd F=>by
 refine F.ok pV (fun vs H Q E h=>?_) (fun aA A outer s H vs Q E hr h=>?_)
 ·obtain⟨l,ws,c,rfl,_⟩:=h
  rfl
 ·obtain⟨l,ws,c,rfl,⟨xs,hl,hd⟩,hin,hc,k⟩:=h
  have b9:ws.length=xs.length:=by rw[<- hd.length,QT,QT]
  rw[Ss] at hd;refine⟨_,(aq (aQ (i:=2) pV.nd O (.inl O) (Nk O T.n_list O T.n_range (af (pv 0) ak)))
   (aq (cV PassesOwn.never rfl (bV (pv 1)) (az (i:=3) pV.nd O (.inl O)) (aq (aQ (i:=4) pV.nd O (.inr O) (aG bx (pv 2) (aG cf (pv 3) au (fun _ _=>O)) (fun _ _=>O)))
   (aq (aQ (i:=5) pV.nd O (.inr O) (aG bx (pv 2) (aG cf (pv 3) au (fun _ _=>O)) (fun _ _=>O)))
   (aB (pb (i:=2) pV.nd O O (N:=["part","new","old"]) (cap:=[none,some 5,some 4]) O (bM (osc:=aC AN) (XN:=["count","wishes","parts","wish","old","new"]) O O (by decide +kernel)) (bV (pv 2)) (fun cl C s H fp aa=>(az (i:=0) (show(["part","new","old"]:List Str).Nodup by decide +kernel) rfl (.inl rfl))) (fun cl C s H fp aa=>cy) (fun cl C s H fp aa=>(Af (cJ oB (pv 0) (pv 2) (bH _)) (pv 1) (pv 0))) (hsw:=O))))))
   (aB (bn (pv 2))))),?_⟩
  refine⟨_,O,c,O,by omega,fun g ng=>?_⟩;have s1:ae H (upd H g (.lst (rng c))):=ae.new ng;have h1:upd H g (.lst (rng c)) g=some (.lst (aM (List.range c))):=ah;generalize upd H g (.lst (rng c))=H1 at s1 h1 ⊢;refine⟨_,O,l,O,⟨_,s1.sqL hl⟩,iP (K:=K) (a:=l) (xs:=xs) (fun i σ G=>∃ g v3 v4 v5,σ=[some (.int (c:Nat)),some (.ref l),some (.ref g),v3,v4,v5]/\ae H G/\H g=none/\G g=some (.lst (aM ((ws.take i).foldl pt1 (List.range c)))))
   ⟨g,none,none,none,rfl,s1,ng,h1⟩ ?_ ?_ ?_⟩
  ·rintro i σ G _ ⟨g,_,_,_,rfl,sg,_⟩
   exact sg.sqL hl
  ·rintro i x σ G hx ⟨g,v3,v4,v5,rfl,sg,ng,hG⟩
   obtain⟨w0,lS,dw⟩:=eL hd hx;obtain⟨t,rfl,ht⟩:=mB (sg.dt dw);obtain⟨i1,i2⟩:=hin w0 (Q0 lS);have pl:=vU (ws.take i) (List.range c);rw[RU] at pl;have fo:(ws.take (i + 1)).foldl pt1 (List.range c)=pt1 ((ws.take i).foldl pt1 (List.range c)) w0:=by rw[zam lS,RT];rfl
   rw[fo];generalize (ws.take i).foldl pt1 (List.range c)=now at hG pl ⊢;dsimp only[bA];refine⟨_,O,_,O,t,_,_,_,O,O,ht,O,g,_,_,_,O,O,SqL.of hG,Ep (by omega),?_⟩;refine⟨_,O,_,O,t,_,_,_,O,O,ht,O,g,_,_,_,O,O,SqL.of hG,Ep (by omega),?_⟩;refine⟨_,O,g,O,⟨_,SqL.of hG⟩,fun D hD=>?_⟩;refine fW (K:=K) (a:=g) (xs:=aM now) (fun j τ G'=>∃ v1,τ=[v1,some (.int (now.getD w0.1 0:Nat)),some (.int (now.getD w0.2.1 0:Nat))]/\ae G G'/\G' D=some (.lst (aM ((now.take j).map fun y=>if y=now.getD w0.2.1 0 then now.getD w0.1 0 else y)))) ⟨none,O,ae.new hD,ah⟩ ?_ ?_ ?_
   ·rintro j τ G' _ ⟨v1,rfl,bS,_⟩
    exact SqL.of (bS _ _ hG)
   ·rintro j y τ G' hy ⟨v1,rfl,bS,bT⟩
    obtain⟨n,hn,rfl⟩:=tK hy;dsimp only[bA,cK];rw[if_pos rfl];have ln:(aM ((now.take j).map fun y=>if y=now.getD w0.2.1 0 then now.getD w0.1 0 else y)).length<sizeLine:=by
     unfold aM;rw[QT,QT,Rb,Q3];omega
    have Cj:∀ m:Nat,m=(if n=now.getD w0.2.1 0 then now.getD w0.1 0 else n)->aM ((now.take j).map fun y=>if y=now.getD w0.2.1 0 then now.getD w0.1 0 else y)++[V.int (m:Nat)]=aM ((now.take (j + 1)).map fun y=>if y=now.getD w0.2.1 0 then now.getD w0.1 0 else y):=fun m em=>by
     rw[zam hn,Q2,em];unfold aM;rw[Q2];rfl
    refine⟨_,O,_,O,O,_,O,?_⟩;refine dv (fun c1=>?_) (fun c1=>?_)
    ·have c2:n=now.getD w0.2.1 0:=by
      have:=Rj c1;injection this with z
      exact Int.ofNat.inj z
     refine⟨_,O,_,bT,ln,_,O,bv hD bS,?_⟩;rw[ah,Cj _ (if_pos c2).symm]
    ·have c2:¬ n=now.getD w0.2.1 0:=fun z=>by
      have:=RH c1;exact this (by rw[<- z])
     refine⟨_,O,_,bT,ln,_,O,bv hD bS,?_⟩;rw[ah,Cj _ (if_neg c2).symm]
   ·rintro τ G' ⟨v1,rfl,bS,bT⟩
    rw[Rt (by unfold aM;rw[QT];exact QY _)] at bT;exact⟨D,_,_,_,O,sg.trans bS,none_of sg hD,bT⟩
  ·rintro σ G ⟨g,v3,v4,v5,rfl,sg,ng,hG⟩
   rw[<- b9,Rf] at hG;exact⟨_,O,k g G sg ng hG⟩
def PN (K:PySem.W.Frag):Sp:=fun vs H Q _=>∃ p t pl pt,vs=[.ref p,.ref t]/\SqL K H p ((pl:List Int).map V.int)/\SqL K H t (aM pt)/\pl.length=pt.length/\pl.length<=1000/\∀ g H',ae H H'->H g=none->H' g=some (.lst ((frN pl pt).map V.int))->Q (.ref g) H'
theorem Lf (T:Tx K mg a):Cal P w K mg base CX0 1 "from_nought" ["places","parts"] [] (PN K):=T.d_from_nought.cal fun f fd F=>by
 refine F.ok wx (fun vs H Q E h=>?_) (fun aA A outer s H vs Q E hr h=>?_)
 ·obtain⟨p,t,pl,pt,rfl,_⟩:=h
  rfl
 ·obtain⟨p,t,pl,pt,rfl,hp,ht,hl,hk,k⟩:=h
  have ex:(pl.map V.int).length=(aM pt).length:=by unfold aM;rw[QT,QT,hl]
  have lz:(pl.zip pt).length=pl.length:=by rw[RL];omega
  have lB:∀ i x y,(pl.map V.int)[i]?=some x->(aM pt)[i]?=some y->∃ (u:Int) (v:Nat),x=V.int u/\y=V.int (v:Nat)/\(pl.zip pt)[i]?=some (u,v):=fun i x y h1 h2=>by
   obtain⟨u,hu,rfl⟩:=iS h1;obtain⟨v,hv,rfl⟩:=tK h2;exact⟨u,v,O,O,by rw[Rx];exact⟨hu,hv⟩⟩
  refine⟨_,(aq (aQ (i:=2) wx.nd O (.inr O) mC)
   (aq (cV PassesOwn.never rfl (pc rfl T.n_zip (af (pv 0) (af (pv 1) ak))) (fD rfl (aO (az (i:=3) wx.nd O (.inl O)) (aO (az (i:=4) wx.nd O (.inl O)) cz))) (aB (jH (bb hr) (pv 2) (pv 4) (bp GV O T.n_min u9 (af (pv 3) (af (E5 (bb hr) (pv 2) (pv 4) (pv 3) ⟨O,O,O,O⟩) ak))) O)))
   (aB (bn (cY (N:=["place","part","least"]) (cap:=[none,none,some 2]) O (bM (osc:=aC AO) (XN:=["places","parts","least","place","part"]) O O (by decide +kernel)) (pc rfl T.n_zip (af (pv 0) (af (pv 1) ak))) (fun cl C s H fp aa=>(jS (K:=K) (n:=2) O O (aO (az (i:=0) (show(["place","part","least"]:List Str).Nodup by decide +kernel) rfl (.inl rfl)) (aO (az (i:=1) (show(["place","part","least"]:List Str).Nodup by decide +kernel) rfl (.inl rfl)) cz)))) (fun cl C s H fp aa=>cy) (fun cl C s H fp aa=>(aI iq (pv 0) (cH (bb hr) (pv 2) (pv 1) (fun _ _=>O))))))))),?_⟩
  refine fun d nd=>?_
  have s1:ae H (upd H d (.dK [])):=ae.new nd;have h1:upd H d (.dK []) d=some (.dK []):=ah;generalize upd H d (.dK [])=H1 at s1 h1 ⊢;have Cb:Wf ([]:Kvs):=fun p hp=>by cases hp
  refine⟨_,O,_,O,p,t,O,⟨_,s1.sqL hp⟩,⟨_,s1.sqL ht⟩,z9 (K:=K) (l1:=p) (l2:=t) (xs:=pl.map V.int) (ys:=aM pt) ex (fun i σ G=>∃ v3 v4,σ=[some (.ref p),some (.ref t),some (.ref d),v3,v4]/\ae H G/\G d=some (.dK (((pl.zip pt).take i).foldl ls1 [])))
   ⟨none,none,rfl,s1,h1⟩ ?_ ?_ ?_⟩
  ·rintro i σ G _ ⟨_,_,rfl,sg,_⟩
   exact⟨sg.sqL hp,sg.sqL ht⟩
  ·rintro i x y tt σ G hx hy nt ⟨v3,v4,rfl,sg,hG⟩
   obtain⟨u,v,rfl,rfl,hz⟩:=lB i x y hx hy;have s3:ae G (upd G tt (.tup [.int u,.int (v:Nat)])):=ae.new nt;have h3:upd G tt (.tup [.int u,.int (v:Nat)]) tt=some (.tup [.int u,.int (v:Nat)]):=ah;generalize upd G tt (.tup [.int u,.int (v:Nat)])=G3 at s3 h3 ⊢;have gU:=s3 _ _ hG;obtain⟨o1,o2⟩:=AV ((pl.zip pt).take i) Cb;have lt:=Uj i (pl.zip pt);have l2:(((pl.zip pt).take i).foldl ls1 []).length<=1000:=by
    have:=Rb (i:=i) (l:=pl.zip pt);have z:([]:Kvs).length=0:=rfl;omega
   have fo:((pl.zip pt).take (i + 1)).foldl ls1 []=ls1 (((pl.zip pt).take i).foldl ls1 []) (u,v):=by rw[zam hz,RT];rfl
   rw[fo];generalize ((pl.zip pt).take i).foldl ls1 []=now at gU o1 l2 ⊢;refine⟨tt,_,O,SqT.of h3,O,_,_,O,_,_,O,O,?_⟩;have gd:=o1.dget (v:=v) gU;refine⟨_,O,_,O,d,O,.inl ⟨now,.inl gU⟩,_,O,_,O,_,gd,u,(gI now v).getD u,?_,_,O,_,O,d,_,O,.inl ⟨now,Sum.inl ((v:Nat):Int),gU,O,by rw[Q3];omega,O⟩,_,_,O,bv nd (sg.trans s3),?_⟩
   ·cases gI now v <;> rfl
   ·rw[ah]
    unfold ls1;have e:(if (gI now v).getD u<u then(gI now v).getD u else u)=min u ((gI now v).getD u):=by
     by_cases c1:(gI now v).getD u<u
     ·rw[if_pos c1]
      omega
     ·rw[if_neg c1]
      omega
    rw[e]
  ·rintro σ G ⟨v3,v4,rfl,sg,hG⟩
   have ez:(pl.map V.int).length=(pl.zip pt).length:=by rw[lz,QT]
   rw[ez,Rf] at hG;have hG:G d=some (.dK (lsF pl pt)):=hG;have wf:Wf (lsF pl pt):=(AV (pl.zip pt) Cb).1;obtain⟨at1,_⟩:=FQ pl pt;refine⟨_,O,_,O,p,t,O,⟨_,sg.sqL hp⟩,⟨_,sg.sqL ht⟩,fun D hD=>?_⟩;refine AS (K:=K) (l1:=p) (l2:=t) (xs:=pl.map V.int) (ys:=aM pt) ex (fun i τ G'=>∃ v1 v2,τ=[v1,v2,some (.ref d)]/\ae G G'/\G' D=some (.lst ((((pl.zip pt).take i).map fun x=>x.1 - (gI (lsF pl pt) x.2).getD 0).map V.int))) ⟨none,none,O,ae.new hD,ah⟩ ?_ ?_ ?_
   ·rintro i τ G' _ ⟨_,_,rfl,bS,_⟩
    exact⟨bS.sqL (sg.sqL hp),bS.sqL (sg.sqL ht)⟩
   ·rintro i x y tt τ G' hx hy nt ⟨v1,v2,rfl,bS,bT⟩
    obtain⟨u,v,rfl,rfl,hz⟩:=lB i x y hx hy;have s3:ae G' (upd G' tt (.tup [.int u,.int (v:Nat)])):=ae.new nt;have h3:upd G' tt (.tup [.int u,.int (v:Nat)]) tt=some (.tup [.int u,.int (v:Nat)]):=ah;generalize upd G' tt (.tup [.int u,.int (v:Nat)])=G3 at s3 h3 ⊢;obtain⟨m,em,_⟩:=at1 _ (Q0 hz);have em:gI (lsF pl pt) v=some m:=em;have gd:=wf.dget (v:=v) (s3 _ _ (bS _ _ hG));rw[em] at gd;refine⟨tt,_,O,SqT.of h3,O,_,_,O,_,_,O,O,?_⟩;dsimp only[cK];rw[if_pos rfl];refine⟨_,O,_,O,_,O,d,_,O,gd,_,_,O,O,_,s3 _ _ bT,?_,_,_,O,bv hD (bS.trans s3),?_⟩
    ·rw[QT,QT,Rb,Q3]
     omega
    ·rw[ah,zam hz,Q2,Q2]
     show _=some (HO.lst (_++[V.int (u - (gI (lsF pl pt) v).getD 0)]));rw[em];rfl
   ·rintro τ G' ⟨v1,v2,rfl,bS,bT⟩
    rw[ez,Rf] at bT;exact k D G' (sg.trans bS) (none_of sg hD) bT
end
theorem pz_fn (l:List Int) (k:Nat):pz l (k:Int)=fn l k:=by
 unfold pz fn;rw[Q7]
theorem Fw {ws:List Wt}{c:Nat}{am:List Int} (hin:∀ x∈ws,x.1<c/\x.2.1<c) (hl:am.length=ws.length) (v:Nat):∀ i,i<=ws.length->fn ((((ws.map wI).zip am).take i).foldl d7 (List.replicate c 0)) v=sm (fun n=>(if (wn ws c).ot n=v then fn am n else 0) - (if (wn ws c).on n=v then fn am n else 0)) i
 | 0,_=>by
  show fn (List.replicate c 0) v=0;rw[uZ]
 | i + 1,hi=>by
  have ih:=Fw hin hl v i (by omega);have e1:ws[i]?=some (ws.getD i (0,0,0,0)):=by rw[QV,QX (show i<ws.length by omega)];rfl
  have e2:am[i]?=some (fn am i):=by unfold fn;rw[QV,QX (show i<am.length by omega)];rfl
  have e3:((ws.map wI).zip am)[i]?=some (wI (ws.getD i (0,0,0,0)),fn am i):=by
   rw[Rx,Q4,e1];exact⟨O,e2⟩
  obtain⟨i1,i2⟩:=hin _ (Q0 e1);have ln:((((ws.map wI).zip am).take i).foldl d7 (List.replicate c 0)).length=c:=by rw[tH,Rs]
  rw[zam e3,RT];show fn (d7 ((((ws.map wI).zip am).take i).foldl d7 (List.replicate c 0)) (wI (ws.getD i (0,0,0,0)),fn am i)) v=sm _ i + ((if (ws.getD i (0,0,0,0)).2.1=v then fn am i else 0) - (if (ws.getD i (0,0,0,0)).1=v then fn am i else 0));rw[<- ih];generalize (((ws.map wI).zip am).take i).foldl d7 (List.replicate c 0)=ls at ln ⊢;generalize ws.getD i (0,0,0,0)=x at i1 i2 ⊢;have es:d7 ls (wI x,fn am i)=(ls.set x.2.1 (fn ls x.2.1 + fn am i)).set x.1 (fn (ls.set x.2.1 (fn ls x.2.1 + fn am i)) x.1 - fn am i):=by
   unfold d7;show(ls.set ((x.2.1:Nat):Int).toNat (pz ls ((x.2.1:Nat):Int) + fn am i)).set ((x.1:Nat):Int).toNat (pz (ls.set ((x.2.1:Nat):Int).toNat (pz ls ((x.2.1:Nat):Int) + fn am i)) ((x.1:Nat):Int) - fn am i)=_;rw[Q7,Q7,pz_fn,pz_fn]
  rw[es,me (by rw[RD];omega),me (by omega)];by_cases c1:v=x.1
  ·subst c1
   rw[aS,if_pos rfl];by_cases c2:x.1=x.2.1
   ·rw[if_pos c2.symm,c2,aS]
    omega
   ·rw[if_neg (Ne.symm c2),aK _ _ c2]
    omega
  ·rw[aK _ _ c1,if_neg (Ne.symm c1)]
   by_cases c2:v=x.2.1
   ·subst c2
    rw[if_pos rfl,aS];omega
   ·rw[if_neg (Ne.symm c2),aK _ _ c2]
    omega
theorem vI  (hin:∀ x∈ws,x.1<c/\x.2.1<c) (hl:am.length=ws.length) (v:Nat):fn (bP c (ws.map wI) am) v=bal (wn ws c) (fn am) v:=by
 have h:=Fw hin hl v ws.length (QY _);rw[Rt (by rw[RL,QT];omega)] at h;exact h
theorem vD  (hin:∀ x∈ws,x.1<c/\x.2.1<c):(wn ws c).Ok:=by
 have g:∀ n,n<ws.length->ws.getD n (0,0,0,0)∈ws:=fun n hn=>by
  rw[QV,QX hn];exact Sw hn
 exact⟨fun n hn=>(hin _ (g n hn)).1,fun n hn=>(hin _ (g n hn)).2⟩
inductive Run (ws:List Wt) (c:Nat):S3->S3->Prop
 | stop (s:S3) (h:∀ v,v<c->¬ 0<fn s.2.2 v):Run ws c s s
 | step (s s' t:S3) (h:∃ v,v<c/\0<fn s.2.2 v) (e:Snd ws c s s') (r:Run ws c s' t):Run ws c s t
theorem Run.uniq {ws:List Wt}{c:Nat}{s t u:S3} (h:Run ws c s t) (h':Run ws c s u):t=u:=by
 induction h with
 | stop s h1=>
  cases h' with
  | stop _ _=>rfl
  | step _ s' _ g1 _ _=>
   obtain⟨v,v1,v2⟩:=g1;exact absurd v2 (h1 v v1)
 | step s s' t h1 e r ih=>
  cases h' with
  | stop _ g1=>
   obtain⟨v,v1,v2⟩:=h1;exact absurd v2 (g1 v v1)
  | step _ s2 _ g1 e2 r2=>
   have:=e.uniq e2;subst this;exact ih r2
def wts (ws:List Wt):List Int:=(ws.map wI).map fun q=>q.2.2.2
def iN (ws:List Wt) (W:Int):List Int:=(wts ws).map fun y=>y / W % 16
def figS (ws:List Wt) (c:Nat) (W:Int) (s:List Int×List Int):S3:=(s.1,s.2.map fun x=>x * 16,bP c (ws.map wI) (iN ws W))
inductive ip (ws:List Wt) (c:Nat):List Int->List Int×List Int->List Int×List Int->Prop
 | nil (s:List Int×List Int):ip ws c [] s s
 | cons (W:Int) (r:List Int) (s:List Int×List Int) (t:S3) (u:List Int×List Int) (h:Run ws c (figS ws c W s) t) (e:ip ws c r (t.1,t.2.1) u):ip ws c (W::r) s u
theorem ip.uniq {ws:List Wt}{c:Nat}{l:List Int}{s t u:List Int×List Int} (h:ip ws c l s t) (h':ip ws c l s u):t=u:=by
 induction h with
 | nil s=>
  cases h'
  rfl
 | cons W r s t u h1 e ih=>
  cases h' with
  | cons _ _ _ t2 _ g1 e2=>
   have:=h1.uniq g1;subst this;exact ih e2
def Told (ws:List Wt) (c:Nat) (out:List Int×List Int):Prop:=∃ m P fl,tD (mxL (wts ws)) m/\ip ws c (pw m) (mD ws c,List.replicate ws.length 0) (P,fl)/\out=(frN P (ptF ws c),fl)
theorem Told.uniq {ws:List Wt}{c:Nat}{s t:List Int×List Int} (h:Told ws c s) (h':Told ws c t):s=t:=by
 obtain⟨m,P,fl,h1,h2,rfl⟩:=h;obtain⟨m',P',dN,g1,g2,rfl⟩:=h';obtain rfl:=h1.uniq g1;have e:=h2.uniq g2;injection e with e1 e2
 rw[e1,e2]
structure jQ (ws:List Wt) (c:Nat) (pl fl:List Int):Prop where
 lp:pl.length=c
 lf:fl.length=ws.length
 ti:Ti (wn ws c) (fn pl) (fn fl)
 bl:∀ v,v<c->bal (wn ws c) (fn fl) v=bal (wn ws c) (wtF ws) v
 ls:∀ i,i<c->0<=fn pl i/\∃ j,j<c/\(ptF ws c).getD j 0=(ptF ws c).getD i 0/\fn pl j=0
theorem jN.none  (h:jN N ring){P:Nat->Int} (fit:∀ n,n<N.m->0<=slk N P n):False:=by
 have pos:=h.pos;obtain⟨P0,t,pu,p,k,fi,hp,all,rfl,back,ne⟩:=h.told;have key:∀ j,((rgL N pu p j).map N.le).sum<=P p - P (itr (bk N pu) j p):=fun j=>by
  induction j with
  | zero=>
   show(0:Int)<=P p - P p;omega
  | succ j ih=>
   show N.le (cn pu (itr (bk N pu) j p)) + ((rgL N pu p j).map N.le).sum<=_;obtain⟨m1,ot,_⟩:=fi.a _ _ (iR (all j));have on:itr (bk N pu) (j + 1) p=N.on (cn pu (itr (bk N pu) j p)):=AG (all j);have s:=fit _ m1;unfold slk at s;rw[ot] at s;rw[on];omega
 have z:=key (k + 1);rw[back] at z;omega
theorem At:∀ m i,i<=m->(pw m)[i]?=some ((16:Int) ^ (m - i))
 | 0,i,h=>by
  obtain rfl:i=0:=by omega
  rfl
 | m + 1,0,_=>rfl
 | m + 1,i + 1,h=>by
  show(pw m)[i]?=_;rw[At m i (by omega),show m + 1 - (i + 1)=m - i by omega]
theorem LP (m i:Nat) (h:i<=m):(pw m).drop i=(16:Int) ^ (m - i)::(pw m).drop (i + 1):=by
 have l:=vY m;rw[TK (by omega)];have e:=At m i h;rw[QX (by omega)] at e;rw[Option.some.inj e]
theorem GY {f:Int->Int} (h:f 0=0) (l:List Int) (n:Nat):fn (l.map f) n=f (fn l n):=by
 unfold fn;rw[QV,QV,Q4];cases l[n]? with
 | none=>exact h.symm
 | some x=>rfl
theorem we (ws:List Wt) (n:Nat):fn (wts ws) n=wtF ws n:=by
 unfold fn wts wtF;rw[QV,QV,Q4,Q4];cases ws[n]? with
 | none=>rfl
 | some x=>rfl
theorem tT (ws:List Wt):(wts ws).length=ws.length:=by
 unfold wts;rw[QT,QT]
theorem GB (ws:List Wt) (W:Int):(iN ws W).length=ws.length:=by
 unfold iN;rw[QT,tT]
theorem NT (ws:List Wt) (W:Int) (n:Nat):fn (iN ws W) n=wtF ws n / W % 16:=by
 unfold iN;rw[GY (by rw[Int.zero_ediv];rfl),we]
theorem qp {f g:Nat->Int} (h:∀ n,n<N.m->f n=g n) (v:Nat):bal N f v=bal N g v:=by
 unfold bal;exact cX _ fun n hn=>by rw[h n hn]
theorem Pz {W:Int}{fl:List Int}{P:Nat->Int} (hW:0<W) (hin:∀ x∈ws,x.1<c/\x.2.1<c) (ti:Ti (wn ws c) P (fn fl)) (hb:∀ v,v<c->bal (wn ws c) (fn fl) v=bal (wn ws c) (fun n=>wtF ws n / (W * 16)) v) :
  Ti (wn ws c) P (fn (fl.map fun x=>x * 16))/\∀ v,v<c->fn (bP c (ws.map wI) (iN ws W)) v=bal (wn ws c) (fun n=>wtF ws n / W) v - bal (wn ws c) (fn (fl.map fun x=>x * 16)) v:=by
 have yB:∀ n,fn (fl.map fun x=>x * 16) n=16 * fn fl n + 0:=fun n=>by
  rw[GY (by rfl)];omega
 refine⟨⟨ti.s,fun n hn=>?_,fun n hn f=>?_⟩,fun v hv=>?_⟩
 ·have:=ti.f n hn
  rw[yB];omega
 ·rw[yB] at f
  exact ti.t n hn (by omega)
 ·rw[vI hin (GB ws W)]
  have b1:bal (wn ws c) (fn (fl.map fun x=>x * 16)) v=16 * bal (wn ws c) (fn fl) v:=by
   rw[qp (fun n _=>yB n) v,AM,La];omega
  have b2:bal (wn ws c) (fun n=>wtF ws n / W) v=16 * bal (wn ws c) (fun n=>wtF ws n / (W * 16)) v + bal (wn ws c) (fn (iN ws W)) v:=by
   rw[<- AM];refine qp (fun n _=>?_) v;show wtF ws n / W=16 * (wtF ws n / (W * 16)) + fn (iN ws W) n;rw[NT,<- Int.ediv_ediv_of_nonneg (SG hW)];omega
  rw[b1,b2,hb v hv];omega
theorem L9 {nd:Nat->Int} (ok:(wn ws c).Ok) (hnd:∀ v,v<c->nd v=bal (wn ws c) eQ v - bal (wn ws c) fl v) (h:∀ v,v<c->¬ 0<nd v):∀ v,v<c->bal (wn ws c) fl v=bal (wn ws c) eQ v:=fun v hv=>by
 have z:=NL (N:=wn ws c) (Fo ok hnd) (fun p hp=>by
  have:=h p hp;omega) v hv
 have:=hnd v hv;omega
theorem MU {P fl:List Int} (hin:∀ x∈ws,x.1<c/\x.2.1<c) (hp:P.length=c) (hf:fl.length=ws.length) (ti:Ti (wn ws c) (fn P) (fn fl)) (hb:∀ v,v<c->bal (wn ws c) (fn fl) v=bal (wn ws c) (wtF ws) v):jQ ws c (frN P (ptF ws c)) fl:=by
 have pl:(ptF ws c).length=c:=by
  unfold ptF;rw[vU,RU]
 have hl:P.length=(ptF ws c).length:=by omega
 have g:∀ n,n<ws.length->ws.getD n (0,0,0,0)∈ws:=fun n hn=>by
  rw[QV,QX hn];exact Sw hn
 have sl:∀ n,n<ws.length->slk (wn ws c) (fn (frN P (ptF ws c))) n=slk (wn ws c) (fn P) n:=fun n hn=>by
  obtain⟨i1,i2⟩:=hin _ (g n hn);have e:=(DR c ws (List.range c) RU hin).2 _ (g n hn);have:=Oj (i:=(ws.getD n (0,0,0,0)).1) (j:=(ws.getD n (0,0,0,0)).2.1) hl (by omega) (by omega) e;show fn (frN P (ptF ws c)) (ws.getD n (0,0,0,0)).2.1 - fn (frN P (ptF ws c)) (ws.getD n (0,0,0,0)).1 - _=fn P (ws.getD n (0,0,0,0)).2.1 - fn P (ws.getD n (0,0,0,0)).1 - _;omega
 refine⟨(Nm hl).trans hp,hf,⟨fun n hn=>by rw[sl n hn];exact ti.s n hn,ti.f,fun n hn f=>by rw[sl n hn];exact ti.t n hn f⟩,hb,fun i hi=>?_⟩;have:=K4 hl (i:=i) (by omega);rw[hp] at this;exact this
theorem PD:br "flow" (.ref d) (bO r)=bO { r with f:=d }:=by
 have h1:¬ (("ones":Str)="flow"):=by decide +kernel
 have h2:¬ (("others":Str)="flow"):=by decide +kernel
 have h3:¬ (("leasts":Str)="flow"):=by decide +kernel
 have h4:¬ (("places":Str)="flow"):=by decide +kernel
 simp only[bO,br,h1,h2,h3,h4,if_false,if_true]
theorem Oh:br "needs" (.ref d) (bO r)=bO { r with n:=d }:=by
 have h1:¬ (("ones":Str)="needs"):=by decide +kernel
 have h2:¬ (("others":Str)="needs"):=by decide +kernel
 have h3:¬ (("leasts":Str)="needs"):=by decide +kernel
 have h4:¬ (("places":Str)="needs"):=by decide +kernel
 have h5:¬ (("flow":Str)="needs"):=by decide +kernel
 simp only[bO,br,h1,h2,h3,h4,h5,if_false,if_true]
theorem bI.reF {G1:Hp}{cnt:Nat}{o1 o2:HO} (h:bI C G q r ws cnt) (s:ae G G1) (nd:G d=none) (hp:G r.p=some o1) (hn:G r.n=some o2) (cx:∃ x,o1=.lst x) (bY:∃ x,o2=.lst x):bI C (upd G1 q (.ins C dx (bO { r with f:=d }))) q { r with f:=d } ws cnt:=by
 have kp:∀ a xs,G a=some (.lst xs)->upd G1 q (.ins C dx (bO { r with f:=d })) a=some (.lst xs):=fun a xs e=>by
  obtain⟨dy,ey⟩:=h.ex;rw[ai (kU e ey (by intro z;cases z))];exact s _ _ e
 have nq:∀ a xs,G a=some (.lst xs)->Nq r a->Nq { r with f:=d } a:=fun a xs e n=>⟨n.1,ap e nd,n.2.2⟩
 obtain⟨dy,ey⟩:=h.ex;obtain⟨gs,g1,g2,g3⟩:=h.hg;obtain⟨cs,c1,c2,c3⟩:=h.hc;exact⟨⟨dx,ah⟩,kp _ _ h.ho,kp _ _ h.ht,kp _ _ h.hl,⟨gs,kp _ _ g1,g2,fun i a e=>⟨kp _ _ (g3 i a e).1,nq _ _ (g3 i a e).1 (g3 i a e).2⟩⟩,⟨cs,kp _ _ c1,c2,fun i a e=>⟨kp _ _ (c3 i a e).1,nq _ _ (c3 i a e).1 (c3 i a e).2⟩⟩,
  nq _ _ h.ho h.no,nq _ _ h.ht h.nt,nq _ _ h.hl h.nl,nq _ _ g1 h.ng,nq _ _ c1 h.nc,⟨h.nq.1,ap ey nd,h.nq.2.2⟩,ap hp nd,h.pn,Ne.symm (ap hn nd)⟩
theorem bI.reN {G1:Hp}{cnt:Nat}{o1 o2:HO} (h:bI C G q r ws cnt) (s:ae G G1) (nd:G d=none) (hp:G r.p=some o1) (hf:G r.f=some o2) (cx:∃ x,o1=.lst x) (bY:∃ x,o2=.lst x):bI C (upd G1 q (.ins C dx (bO { r with n:=d }))) q { r with n:=d } ws cnt:=by
 have kp:∀ a xs,G a=some (.lst xs)->upd G1 q (.ins C dx (bO { r with n:=d })) a=some (.lst xs):=fun a xs e=>by
  obtain⟨dy,ey⟩:=h.ex;rw[ai (kU e ey (by intro z;cases z))];exact s _ _ e
 have nq:∀ a xs,G a=some (.lst xs)->Nq r a->Nq { r with n:=d } a:=fun a xs e n=>⟨n.1,n.2.1,ap e nd⟩
 obtain⟨dy,ey⟩:=h.ex;obtain⟨gs,g1,g2,g3⟩:=h.hg;obtain⟨cs,c1,c2,c3⟩:=h.hc;exact⟨⟨dx,ah⟩,kp _ _ h.ho,kp _ _ h.ht,kp _ _ h.hl,⟨gs,kp _ _ g1,g2,fun i a e=>⟨kp _ _ (g3 i a e).1,nq _ _ (g3 i a e).1 (g3 i a e).2⟩⟩,⟨cs,kp _ _ c1,c2,fun i a e=>⟨kp _ _ (c3 i a e).1,nq _ _ (c3 i a e).1 (c3 i a e).2⟩⟩,
  nq _ _ h.ho h.no,nq _ _ h.ht h.nt,nq _ _ h.hl h.nl,nq _ _ g1 h.ng,nq _ _ c1 h.nc,⟨h.nq.1,h.nq.2.1,ap ey nd⟩,h.pf,ap hp nd,ap hf nd⟩
structure Lp (C:Addr) (HB:Hp) (q:Addr) (r0 r:LR) (ws:List Wt) (c:Nat) (G:Hp) (P fl:List Int):Prop where
 lay:bI C G q r ws c
 kx:Kx [q,r0.p,r0.f,r0.n] HB G
 ep:r.p=r0.p
 ef:∀ b o,HB b=some o->b∉[q,r0.p,r0.f,r0.n]->b≠r.f
 en:∀ b o,HB b=some o->b∉[q,r0.p,r0.f,r0.n]->b≠r.n
 hp:G r.p=some (.lst (P.map V.int))
 hf:G r.f=some (.lst (fl.map V.int))
 hn:∃ nd,G r.n=some (.lst nd)
 lp:P.length=c
 lf:fl.length=ws.length
 ti:Ti (wn ws c) (fn P) (fn fl)
theorem wI_inR  (hin:∀ x∈ws,x.1<c/\x.2.1<c):∀ q∈ws.map wI,InR c q:=fun q hq=>by
 obtain⟨x,hx,rfl⟩:=List.mem_map.mp hq;obtain⟨i1,i2⟩:=hin x hx;exact⟨⟨by show(0:Int)<=(x.1:Nat);omega,by show((x.1:Nat):Int)<c;omega⟩,by show(0:Int)<=(x.2.1:Nat);omega,by show((x.2.1:Nat):Int)<c;omega⟩
section
variable {K:PySem.W.Frag}
def spLaid (K:PySem.W.Frag) (t:Adr):Sp:=fun vs H Q E=>∃ l ws,∃ c:Nat,vs=[.int c,.ref l]/\jr K H l ((ws:List Wt).map wI)/\(∀ x∈ws,x.1<c/\x.2.1<c)/\(∀ x∈ws,0<=x.2.2.2/\x.2.2.2<2 ^ 61)/\ws.length<=200/\c<=200/\H t.tb_search=some (.tbl oz oH) /\
 (∀ pl fl g pA fA H',ae H H'->H g=none->H' g=some (.tup [.ref pA,.ref fA])->H pA=none->H fA=none->pA≠fA->H' pA=some (.lst ((pl:List Int).map V.int))->H' fA=some (.lst ((fl:List Int).map V.int))->Told ws c (pl,fl)->jQ ws c pl fl->Q (.ref g) H') /\
 ∀ ring lr dx H',ae H H'->H' dx=some (.xd [("ring",.ref lr)])->H' lr=some (.lst (aM ring))->jN (wn ws c) ring->ring.length<=c + 1->E (.ref t.Ring) (some dx) H'
theorem Mb (T:Tx K mg a):Cal P w K mg base (CXe P w) 6 "laid" ["count","wishes"] [] (spLaid K a):=T.d_laid.cal fun f fd F=>by
 have i_Layout:=PV (P:=P) (w:=w) (base:=base) T;have sk:=ok_fit (P:=P) (w:=w) (base:=base) T;have bg:=D6 (P:=P) (w:=w) (base:=base) T;have cD:=On (P:=P) (w:=w) (base:=base) T;have aH:=Ej (P:=P) (w:=w) (base:=base) T;have eV:=Od (P:=P) (w:=w) (base:=base) T;have dc:=Lf (P:=P) (w:=w) (base:=base) T;have gk:=Pm (P:=P) (w:=w) (base:=base) T;refine F.okX vL (fun vs H Q E h=>?_) (fun aA A outer s H vs Q E hr h=>?_)
 ·obtain⟨l,ws,c,rfl,_⟩:=h
  rfl
 ·obtain⟨l,ws,c,rfl,uT,hin,r9,hw,hc,iZ,k1,k2⟩:=h
  have ok:=vD hin;refine⟨_,(aq (aQ (i:=2) vL.nd O (.inl O) (NS i_Layout (hr.mono (by decide)) rfl (af (pv 0) (af (pv 1) ak))))
   (aq (eJ (oy sk oG (hr.mono (by decide)) rfl (af (pv 2) ak)))
   (aq (aQ (i:=3) vL.nd O (.inl O) (a7 bg (hr.mono (by decide)) rfl (af (pv 1) ak)))
   (aq (cV PassesOwn.leaving rfl (bV (a7 cD (hr.mono (by decide)) rfl (af (pv 3) ak))) (az (i:=4) vL.nd O (.inr O)) (aq (jO (pv 2) (cY (N:=["amount"]) (cap:=[none]) O (bM (osc:=aC tz) (XN:=["count","wishes","layout","weights","worth"]) O O (by decide +kernel)) (bV (bG (pv 2) rfl)) (fun cl C s H fp aa=>(az (i:=0) (show(["amount"]:List Str).Nodup by decide +kernel) rfl (.inl rfl))) (fun cl C s H fp aa=>cy) (fun cl C s H fp aa=>(aI jM (pv 0) (p7 O T.k_BASE)))) O)
   (aq (jO (pv 2) (a7 aH (hr.mono (by decide)) rfl (af (pv 0) (af (pv 1) (af (cY (N:=["weight","worth"]) (cap:=[none,some 4]) O (bM (osc:=aC tz) (XN:=["count","wishes","layout","weights","worth"]) O O (by decide +kernel)) (bV (pv 3)) (fun cl C s H fp aa=>(az (i:=0) (show(["weight","worth"]:List Str).Nodup by decide +kernel) rfl (.inl rfl))) (fun cl C s H fp aa=>cy) (fun cl C s H fp aa=>(aI fV (aI Pu (pv 0) (pv 1)) (p7 O T.k_BASE)))) ak)))) O)
   (aB (uk PassesOwn.leaving (jq (bp EA rfl T.n_any FT (af (cY (N:=["need"]) (cap:=[none]) O (bM (osc:=aC tz) (XN:=["count","wishes","layout","weights","worth"]) O O (by decide +kernel)) (bV (bG (pv 2) rfl)) (fun cl C s H fp aa=>(az (i:=0) (show(["need"]:List Str).Nodup by decide +kernel) rfl (.inl rfl))) (fun cl C s H fp aa=>cy) (fun cl C s H fp aa=>(mF oK (pv 0) au (bH _)))) ak))) (aB (eJ (a7 eV (hr.mono (by decide)) rfl (af (pv 2) ak)))))))))
   (aB (bn (gG (af (a7 dc (hr.mono (by decide)) rfl (af (bG (pv 2) rfl) (af (a7 gk (hr.mono (by decide)) rfl (af (pv 0) (af (pv 1) ak))) ak))) (af (bG (pv 2) rfl) ak))))))))),?_⟩
  refine⟨_,O,_,O,fun q dx nq nd ne=>?_⟩;have Ib:upd H dx (.own q) q=none:=by rw[ai (Ne.symm ne)];exact nq
  have sa:ae H (upd (upd H dx (.own q)) q (.ins a.Layout dx [])):=(ae.new nd).trans (ae.new Ib);have qa:upd (upd H dx (.own q)) q (.ins a.Layout dx []) q=some (.ins a.Layout dx []):=ah;generalize upd (upd H dx (.own q)) q (.ins a.Layout dx [])=Ha at sa qa ⊢;refine⟨q,dx,l,ws,c,O,qa,uT.same sa,hin,by omega,by omega,fun r0 Hb Co Lb CQ CY uL np nf nn=>⟨O,?_⟩⟩;have sb:ae H Hb:=fun b o e=>Co b o (sa b o e) fun y=>by
   rw[S1.mp y,nq] at e;cases e
  have CF:=none_of sa np;have Qk:=none_of sa nf;have Qi:=none_of sa nn;refine⟨_,O,q,r0,ws,c,O,Lb,CQ,ok,hw,hc,fun zi yy Hc nR jv=>?_,fun ring lr Hk Hc nR zO Hx told len=>?_⟩
  rotate_left
  ·refine k2 ring lr Hk Hc (fun b o e=>nR b o (sb b o e) fun y=>?_) zO Hx told len
   rw[S1.mp y,CF] at e;cases e
  have sc:ae H Hc:=fun b o e=>nR b o (sb b o e) fun y=>by
   rw[S1.mp y,CF] at e;cases e
  have Lc:bI a.Layout Hc q r0 ws c:=Lb.kx nR fun y hy=>.inl (S1.mp hy)
  have Da:Hc r0.f=some (.lst ((List.replicate ws.length (0:Int)).map V.int)):=nR _ _ CY (by simp[Ne.symm Lb.pf]);have c7:Hc r0.n=some (.lst ((List.replicate c (0:Int)).map V.int)):=nR _ _ uL (by simp[Ne.symm Lb.pn]);clear Co nR CQ CY uL;refine⟨_,O,l,ws.map wI,O,uT.same sc,by rw[QT];omega,fun wl Hd sd KG b9=>?_⟩;have b9:Hd wl=some (.lst ((wts ws).map V.int)):=b9;have gJ:∀ x∈wts ws,0<=x/\x<2 ^ 61:=fun x hx=>by
   obtain⟨y,hy,rfl⟩:=List.mem_map.mp hx;obtain⟨z,hz,rfl⟩:=List.mem_map.mp hy;exact r9 z hz
  refine⟨_,O,wl,wts ws,O,SqL.of b9,gJ,fun m g He se ng hg yO zu=>?_⟩;have jf:=sd.trans se;have Dp:ae H He:=sc.trans jf;have xx:=se _ _ b9;have fr:∀ b∈[q,r0.p,r0.f,r0.n],H b=none:=fun b hb=>by
   simp only[Rp,Rk,or_false] at hb
   rcases hb with z|z|z|z <;> rw[z] <;> assumption
  have stay:∀ b o,H b=some o->∀ G,Kx [q,r0.p,r0.f,r0.n] He G->G b=some o:=fun b o e G kx=>kx b o (Dp b o e) fun y=>by
   rw[fr b y] at e;cases e
  have sG:∀ G,Kx [q,r0.p,r0.f,r0.n] He G->ae H G:=fun G kx b o e=>stay b o e G kx
  have al:∀ b∈[q,r0.p,r0.f,r0.n],∃ o,Hc b=some o:=fun b hb=>by
   obtain⟨Qw,HF⟩:=Lc.ex;simp only[Rp,Rk,or_false] at hb
   rcases hb with z|z|z|z <;> rw[z]
   ·exact⟨_,HF⟩
   ·exact⟨_,jv⟩
   ·exact⟨_,Da⟩
   ·exact⟨_,c7⟩
  have Ji:wl∉[q,r0.p,r0.f,r0.n]:=fun y=>by
   obtain⟨o,e⟩:=al wl y;rw[KG] at e;cases e
  have gS:g∉[q,r0.p,r0.f,r0.n]:=fun y=>by
   obtain⟨o,e⟩:=al g y;rw[sd _ _ e] at ng;cases ng
  have BS:∀ G,Kx [q,r0.p,r0.f,r0.n] He G->G wl=some (.lst ((wts ws).map V.int)):=fun G kx=>kx _ _ xx Ji
  have kg:∀ G,Kx [q,r0.p,r0.f,r0.n] He G->G g=some (.lst ((pw m).map V.int)):=fun G kx=>kx _ _ hg gS
  have Jd:=AX (wts ws);have Kb:∀ i,i<=m->(16:Int) ^ (m - i)<2 ^ 62:=fun i hi=>by
   rcases Tt m with z|z
   ·rw[z,Nat.zero_sub]
    decide
   ·have e1:=yO.1 (m - 1) (by omega)
    have e2:(16:Int) ^ m=16 ^ (m - 1) * 16:=by rw[<- p5,show m - 1 + 1=m by omega]
    have e3:=vS (m:=2 ^ 61 - 1) (wts ws) (by decide) fun x hx=>by
     have:=(gJ x hx).2;omega
    have e4:(16:Int) ^ (m - i)<=16 ^ m:=by
     have h:=Tl (n:=16) (by decide) (show m - i<=m by omega)
     exact_mod_cast h
    omega
  have pl:=vY m;refine⟨g,O,⟨_,SqL.of hg⟩,iP (K:=K) (a:=g) (xs:=(pw m).map V.int) (fun i σ G=>∃ r P fl v4,σ=[some (.int (c:Nat)),some (.ref l),some (.ref q),some (.ref wl),v4]/\Lp a.Layout He q r0 r ws c G P fl/\(∀ v,v<c->bal (wn ws c) (fn fl) v=bal (wn ws c) (fun n=>wtF ws n / (16:Int) ^ (m + 1 - i)) v) /\
    ∀ out,ip ws c ((pw m).drop i) (P,fl) out->ip ws c (pw m) (mD ws c,List.replicate ws.length 0) out)
   ⟨r0,mD ws c,List.replicate ws.length 0,none,rfl,⟨Lc.same jf,Kx.of (ae.refl _),rfl,fun b o e z y=>z (by rw[y];simp),fun b o e z y=>z (by rw[y];simp),jf _ _ jv,jf _ _ Da,⟨_,jf _ _ c7⟩,yy,Rs,?_⟩,?_,fun out h=>h⟩ ?_ ?_ ?_⟩
  ·rw[uZ]
   exact⟨zi,fun n _=>RF _,fun n _ z=>absurd z (Int.lt_irrefl _)⟩
  ·intro v hv
   rw[uZ];refine qp (fun n hn=>?_) v;have hn:n<ws.length:=hn;have wm:wtF ws n∈wts ws:=by
    rw[<- we];unfold fn;rw[QV,QX (by rw[tT];exact hn)];exact Sw _
   have e1:=Jd.2 _ wm;have e2:=(gJ _ wm).1;have e3:=yO.2;rw[<- p5] at e3;show(0:Int)=wtF ws n / 16 ^ (m + 1 - 0);rw[Nat.sub_zero];exact(Int.ediv_eq_zero_of_lt e2 (by omega)).symm
  ·rintro i σ G _ ⟨r,P,fl,v4,rfl,lp,_⟩
   exact SqL.of (kg G lp.kx)
  ·rintro i x σ G hx ⟨r,P,fl,v4,rfl,lp,hb,rM⟩
   have hi:i<=m:=by
    have:=(List.getElem?_eq_some_iff.mp hx).1;rw[QT,pl] at this;omega
   have ex:x=.int ((16:Int) ^ (m - i)):=by
    rw[Q4,At m i hi] at hx;exact(Option.some.inj hx).symm
   subst ex;have w0:=Fc (m - i);have w1:=Kb i hi;have lP:(16:Int) ^ (m + 1 - i)=16 ^ (m - i) * 16:=by rw[<- p5,show m + 1 - i=m - i + 1 by omega]
   rw[lP] at hb;have fin:∀ P' dN bo,Run ws c (figS ws c ((16:Int) ^ (m - i)) (P,fl)) (P',dN,bo)->∀ out,ip ws c ((pw m).drop (i + 1)) (P',dN) out->ip ws c (pw m) (mD ws c,List.replicate ws.length 0) out:=fun P' dN bo hr out ho=>by
    refine rM out ?_;rw[LP m i hi];exact ip.cons _ _ _ _ _ hr ho
   rw[show m + 1 - (i + 1)=m - i by omega];generalize hW:(16:Int) ^ (m - i)=W at *;clear rM lP hx;obtain⟨JH,J3⟩:=Pz w0 hin lp.ti hb;obtain⟨cE,gL⟩:=lp.lay.ex;obtain⟨Ce,sJ⟩:=lp.hn;dsimp only[bA];refine⟨_,O,q,a.Layout,cE,_,_,O,gL,T.c_Layout,T.na_Layout_flow,uc,r.f,O,⟨_,SqL.of lp.hf⟩,fun D hD=>?_⟩;refine fW (K:=K) (a:=r.f) (xs:=fl.map V.int) (fun j τ G'=>∃ v1,τ=[v1]/\ae G G'/\G' D=some (.lst (((fl.take j).map fun x=>x * 16).map V.int))) ⟨none,O,ae.new hD,ah⟩ ?_ ?_ ?_
   ·rintro j τ G' _ ⟨v1,rfl,sg,_⟩
    exact SqL.of (sg _ _ lp.hf)
   ·rintro j y τ G' hy ⟨v1,rfl,sg,jy⟩
    obtain⟨z,hz,rfl⟩:=iS hy;dsimp only[bA,cK];rw[if_pos rfl];refine⟨_,O,_,_,O,O,.inr ⟨by decide,by decide⟩,_,jy,?_,_,O,bv hD sg,?_⟩
    ·have:=lp.lf
     rw[QT,QT,Rb,Q3];omega
    ·rw[ah,zam hz,Q2,Q2]
     rfl
   rintro τ G1 ⟨v1,rfl,s1,jz⟩
   rw[QT,Rf] at jz;refine⟨_,O,q,a.Layout,cE,_,O,s1 _ _ gL,T.c_Layout,T.na_Layout_flow,(by show 8<1000;decide),?_⟩;rw[PD];have L2:=lp.lay.reF (dx:=cE) s1 hD lp.hp sJ ⟨_,O⟩ ⟨_,O⟩;have uv:=ah (H:=G1) (a:=q) (o:=HO.ins a.Layout cE (bO { r with f:=D }));have gM:Kx [q,r0.p,r0.f,r0.n] He (upd G1 q (.ins a.Layout cE (bO { r with f:=D }))):=(lp.kx.trans (Kx.of s1)).trans (Kx.upd (by simp));have w5:D≠q:=Ne.symm (ap gL hD);have gR:upd G1 q (.ins a.Layout cE (bO { r with f:=D })) r.p=some (.lst (P.map V.int)):=by rw[ai (Ne.symm lp.lay.nq.1)];exact s1 _ _ lp.hp
   have uW:upd G1 q (.ins a.Layout cE (bO { r with f:=D })) D=some (.lst ((fl.map fun x=>x * 16).map V.int)):=by rw[ai w5];exact jz
   have CL:∀ b o,He b=some o->b∉[q,r0.p,r0.f,r0.n]->b≠D:=fun b o e z=>ap (lp.kx b o e z) hD
   generalize upd G1 q (.ins a.Layout cE (bO { r with f:=D }))=G2 at L2 uv gM gR uW ⊢;refine⟨_,O,_,O,_,O,wl,O,⟨_,SqL.of (BS G2 gM)⟩,fun Z hZ=>?_⟩;refine fW (K:=K) (a:=wl) (xs:=(wts ws).map V.int) (fun j τ G'=>∃ v1,τ=[v1,some (.int W)]/\ae G2 G'/\G' Z=some (.lst ((((wts ws).take j).map fun y=>y / W % 16).map V.int))) ⟨none,O,ae.new hZ,ah⟩ ?_ ?_ ?_
   ·rintro j τ G' _ ⟨v1,rfl,sg,_⟩
    exact SqL.of (sg _ _ (BS G2 gM))
   ·rintro j y τ G' hy ⟨v1,rfl,sg,jy⟩
    obtain⟨z,hz,rfl⟩:=iS hy;dsimp only[bA,cK];rw[if_pos rfl];refine⟨_,O,_,O,_,_,O,O,⟨w0,w1⟩,_,_,O,O,(by show(0:Int)<16;decide),_,jy,?_,_,O,bv hZ sg,?_⟩
    ·have:=tT ws
     rw[QT,QT,Rb,Q3];omega
    ·rw[ah,zam hz,Q2,Q2]
     rfl
   rintro τ G3 ⟨v2,rfl,s3,lR⟩
   rw[QT,Rf] at lR;have lR:G3 Z=some (.lst ((iN ws W).map V.int)):=lR;refine⟨(c:Int),l,ws.map wI,Z,iN ws W,O,uT.same ((sG G2 gM).trans s3),SqL.of lR,by rw[GB,QT],by omega,by omega,by rw[Q7];exact wI_inR hin,fun nA G4 s4 CB h4=>?_⟩;rw[Q7] at h4;have pM:=s3.trans s4;refine⟨_,O,q,a.Layout,cE,_,O,pM _ _ uv,T.c_Layout,T.na_Layout_needs,(by show 8<1000;decide),?_⟩;rw[Oh];have kJ:G2 nA=none:=none_of s3 CB;have L5:=L2.reN (dx:=cE) pM kJ gR uW ⟨_,O⟩ ⟨_,O⟩;have iE:Kx [q,r0.p,r0.f,r0.n] He (upd G4 q (.ins a.Layout cE (bO { { r with f:=D } with n:=nA }))):=(gM.trans (Kx.of pM)).trans (Kx.upd (by simp));have Cw:nA≠q:=Ne.symm (ap uv kJ);have mZ:upd G4 q (.ins a.Layout cE (bO { { r with f:=D } with n:=nA })) r.p=some (.lst (P.map V.int)):=by rw[ai (Ne.symm lp.lay.nq.1)];exact pM _ _ gR
   have kq:upd G4 q (.ins a.Layout cE (bO { { r with f:=D } with n:=nA })) D=some (.lst ((fl.map fun x=>x * 16).map V.int)):=by rw[ai w5];exact pM _ _ uW
   have pE:upd G4 q (.ins a.Layout cE (bO { { r with f:=D } with n:=nA })) nA=some (.lst ((bP c (ws.map wI) (iN ws W)).map V.int)):=by rw[ai Cw];exact h4
   have kI:∀ b o,He b=some o->b∉[q,r0.p,r0.f,r0.n]->b≠nA:=fun b o e z=>ap (gM b o e z) kJ
   generalize upd G4 q (.ins a.Layout cE (bO { { r with f:=D } with n:=nA }))=G5 at L5 iE mZ kq pE ⊢;obtain⟨r',er'⟩:∃ r':LR,r'={ { r with f:=D } with n:=nA }:=⟨_,O⟩;rw[<- er'] at L5;have rp:r'.p=r.p:=by rw[er']
   have rf:r'.f=D:=by rw[er']
   have rn:r'.n=nA:=by rw[er']
   rw[<- rp] at mZ;rw[<- rf] at kq CL;rw[<- rn] at pE kI;have IR:r'.p=r0.p:=rp.trans lp.ep;have Kz:(fl.map fun x=>x * 16).length=ws.length:=by rw[QT];exact lp.lf
   have Iv:=lp.lp;have rN:∀ n,n<ws.length->0<=wtF ws n / W:=fun n hn=>by
    have wm:wtF ws n∈wts ws:=by
     rw[<- we];unfold fn;rw[QV,QX (by rw[tT];exact hn)];exact Sw _
    exact Int.ediv_nonneg (gJ _ wm).1 (SG w0)
   clear hb L2 uv gM gR uW CB kJ pM s3 s4 h4 lR hZ hD jz s1 gL sJ er' rp rf rn Cw w5;refine⟨fun mm σ G=>∃ P' dN bo,mm=mw (wn ws c) (fn bo)/\σ=[some (.int (c:Nat)),some (.ref l),some (.ref q),some (.ref wl),some (.int W)]/\Lp a.Layout He q r0 r' ws c G P' dN/\G r'.n=some (.lst ((bo:List Int).map V.int))/\bo.length=c/\(∀ v,v<c->fn bo v=bal (wn ws c) (fun n=>wtF ws n / W) v - bal (wn ws c) (fn dN) v) /\
     ∀ t,Run ws c (P',dN,bo) t->Run ws c (figS ws c W (P,fl)) t,
    ⟨_,P,fl.map (fun x=>x * 16),bP c (ws.map wI) (iN ws W),O,O,⟨L5,iE,IR,CL,kI,mZ,kq,⟨_,pE⟩,Iv,Kz,JH⟩,pE,vE _ _ _,J3,fun t h=>h⟩,?_⟩
   rintro mm σ G6 ⟨P',dN,bo,rfl,rfl,iY,uX,Kp,uG,rA⟩
   obtain⟨Ja,Jf⟩:=iY.lay.ex;refine⟨_,O,q,a.Layout,Ja,_,_,O,Jf,T.c_Layout,T.na_Layout_needs,ow,r'.n,O,⟨_,SqL.of uX⟩,fun Y hY=>?_⟩;refine fW (K:=K) (a:=r'.n) (xs:=bo.map V.int) (fun j τ G'=>∃ v1,τ=[v1]/\ae G6 G'/\G' Y=some (.lst (((bo.take j).map fun x=>decide (0<x)).map V.bl))) ⟨none,O,ae.new hY,ah⟩ ?_ ?_ ?_
   ·rintro j τ G' _ ⟨v1,rfl,sg,_⟩
    exact SqL.of (sg _ _ uX)
   ·rintro j y τ G' hy ⟨v1,rfl,sg,jy⟩
    obtain⟨z,hz,rfl⟩:=iS hy;dsimp only[bA,cK];rw[if_pos rfl];refine⟨_,O,_,_,O,O,_,jy,?_,_,O,bv hY sg,?_⟩
    ·rw[QT,QT,Rb,Q3]
     omega
    ·rw[ah,zam hz,Q2,Q2]
     rfl
   rintro τ G7 ⟨v3,rfl,s7,CT⟩
   rw[QT,Rf] at CT;have fN:Lp a.Layout He q r0 r' ws c G7 P' dN:=⟨iY.lay.same s7,iY.kx.trans (Kx.of s7),iY.ep,iY.ef,iY.en,s7 _ _ iY.hp,s7 _ _ iY.hf,⟨_,s7 _ _ uX⟩,iY.lp,iY.lf,iY.ti⟩;have K0:=s7 _ _ uX;refine⟨Y,_,O,SqL.of CT,_,O,?_⟩;refine dv (fun c1=>?_) (fun c1=>?_)
   ·-- some point needs some
    obtain⟨k0,BJ,Dw⟩:∃ v,v<c/\0<fn bo v:=by
     rw[TR] at c1;obtain⟨x,hx,ja⟩:=List.any_eq_true.mp c1;obtain⟨j,hj⟩:=List.mem_iff_getElem?.mp hx;have jl:=(List.getElem?_eq_some_iff.mp hj).1;refine⟨j,by omega,?_⟩;unfold fn;rw[QV,hj];exact Rj ja
    refine⟨_,fun σ' H' h=>h,?_⟩;refine⟨_,O,q,r',ws,c,P',dN,bo,fun n=>wtF ws n / W,k0,O,fN.lay,fN.hp,fN.lp,fN.hf,fN.lf,K0,Kp,ok,hw,hc,fN.ti,rN,uG,BJ,Dw,stay _ _ iZ G7 fN.kx,fun P2 KB iG G8 py p8 f8 n8 snd l1 l2 l3 KR Ju less=>?_⟩;have IQ:Kx [q,r0.p,r0.f,r0.n] He G8:=fun b o e z=>py b o (fN.kx b o e z) fun y=>by
     simp only[Rp,Rk,or_false] at y
     rcases y with y|y|y
     ·exact z (by rw[y,fN.ep];simp)
     ·exact fN.ef b o e z y
     ·exact fN.en b o e z y
    have L8:bI a.Layout G8 q r' ws c:=fN.lay.kx py fun y hy=>by
     simp only[Rp,Rk,or_false] at hy
     rcases hy with z|z|z
     ·exact .inl z
     ·exact .inr (.inl z)
     ·exact .inr (.inr (.inl z))
    exact⟨_,less,P2,KB,iG,O,O,⟨L8,IQ,fN.ep,fN.ef,fN.en,p8,f8,⟨_,n8⟩,l1,l2,KR⟩,n8,l3,Ju,fun t h=>rA t (Run.step _ _ _ ⟨k0,BJ,Dw⟩ snd h)⟩
   ·have non:∀ v,v<c->¬ 0<fn bo v:=fun v hv z=>by
     rw[TR] at c1;have:=List.any_eq_false.mp c1 (fn bo v) (by
      unfold fn;rw[QV,QX (show v<bo.length by omega)];exact Sw _)
     exact this (Ro z)
    exact⟨r',P',dN,_,O,fN,L9 ok uG non,fin P' dN bo (rA _ (Run.stop _ non))⟩
  ·rintro σ G ⟨r,P,fl,v4,rfl,lp,hb,rM⟩
   rw[QT,pl] at hb rM;have fg:=rM _ (by rw[List.drop_eq_nil_of_le (by omega)];exact ip.nil _);have hb:∀ v,v<c->bal (wn ws c) (fn fl) v=bal (wn ws c) (wtF ws) v:=fun v hv=>by
    rw[hb v hv];refine qp (fun n _=>?_) v;show wtF ws n / 16 ^ (m + 1 - (m + 1))=_;rw[Nat.sub_self,Int.pow_zero,Int.ediv_one]
   obtain⟨cE,gL⟩:=lp.lay.ex;have QG:(ptF ws c).length=c:=by
    unfold ptF;rw[vU,RU]
   have QE:=lp.lp;have xV:=lp.hp;have qy:=lp.hf;have uK:=sG G lp.kx;refine⟨_,O,q,a.Layout,cE,_,_,O,gL,T.c_Layout,T.na_Layout_places,oQ,_,O,_,O,l,ws,c,O,uT.same uK,hin,by omega,fun gp G1 s1 n1 h1=>?_⟩;refine⟨r.p,gp,P,ptF ws c,O,SqL.of (s1 _ _ xV),SqL.of h1,by omega,by omega,fun gn G2 s2 n2 h2=>?_⟩;have ur:=s1.trans s2;have CS:G gn=none:=none_of s1 n2;refine⟨_,O,q,a.Layout,cE,_,_,O,ur _ _ gL,T.c_Layout,T.na_Layout_flow,uc,(by show 2<=sizeLine;decide),fun gt zq=>?_⟩;have s3:ae G2 (upd G2 gt (.tup [.ref gn,.ref r.f])):=ae.new zq;have wW:=uK.trans (ur.trans s3);have HX:H r.f=none:=by
    cases e:H r.f with
    | none=>rfl
    | some o=>exact absurd O (lp.ef r.f o (Dp _ _ e) fun y=>by rw[fr _ y] at e;cases e)
   exact k1 _ _ gt gn r.f _ wW (none_of (uK.trans ur) zq) ah (none_of uK CS) HX (Ne.symm (ap qy CS)) (s3 _ _ h2) (s3 _ _ (ur _ _ qy)) ⟨m,P,fl,yO,fg,O⟩ (MU hin lp.lp lp.lf lp.ti hb)
end
theorem pickM (P:Nat->Int){q:Nat} (hq:q<c) (x:Int):sm (fun v=>P v * (if q=v then x else 0)) c=P q * x:=by
 have e:sm (fun v=>P v * (if q=v then x else 0)) c=sm (fun v=>if v=q then P q * x else 0) c:=cX c fun v _=>by
  by_cases h:v=q
  ·subst h
   rw[if_pos rfl,if_pos rfl]
  ·rw[if_neg (Ne.symm h),if_neg h,Int.mul_zero]
 rw[e,qb,if_pos hq]
theorem FU  (ok:N.Ok) (a P:Nat->Int):sm (fun n=>a n * (P (N.ot n) - P (N.on n))) N.m=sm (fun v=>P v * bal N a v) N.c:=by
 have e:sm (fun v=>P v * bal N a v) N.c=sm (fun v=>sm (fun n=>P v * ((if N.ot n=v then a n else 0) - (if N.on n=v then a n else 0))) N.m) N.c:=cX _ fun v _=>by
  unfold bal;rw[Aw]
 rw[e,Al];refine cX _ fun n hn=>?_
 have e2:sm (fun v=>P v * ((if N.ot n=v then a n else 0) - (if N.on n=v then a n else 0))) N.c=sm (fun v=>P v * (if N.ot n=v then a n else 0) - P v * (if N.on n=v then a n else 0)) N.c:=cX _ fun v _=>Int.mul_sub _ _ _
 rw[e2,kR,pickM P (ok.ot n hn),pickM P (ok.on n hn),Int.mul_sub,Int.mul_comm (a n),Int.mul_comm (a n)]
variable {Q:Nat->Int}{fl:List Int}{g y:Int}{n s:Str}{rs:List Addr}{v:Str->Int}{x:V}
theorem DJ  (ok:N.Ok){a b P:Nat->Int} (h:∀ v,v<N.c->bal N a v=bal N b v):sm (fun n=>a n * (P (N.ot n) - P (N.on n))) N.m=sm (fun n=>b n * (P (N.ot n) - P (N.on n))) N.m:=by
 rw[FU ok,FU ok];exact cX _ fun v hv=>by rw[h v hv]
theorem sm_le {f g:Nat->Int}:∀ n,(∀ i,i<n->f i<=g i)->sm f n<=sm g n
 | 0,_=>RF _
 | n + 1,h=>by
  have:=sm_le n fun i hi=>h i (by omega)
  have:=h n (by omega);show sm f n + f n<=sm g n + g n;omega
theorem weak  (ok:N.Ok){a w P:Nat->Int} (h:∀ v,v<N.c->bal N a v=bal N w v) (a0:∀ n,n<N.m->0<=a n) (fit:∀ n,n<N.m->0<=slk N P n):sm (fun n=>a n * N.le n) N.m<=sm (fun n=>w n * (P (N.ot n) - P (N.on n))) N.m:=by
 rw[<- DJ ok h];refine sm_le _ fun n hn=>?_
 have:=fit n hn;unfold slk at this;exact Tq (by omega) (a0 n hn)
theorem GU  (ok:N.Ok){a w P:Nat->Int} (h:∀ v,v<N.c->bal N a v=bal N w v) (ti:Ti N P a):sm (fun n=>a n * N.le n) N.m=sm (fun n=>w n * (P (N.ot n) - P (N.on n))) N.m:=by
 rw[<- DJ ok h];refine cX _ fun n hn=>?_
 by_cases c:0<a n
 ·have:=ti.t n hn c
  unfold slk at this;rw[show P (N.ot n) - P (N.on n)=N.le n by omega]
 ·have:=ti.f n hn
  rw[show a n=0 by omega,Us,Us]
def cU (l:List Wt) (Q:Nat->Int):Int:=(l.map fun x=>x.2.2.2 * (Q x.2.1 - Q x.1)).sum
def jG (l:List Wt) (Q:Nat->Int):Prop:=∀ x∈l,x.2.2.1<=Q x.2.1 - Q x.1
theorem Bi {α:Type} (l:List α) (d:α) (f:α->Int):∀ i,i<=l.length->((l.take i).map f).sum=sm (fun n=>f (l.getD n d)) i
 | 0,_=>rfl
 | i + 1,h=>by
  have ih:=Bi l d f i (by omega);have e:l[i]?=some (l.getD i d):=by rw[QV,QX (show i<l.length by omega)];rfl
  rw[L2.zam e,Q2,List.sum_append,ih];show sm (fun n=>f (l.getD n d)) i + (f (l.getD i d) + 0)=sm (fun n=>f (l.getD n d)) i + f (l.getD i d);omega
theorem Aj (ws:List Wt) (c:Nat) (Q:Nat->Int):cU ws Q=sm (fun n=>wtF ws n * (Q ((wn ws c).ot n) - Q ((wn ws c).on n))) ws.length:=by
 have h:=Bi ws (0,0,0,0) (fun x=>x.2.2.2 * (Q x.2.1 - Q x.1)) ws.length (QY _);rw[Rf] at h;exact h
theorem jG.slk {ws:List Wt}{c:Nat}{Q:Nat->Int} (h:jG ws Q):∀ n,n<ws.length->0<=slk (wn ws c) Q n:=fun n hn=>by
 have e:ws[n]?=some (ws.getD n (0,0,0,0)):=by rw[QV,QX hn];rfl
 have:=h _ (Q0 e);show 0<=Q (ws.getD n (0,0,0,0)).2.1 - Q (ws.getD n (0,0,0,0)).1 - (ws.getD n (0,0,0,0)).2.2.1;omega
theorem jQ.fit  (h:jQ ws c pl fl):jG ws (fn pl):=fun x hx=>by
 obtain⟨n,e⟩:=List.mem_iff_getElem?.mp hx;have hn:=(List.getElem?_eq_some_iff.mp e).1;have s:=h.ti.s n hn;have s:0<=fn pl (ws.getD n (0,0,0,0)).2.1 - fn pl (ws.getD n (0,0,0,0)).1 - (ws.getD n (0,0,0,0)).2.2.1:=s;rw[QV,e] at s;have s:0<=fn pl x.2.1 - fn pl x.1 - x.2.2.1:=s;omega
theorem jQ.opt  (hin:∀ x∈ws,x.1<c/\x.2.1<c) (h:jQ ws c pl fl) (hq:jG ws Q):cU ws (fn pl)<=cU ws Q:=by
 have s:=GU (N:=wn ws c) (vD hin) h.bl h.ti;have w:=weak (N:=wn ws c) (vD hin) h.bl h.ti.f hq.slk;rw[Aj ws c,Aj ws c];exact Int.le_trans (Int.le_of_eq s.symm) w
theorem jN.nofit  (h:jN (wn ws c) ring) (hq:jG ws Q):False:=h.none (P:=Q) hq.slk
structure Oth (ws ol:List Wt) (rn:Nat->Nat):Prop where
 of_:∀ y∈ol,∃ x∈ws,y.1=rn x.1/\y.2.1=rn x.2.1/\y.2.2.1=x.2.2.1
 all:∀ x∈ws,∃ y∈ol,y.1=rn x.1/\y.2.1=rn x.2.1/\y.2.2.1=x.2.2.1
 wt:∀ y∈ol,0<=y.2.2.2/\y.2.2.2<2 ^ 61
 sum:∀ Q,cU ol Q=cU ws fun v=>Q (rn v)
namespace Sd
abbrev Kvs:=List (Key×V)
abbrev Row:=List Str
abbrev Ln:=Str×Str
def lnD (q:Ln):Dt:=.tup [.str q.1,.str q.2]
def Rw (H:Hp):List Addr->List Row->Prop
 | [],[]=>True
 | r::rs,row::rows=>H r=some (.lst (row.map V.str))/\Rw H rs rows
 | _,_=>False
theorem Rw.mono {H H':Hp} (s:∀ (r:Addr) (row:Row),H r=some (.lst (row.map V.str))->H' r=some (.lst (row.map V.str))):∀ {rs:List Addr}{rows:List Row},Rw H rs rows->Rw H' rs rows
 | [],[],_=>trivial
 | r::rs,row::rows,h=>⟨s _ _ h.1,Rw.mono s h.2⟩
 | [],_::_,h=>h.elim
 | _::_,[],h=>h.elim
theorem Rw.same  (s:ae H H'){rows:List Row} (h:Rw H rs rows):Rw H' rs rows:=h.mono fun _ _ e=>s _ _ e
theorem Rw.len {H:Hp}:∀ {rs:List Addr}{rows:List Row},Rw H rs rows->rs.length=rows.length
 | [],[],_=>rfl
 | r::rs,row::rows,h=>by rw[Re,Re,Rw.len h.2]
 | [],_::_,h=>h.elim
 | _::_,[],h=>h.elim
theorem Rw.at {H:Hp}:∀ {rs:List Addr}{rows:List Row}{i:Nat}{r:Addr},Rw H rs rows->rs[i]?=some r->∃ row,rows[i]?=some row/\H r=some (.lst (row.map V.str))
 | [],[],_,_,_,e=>by simp at e
 | r::rs,row::rows,0,_,h,e=>by
  cases e
  exact⟨row,O,h.1⟩
 | r::rs,row::rows,i + 1,_,h,e=>Rw.at (i:=i) h.2 (by simpa using e)
 | [],_::_,_,_,h,_=>h.elim
 | _::_,[],_,_,h,_=>h.elim
theorem Rw.snoc {H:Hp}{r:Addr}{row:Row} (e:H r=some (.lst (row.map V.str))):∀ {rs:List Addr}{rows:List Row},Rw H rs rows->Rw H (rs++[r]) (rows++[row])
 | [],[],_=>⟨e,trivial⟩
 | _::_,_::_,h=>⟨h.1,Rw.snoc e h.2⟩
 | [],_::_,h=>h.elim
 | _::_,[],h=>h.elim
theorem Rw.upd {H:Hp}{l:Addr}{o:HO}:∀ {rs:List Addr}{rows:List Row},Rw H rs rows->(∀ r∈rs,r≠l)->Rw (L2.upd H l o) rs rows
 | [],[],_,_=>trivial
 | r::rs,row::rows,h,n=>⟨by rw[ai (n r Q9)];exact h.1,Rw.upd h.2 fun x hx=>n x (Q6 _ hx)⟩
 | [],_::_,h,_=>h.elim
 | _::_,[],h,_=>h.elim
theorem Rw.put {H:Hp}{r:Addr}{row:Row}:∀ {rs:List Addr}{rows:List Row}{i:Nat},Rw H rs rows->rs.Nodup->rs[i]?=some r->Rw (L2.upd H r (.lst (row.map V.str))) rs (rows.set i row)
 | [],[],_,_,_,e=>by simp at e
 | x::rs,_::rows,0,h,n,e=>by
  have e':x=r:=by simpa using e
  subst e';rw[SX] at n;refine⟨ah,?_⟩;have go:∀ {rs:List Addr}{rows:List Row},x∉rs->Rw H rs rows->Rw (L2.upd H x (.lst (row.map V.str))) rs rows:=by
   intro rs
   induction rs with
   | nil=>intro rows _ h;cases rows with
    | nil=>trivial
    | cons=>exact h.elim
   | cons y rs ih=>intro rows m h;cases rows with
    | nil=>exact h.elim
    | cons=>exact⟨by rw[ai (fun z=>m (by rw[<- z];exact Q9))];exact h.1,ih (fun z=>m (Q6 _ z)) h.2⟩
  exact go n.1 h.2
 | x::rs,_::rows,i + 1,h,n,e=>by
  rw[SX] at n;have e':rs[i]?=some r:=by simpa using e
  have ne:x≠r:=fun z=>n.1 (by rw[z];exact Q0 e')
  exact⟨by rw[ai ne];exact h.1,Rw.put h.2 n.2 e'⟩
 | [],_::_,_,h,_,_=>h.elim
 | _::_,[],_,h,_,_=>h.elim
def Has (kvs:Kvs) (s:Str):Prop:=∃ i:Int,aN kvs (Sum.inr s)=some (.int i)
def gv (kvs:Kvs) (s:Str):Int:=match aN kvs (Sum.inr s) with
 | some (.int i)=>i
 | _=>0
theorem Has.gv {kvs:Kvs}{s:Str} (h:Has kvs s):aN kvs (Sum.inr s)=some (.int (gv kvs s)):=by
 obtain⟨i,e⟩:=h;unfold K63.Sd.gv;rw[e]
theorem gv_put (kvs:Kvs) (s t:Str) (i:Int):gv (aE kvs (Sum.inr s) (.int i)) t=if t=s then i else gv kvs t:=by
 unfold gv;rw[kP];by_cases e:t=s
 ·rw[if_pos e,if_pos (by rw[e])]
 ·rw[if_neg e,if_neg (fun z=>e (Sum.inr.inj z))]
theorem Has.put {t:Str}{i:Int} (h:Has kvs t):Has (aE kvs (Sum.inr s) (.int i)) t:=by
 obtain⟨j,e⟩:=h;unfold Has;rw[kP];by_cases z:t=s
 ·rw[if_pos (by rw[z])]
  exact⟨i,O⟩
 ·rw[if_neg (fun y=>z (Sum.inr.inj y))]
  exact⟨j,e⟩
theorem Has.new {i:Int}:Has (aE kvs (Sum.inr s) (.int i)) s:=by
 unfold Has;rw[kP,if_pos rfl];exact⟨i,O⟩
def nb (row:Row):List Ln:=row.zip (row.drop 1)
def nbs (rows:List Row):List Ln:=(rows.map nb).flatten
theorem nb_get {row:Row}{x y:Str} (h1:row[i]?=some x) (h2:row[i + 1]?=some y):(nb row)[i]?=some (x,y):=by
 unfold nb;rw[Rx];exact⟨h1,by rw[Tu,TL];exact h2⟩
theorem nb_len (row:Row):(nb row).length=row.length - 1:=by
 unfold nb;rw[RL,Sv];omega
theorem nb_mem {row:Row}{q:Ln} (h:q∈nb row):q.1∈row/\q.2∈row:=by
 unfold nb at h;have:=SU (a:=q.1) (b:=q.2) h;exact⟨this.1,List.mem_of_mem_drop this.2⟩
theorem nbs_mem {rows:List Row}{q:Ln} (h:q∈nbs rows):∃ row∈rows,q.1∈row/\q.2∈row:=by
 unfold nbs at h;obtain⟨l,hl,hq⟩:=List.mem_flatten.mp h;obtain⟨row,hr,rfl⟩:=List.mem_map.mp hl;exact⟨row,hr,nb_mem hq⟩
theorem nbs_snoc {rows:List Row}{row:Row} (h:rows[i]?=some row):nbs (rows.take (i + 1))=nbs (rows.take i)++nb row:=by
 unfold nbs;rw[zam h,Q2,SS];simp
def kp1 (hv qv:Kvs) (g:Int) (q:Ln):Bool:=decide (gv qv q.2 - gv qv q.1 >= gv hv q.1 + gv hv q.2 + g)
section
variable {K:PySem.W.Frag}
theorem un_ln {q:Ln} (h:DtV K H (lnD q) x):∃ t,x=.ref t/\SqT K H t [.str q.1,.str q.2]:=by
 obtain⟨t,xs,rfl,h1,y1,Dv,rfl,rfl,y2,xA,rfl,rfl,h2⟩:=h;rw[show xA=[] from h2] at h1;exact⟨t,O,h1⟩
def K6:Sp:=fun vs H Q _=>∃ h g l r kvs,vs=[.ref h,.int g,.str l,.str r]/\H h=some (.dK kvs)/\Has kvs l/\Has kvs r/\Q (.int (gv kvs l + gv kvs r + g)) H
theorem Gj (T:Tx K mg a):Cal P w K mg base CX0 1 "apart" ["halves","gap","left","right"] [] K6:=T.d_apart.cal fun f fd F=>by
 refine F.ok Ml (fun vs H Q E h=>?_) (fun aA A outer s H vs Q E hr h=>?_)
 ·obtain⟨h,g,l,r,kvs,rfl,_⟩:=h
  rfl
 ·obtain⟨h,g,l,r,kvs,rfl,hh,h1,h2,k⟩:=h
  refine⟨_,(aB (bn (aI fu (aI fu (cH (bb hr) (pv 0) (pv 2) (fun _ _=>O)) (cH (bb hr) (pv 0) (pv 3) (fun _ _=>O))) (pv 1)))),?_⟩;exact⟨_,O,_,O,h,_,O,gC (k:=Sum.inr l) hh h1.gv,_,O,_,O,h,_,O,gC (k:=Sum.inr r) hh h2.gv,_,_,O,O,_,O,_,_,O,O,k⟩
def LsAt (K:PySem.W.Frag) (H:Hp) (l:Addr) (ls:List Ln):Prop:=∃ xs,H l=some (.lst xs)/\aJ K H (ls.map lnD) xs
def spNbs (K:PySem.W.Frag):Sp:=fun vs H Q _=>∃ l rs rows,vs=[.ref l]/\H l=some (.lst ((rs:List Addr).map V.ref))/\Rw H rs rows/\rows.length<=30/\(∀ row∈rows,row.length<=60)/\∀ d H',ae H H'->LsAt K H' d (nbs rows)->(nbs rows).length<=1800->Q (.ref d) H'
theorem EL (T:Tx K mg a):Cal P w K mg base CX0 1 "neighbours" ["rows"] [] (spNbs K):=T.d_neighbours.cal fun f fd F=>by
 refine F.ok Ag (fun vs H Q E h=>?_) (fun aA A outer s H vs Q E hr h=>?_)
 ·obtain⟨l,rs,rows,rfl,_⟩:=h
  rfl
 ·obtain⟨l,rs,rows,rfl,hl,fQ,hk,hm,k⟩:=h
  have aj:=fQ.len;refine⟨_,(aq (aQ (i:=1) Ag.nd O (.inl O) (dJ ak))
   (aq (cV PassesOwn.never rfl (bV (pv 0)) (az (i:=2) Ag.nd O (.inl O)) (aB (eJ (iO PySem.F.plainAttrs_list PySem.F.slot_list_extend PySem.F.type_list_extend Ax (pv 1) (af (cY (N:=["left","right"]) (cap:=[none,none]) O (bM (osc:=aC Bg) (XN:=["rows","found","row"]) O O (by decide +kernel)) (pc rfl T.n_zip (af (pv 2) (af (vW z8 (pv 2) (tP au) AW) ak))) (fun cl C s H fp aa=>(jS (K:=K) (n:=2) O O (aO (az (i:=0) (show(["left","right"]:List Str).Nodup by decide +kernel) rfl (.inl rfl)) (aO (az (i:=1) (show(["left","right"]:List Str).Nodup by decide +kernel) rfl (.inl rfl)) cz)))) (fun cl C s H fp aa=>cy) (fun cl C s H fp aa=>(gG (af (pv 0) (af (pv 1) ak))))) ak)))))
   (aB (bn (pv 1))))),?_⟩
  refine⟨(by show 0<=sizeLine;decide),fun g ng=>?_⟩;have s1:ae H (upd H g (.lst [])):=ae.new ng;have h1:upd H g (.lst []) g=some (.lst []):=ah;generalize upd H g (.lst [])=H1 at s1 h1 ⊢;refine⟨_,O,l,O,⟨_,SqL.of (s1 _ _ hl)⟩,iP (K:=K) (a:=l) (xs:=rs.map V.ref) (fun i σ H'=>∃ v2 xs,σ=[some (.ref l),some (.ref g),v2]/\ae H H'/\H' g=some (.lst xs)/\aJ K H' ((nbs (rows.take i)).map lnD) xs/\xs.length<=60 * i)
   ⟨none,[],rfl,s1,h1,rfl,R9 _⟩ ?_ ?_ ?_⟩
  ·rintro i σ H' _ ⟨_,_,rfl,sm,_⟩
   exact SqL.of (sm _ _ hl)
  ·rintro i x σ H' hx ⟨v2,xs,rfl,sm,hg,aR,kx⟩
   obtain⟨r,sQ,rfl⟩:=Av hx;obtain⟨row,bX,jD⟩:=fQ.at sQ;have CN:=hm row (Q0 bX);have hi:i<rows.length:=(List.getElem?_eq_some_iff.mp bX).1;dsimp only[bA];refine⟨_,O,.inl ⟨O,_,SqL.of hg⟩,_,O,_,O,_,O,r,_,O,SqL.of (sm _ _ jD),fun z nz=>?_⟩;rw[O6];have s2:ae H' (upd H' z (.lst ((row.map V.str).drop 1))):=ae.new nz;have h2:upd H' z (.lst ((row.map V.str).drop 1)) z=some (.lst ((row.map V.str).drop 1)):=ah;generalize upd H' z (.lst ((row.map V.str).drop 1))=H2 at s2 h2 ⊢;have t2:=sm.trans s2;refine⟨r,z,O,⟨_,SqL.of (t2 _ _ jD)⟩,⟨_,SqL.of h2⟩,fun D hD=>?_⟩;refine M6 (K:=K) (l1:=r) (l2:=z) (xs:=row.map V.str) (ys:=(row.map V.str).drop 1) (n:=row.length - 1) (by rw[QT];omega) (by rw[Sv,QT];omega) (.inr (by rw[Sv,QT]))
    (fun j τ H3=>∃ v1 v2 zs,τ=[v1,v2]/\ae H2 H3/\H3 D=some (.lst zs)/\aJ K H3 (((nb row).take j).map lnD) zs) ⟨none,none,[],rfl,ae.new hD,ah,rfl⟩ ?_ ?_ ?_
   ·rintro j τ H3 _ ⟨_,_,_,rfl,s3,_⟩
    exact⟨SqL.of (s3 _ _ (t2 _ _ jD)),SqL.of (s3 _ _ h2)⟩
   ·rintro j x y tt τ H3 hj hx hy nt ⟨v1,v2,zs,rfl,s3,hz,iB⟩
    obtain⟨a1,e1,rfl⟩:=qe hx;rw[Tu,TL] at hy;obtain⟨a2,e2,rfl⟩:=qe hy;have kz:zs.length<=60:=by
     have e:=iB.length;rw[QT,Rb,nb_len] at e;omega
    have s4:ae H3 (upd H3 tt (.tup [.str a1,.str a2])):=ae.new nt;have h4:upd H3 tt (.tup [.str a1,.str a2]) tt=some (.tup [.str a1,.str a2]):=ah;generalize upd H3 tt (.tup [.str a1,.str a2])=H4 at s4 h4 ⊢;dsimp only[cK];refine⟨tt,_,O,SqT.of h4,O,_,_,O,_,_,O,O,?_⟩;refine eK ?_;refine⟨_,O,_,O,(by show 2<=sizeLine;decide),fun q nq=>?_⟩;have s5:ae H4 (upd H4 q (.tup [.str a1,.str a2])):=ae.new nq;have h5:upd H4 q (.tup [.str a1,.str a2]) q=some (.tup [.str a1,.str a2]):=ah;generalize upd H4 q (.tup [.str a1,.str a2])=H5 at s5 h5 ⊢;have u5:=s4.trans s5;refine⟨_,u5 _ _ hz,by rw[Q3];omega,_,_,_,O,bv hD (s3.trans u5),ah,?_⟩;rw[zam (nb_get e1 e2),Q2];have kp:Tk H5 (upd H5 D (.lst (zs++[.ref q]))):=Tk.upd (u5 _ _ hz) rfl;exact aJ.snoc (d:=lnD (a1,a2)) (kp.dt O ⟨q,_,O,SqT.of h5,_,_,O,O,_,_,O,O,O⟩) (kp.dts (cW (fun _=>O) _) (u5.dts iB))
   rintro τ H3 ⟨v1,v2,zs,rfl,s3,hz,iB⟩
   rw[<- nb_len,Rf] at iB;have kz:zs.length<=60:=by
    have e:=iB.length;rw[QT,nb_len] at e;omega
   have u3:=s2.trans s3;refine⟨g,D,xs,zs,O,O,u3 _ _ hg,hz,by rw[Q3];omega,?_⟩;have kp:Tk H3 (upd H3 g (.lst (xs++zs))):=Tk.upd (u3 _ _ hg) rfl;refine⟨_,_,O,bv ng (sm.trans u3),ah,?_,by rw[Rm];omega⟩;rw[nbs_snoc bX,Q2];exact aJ.append (kp.dts (cW (fun _=>O) _) iB) (kp.dts (cW (fun _=>O) _) (u3.dts aR))
  ·rintro σ H2 ⟨v2,xs,rfl,sm,hg,aR,kx⟩
   rw[QT,aj,Rf] at aR;have e:=aR.length;rw[QT] at e;rw[QT] at kx;exact⟨_,O,k g H2 sm ⟨xs,hg,aR⟩ (by omega)⟩
def Pn (K:PySem.W.Frag):Sp:=fun vs H Q _=>∃ l rs rows h g p hv qv,vs=[.ref l,.ref h,.int g,.ref p]/\H l=some (.lst ((rs:List Addr).map V.ref))/\Rw H rs rows/\rows.length<=30/\(∀ row∈rows,row.length<=60)/\H h=some (.dK hv)/\H p=some (.dK qv)/\(∀ row∈rows,∀ s∈row,Has hv s/\Has qv s) /\
 ∀ H',ae H H'->Q (.bl ((nbs rows).all (kp1 hv qv g))) H'
theorem ok_keeps_gap (T:Tx K mg a):Cal P w K mg base CX0 2 "keeps_gap" ["rows","halves","gap","places"] [] (Pn K):=T.d_keeps_gap.cal fun f fd F=>by
 have d5:=Gj (P:=P) (w:=w) (base:=base) T;have bh:=EL (P:=P) (w:=w) (base:=base) T;refine F.ok LS (fun vs H Q E h=>?_) (fun aA A outer s H vs Q E hr h=>?_)
 ·obtain⟨l,rs,rows,h,g,p,hv,qv,rfl,_⟩:=h
  rfl
 ·obtain⟨l,rs,rows,h,g,p,hv,qv,rfl,hl,fQ,hk,hm,hh,hp,has,k⟩:=h
  refine⟨_,(aB (bn (bp ET O T.n_all D4 (af (cY (N:=["left","right","halves","gap","places"]) (cap:=[none,none,some 1,some 2,some 3]) O (bM (osc:=aC zW) (XN:=["rows","halves","gap","places"]) O O (by decide +kernel)) (bV (a7 bh (hr.mono (by decide)) rfl (af (pv 0) ak))) (fun cl C s H fp aa=>(jS (K:=K) (n:=2) O O (aO (az (i:=0) (show(["left","right","halves","gap","places"]:List Str).Nodup by decide +kernel) rfl (.inl rfl)) (aO (az (i:=1) (show(["left","right","halves","gap","places"]:List Str).Nodup by decide +kernel) rfl (.inl rfl)) cz)))) (fun cl C s H fp aa=>cy) (fun cl C s H fp aa=>(mF op_ge (aI iq (cH (bb hr) (pv 4) (pv 1) (fun _ _=>O)) (cH (bb hr) (pv 4) (pv 0) (fun _ _=>O))) (a7 d5 (hr.mono (by decide)) rfl (af (pv 2) (af (pv 3) (af (pv 0) (af (pv 1) ak))))) (bH _)))) ak)))),?_⟩;refine⟨_,O,l,rs,rows,O,hl,fQ,hk,hm,fun d H1 s1 cN Bx=>?_⟩;obtain⟨xs,hd,aR⟩:=cN;have hx:∀ q∈nbs rows,(Has hv q.1/\Has qv q.1)/\Has hv q.2/\Has qv q.2:=fun q hq=>by
   obtain⟨row,hr,m1,m2⟩:=nbs_mem hq;exact⟨has row hr _ m1,has row hr _ m2⟩
  have lD:(nbs rows).length=xs.length:=by rw[<- aR.length,QT]
  generalize nbs rows=ls at aR hx lD Bx k;refine⟨d,O,⟨_,SqL.of hd⟩,fun D hD=>?_⟩;have sz:xs.length<=sizeLine:=by rw[Q3];omega
  refine fW (K:=K) (a:=d) (xs:=xs) (fun i τ H'=>∃ v1 v2,τ=[v1,v2,some (.ref h),some (.int g),some (.ref p)]/\ae H1 H'/\H' D=some (.lst (((ls.take i).map (kp1 hv qv g)).map V.bl))) ⟨none,none,rfl,ae.new hD,ah⟩ ?_ ?_ ?_
  ·rintro i τ H' _ ⟨_,_,rfl,sm,_⟩
   exact SqL.of (sm _ _ hd)
  ·rintro i x τ H' dC ⟨v1,v2,rfl,sm,hy⟩
   have hi:i<xs.length:=(List.getElem?_eq_some_iff.mp dC).1;obtain⟨q,hq,dq⟩:=eL aR dC;obtain⟨t,rfl,ht⟩:=un_ln (sm.dt dq);obtain⟨⟨a1,a2⟩,a3,a4⟩:=hx q (Q0 hq);have t1:=s1.trans sm;dsimp only[cK];refine⟨t,_,O,ht,O,_,_,O,_,_,O,O,?_⟩;refine eK ?_;refine⟨_,O,_,O,p,_,O,gC (k:=Sum.inr q.2) (t1 _ _ hp) a4.gv,_,O,_,O,p,_,O,gC (k:=Sum.inr q.1) (t1 _ _ hp) a2.gv,_,_,O,O,_,O,_,O,_,O,_,O,h,g,q.1,q.2,hv,O,t1 _ _ hh,a1,a3,_,_,O,O,?_⟩;refine⟨_,hy,by rw[QT,QT,Rb];omega,_,_,O,bv hD sm,?_⟩;rw[ah,zam hq,Q2,Q2];rfl
  rintro τ H2 ⟨v1,v2,rfl,sm,hy⟩
  rw[<- lD,Rf] at hy;refine⟨D,ls.map (kp1 hv qv g),O,SqL.of hy,?_⟩;have e:(ls.map (kp1 hv qv g)).all id=ls.all (kp1 hv qv g):=by rw[Uo];rfl
  rw[e];exact k H2 (s1.trans sm)
abbrev L3:=Str×Str×Int
def l3D (q:L3):Dt:=.tup [.str q.1,.str q.2.1,.int q.2.2]
theorem un_l3 {q:L3} (h:DtV K H (l3D q) x):∃ t,x=.ref t/\SqT K H t [.str q.1,.str q.2.1,.int q.2.2]:=by
 obtain⟨t,xs,rfl,h1,y1,Dv,rfl,rfl,y2,xA,rfl,rfl,y3,CP,rfl,rfl,h2⟩:=h;rw[show CP=[] from h2] at h1;exact⟨t,O,h1⟩
def far (qv:Kvs) (q:L3):Int:=if gv qv q.2.1 - gv qv q.1<0 then -(gv qv q.2.1 - gv qv q.1) else gv qv q.2.1 - gv qv q.1
def costL (qv:Kvs) (ls:List L3):Int:=(ls.map fun q=>q.2.2 * far qv q).sum
def L3At (K:PySem.W.Frag) (H:Hp) (l:Addr) (ls:List L3):Prop:=∃ xs,H l=some (.lst xs)/\aJ K H (ls.map l3D) xs
def spCost (K:PySem.W.Frag):Sp:=fun vs H Q _=>∃ l p ls qv,vs=[.ref l,.ref p]/\L3At K H l ls/\H p=some (.dK qv)/\(∀ q∈ls,Has qv q.1/\Has qv q.2.1/\0<q.2.2/\q.2.2<2 ^ 64)/\ls.length<=300/\∀ H',ae H H'->Q (.int (costL qv ls)) H'
theorem ok_cost_of (T:Tx K mg a):Cal P w K mg base CX0 1 "cost_of" ["lines","places"] [] (spCost K):=T.d_cost_of.cal fun f fd F=>by
 refine F.ok Lq (fun vs H Q E h=>?_) (fun aA A outer s H vs Q E hr h=>?_)
 ·obtain⟨l,p,ls,qv,rfl,_⟩:=h
  rfl
 ·obtain⟨l,p,ls,qv,rfl,⟨xs,hl,aR⟩,hp,has,hk,k⟩:=h
  have lD:ls.length=xs.length:=by rw[<- aR.length,QT]
  refine⟨_,(aB (bn (bp Bb O T.n_sum AL (af (cY (N:=["one","other","weight","places"]) (cap:=[none,none,none,some 1]) O (bM (osc:=aC Be) (XN:=["lines","places"]) O O (by decide +kernel)) (bV (pv 0)) (fun cl C s H fp aa=>(jS (K:=K) (n:=3) O O (aO (az (i:=0) (show(["one","other","weight","places"]:List Str).Nodup by decide +kernel) rfl (.inl rfl)) (aO (az (i:=1) (show(["one","other","weight","places"]:List Str).Nodup by decide +kernel) rfl (.inl rfl)) (aO (az (i:=2) (show(["one","other","weight","places"]:List Str).Nodup by decide +kernel) rfl (.inl rfl)) cz))))) (fun cl C s H fp aa=>cy) (fun cl C s H fp aa=>(aI jM (pv 2) (bp PL O T.n_abs bt_abs (af (aI iq (cH (bb hr) (pv 3) (pv 1) (fun _ _=>O)) (cH (bb hr) (pv 3) (pv 0) (fun _ _=>O))) ak))))) ak)))),?_⟩;refine⟨_,O,l,O,⟨_,SqL.of hl⟩,fun D hD=>?_⟩;refine fW (K:=K) (a:=l) (xs:=xs) (fun i τ H'=>∃ v1 v2 v3,τ=[v1,v2,v3,some (.ref p)]/\ae H H'/\H' D=some (.lst (((ls.take i).map fun q=>q.2.2 * far qv q).map V.int))) ⟨none,none,none,O,ae.new hD,ah⟩ ?_ ?_ ?_
  ·rintro i τ H' _ ⟨_,_,_,rfl,sm,_⟩
   exact SqL.of (sm _ _ hl)
  ·rintro i x τ H' hx ⟨v1,v2,v3,rfl,sm,hy⟩
   have hi:i<xs.length:=(List.getElem?_eq_some_iff.mp hx).1;obtain⟨q,hq,dq⟩:=eL aR hx;obtain⟨t,rfl,ht⟩:=un_l3 (sm.dt dq);obtain⟨a1,a2,a3,a4⟩:=has q (Q0 hq);dsimp only[cK];refine⟨t,_,O,ht,O,_,_,O,_,_,O,_,_,O,O,?_⟩;refine eK ?_;refine⟨_,O,_,O,_,O,p,_,O,gC (k:=Sum.inr q.2.1) (sm _ _ hp) a2.gv,_,O,_,O,p,_,O,gC (k:=Sum.inr q.1) (sm _ _ hp) a1.gv,_,_,O,O,_,O,_,_,O,O,.inl ⟨by omega,a4⟩,?_⟩;refine⟨_,hy,by rw[QT,QT,Rb,Q3];omega,_,_,_,O,bv hD sm,?_⟩;rw[ah,zam hq,Q2,Q2];rfl
  rintro τ H2 ⟨v1,v2,v3,rfl,sm,hy⟩
  rw[<- lD,Rf] at hy;exact⟨D,_,O,SqL.of hy,k H2 sm⟩
end
theorem El {k:Key}:∀ (kvs m:List (Key×V)),(∀ kv∈kvs,kv.1≠k)->aN (kvs.foldl ee m) k=aN m k
 | [],_,_=>rfl
 | kv::r,m,h=>by
  show aN (r.foldl ee (ee m kv)) k=_;rw[El r _ fun x hx=>h x (Q6 _ hx)];unfold ee;rw[kP,if_neg (Ne.symm (h kv Q9))]
theorem split_at {α:Type}{x:α}:∀ {l:List α}{i:Nat},l[i]?=some x->l=l.take i++x::l.drop (i + 1)
 | y::l,0,h=>by
  obtain rfl:y=x:=Option.some.inj h;rfl
 | y::l,i + 1,h=>by
  show y::l=y::(l.take i++x::l.drop (i + 1));rw[<- split_at (show l[i]?=some x from h)]
theorem val_mkD {kvs:List (Key×V)}{kv:Key×V} (nd:(kvs.map (·.1)).Nodup) (h:kvs[i]?=some kv):aN (mkD kvs) kv.1=some kv.2:=by
 have es:=split_at h;generalize kvs.take i=l at es;generalize kvs.drop (i + 1)=r at es;subst es;unfold mkD;rw[RT];show aN (r.foldl ee (ee (l.foldl ee []) kv)) kv.1=_;rw[Q2,RN,UD,SX] at nd;rw[El r _ fun x hx e=>nd.2.1.1 (List.mem_map.mpr ⟨x,hx,e⟩)];unfold ee;rw[kP,if_pos rfl]
def ix (ws:List Str) (n:Str):Int:=(ws.idxOf n:Nat)
theorem ix_at {ws:List Str} (h:n∈ws):ws[ws.idxOf n]?=some n:=by
 have:=SA h;rw[QX this,List.getElem_idxOf]
def eM:Nat->List Str->List (Key×V)
 | _,[]=>[]
 | i,n::r=>(Sum.inr n,.int (i:Int))::eM (i + 1) r
theorem Bl:∀ (ws:List Str) (i:Nat),(eM i ws).length=ws.length
 | [],_=>rfl
 | n::r,i=>by show(eM (i + 1) r).length + 1=_;rw[Bl r];rfl
theorem Ff:∀ (ws:List Str) (i:Nat),(eM i ws).map (·.1)=ws.map Sum.inr
 | [],_=>rfl
 | n::r,i=>by show Sum.inr n::(eM (i + 1) r).map (·.1)=_;rw[Ff r];rfl
theorem FI:∀ (ws:List Str) (i j:Nat) (n:Str),ws[j]?=some n->(eM i ws)[j]?=some (Sum.inr n,.int ((i + j:Nat):Int))
 | x::r,i,0,n,h=>by
  obtain rfl:x=n:=Option.some.inj h;rfl
 | x::r,i,j + 1,n,h=>by
  show(eM (i + 1) r)[j]?=_;rw[FI r (i + 1) j n h];congr 3;omega
theorem EM:∀ (ws:List Str) (i:Nat) (n:Str),eM i (ws++[n])=eM i ws++[(Sum.inr n,.int ((i + ws.length:Nat):Int))]
 | [],i,n=>rfl
 | x::r,i,n=>by
  show _::eM (i + 1) (r++[n])=_::(eM (i + 1) r++_);rw[EM r (i + 1) n,Re,show i + 1 + r.length=i + (r.length + 1) by omega]
def o4 (ws:List Str):List (Key×V):=mkD (eM 0 ws)
theorem Nr {ws:List Str} (nd:ws.Nodup) (h:n∈ws):aN (o4 ws) (Sum.inr n)=some (.int (ix ws n)):=by
 have h1:=FI ws 0 _ n (ix_at h);have bo:((eM 0 ws).map (·.1)).Nodup:=by
  rw[Ff,Si,TF];rw[Si] at nd;exact nd.imp fun z e=>z (Sum.inr.inj e)
 have:=val_mkD bo h1;rw[S2] at this;exact this
section
variable {K:PySem.W.Frag}
theorem eG.tk {H H':Hp} (t:Tk H H'):∀ {kvs:List (Key×V)}{ys:List V},eG K H kvs ys->eG K H' kvs ys
 | [],_,h=>h
 | _::_,_,h=>by
  obtain⟨q,lH,e,h1,h2⟩:=h;exact⟨q,lH,e,t.sqT h1,eG.tk t h2⟩
theorem eG.snoc {H:Hp}{kv:Key×V}{t:Addr} (ht:SqT K H t [kV kv.1,kv.2]):∀ {kvs:List (Key×V)}{ys:List V},eG K H kvs ys->eG K H (kvs++[kv]) (ys++[.ref t])
 | [],_,h=>by
  obtain rfl:_=[]:=h;exact⟨t,[],O,ht,O⟩
 | _::_,_,h=>by
  obtain⟨q,lH,rfl,h1,h2⟩:=h;exact⟨q,_,O,h1,eG.snoc ht h2⟩
theorem eG.len {H:Hp}:∀ {kvs:List (Key×V)}{ys:List V},eG K H kvs ys->kvs.length=ys.length
 | [],_,h=>by rw[show _=[] from h];rfl
 | _::_,_,h=>by
  obtain⟨q,lH,rfl,h1,h2⟩:=h;rw[Re,Re,eG.len h2]
end
abbrev Wi:=Int×Int×Int×Int
def wD (q:Wi):Dt:=.tup [.int q.1,.int q.2.1,.int q.2.2.1,.int q.2.2.2]
def wN (hv:Kvs) (mk:Row) (g:Int) (q:Ln):Wi:=(ix mk q.1,ix mk q.2,gv hv q.1 + gv hv q.2 + g,0)
def wL (mk:Row) (n:Nat):Nat->List L3->List Wi
 | _,[]=>[]
 | k,q::r=>(((n + k:Nat):Int),ix mk q.1,(0:Int),q.2.2)::(((n + k:Nat):Int),ix mk q.2.1,(0:Int),q.2.2)::wL mk n (k + 1) r
def wAll (hv:Kvs) (rows:List Row) (ls:List L3) (g:Int):List Wi:=(nbs rows).map (wN hv rows.flatten g)++wL rows.flatten rows.flatten.length 0 ls
theorem EU (mk:Row) (n:Nat) (q:L3):∀ (k:Nat) (r:List L3),wL mk n k (r++[q])=wL mk n k r++[(((n + (k + r.length):Nat):Int),ix mk q.1,(0:Int),q.2.2),(((n + (k + r.length):Nat):Int),ix mk q.2.1,(0:Int),q.2.2)]
 | k,[]=>rfl
 | k,x::r=>by
  show _::_::wL mk n (k + 1) (r++[q])=_;rw[EU mk n q (k + 1) r,show k + 1 + r.length=k + (x::r).length by rw[Re];omega];rfl
theorem Gn (mk:Row) (n:Nat):∀ (k:Nat) (r:List L3),(wL mk n k r).length=2 * r.length
 | _,[]=>rfl
 | k,x::r=>by
  show(wL mk n (k + 1) r).length + 1 + 1=_;rw[Gn mk n (k + 1) r,Re];omega
section
variable {K:PySem.W.Frag}
def Tps (H:Hp) (xs:List V):Prop:=∀ y∈xs,∃ t zs,y=.ref t/\H t=some (.tup zs)
theorem Tps.tk  (k:Tk H H') (h:Tps H xs):Tps H' xs:=fun y hy=>by
 obtain⟨t,zs,e1,e2⟩:=h y hy;exact⟨t,zs,e1,k _ _ e2 O⟩
theorem Tps.snoc  (h:Tps H xs){t:Addr}{zs:List V} (e:H t=some (.tup zs)):Tps H (xs++[.ref t]):=fun y hy=>by
 rcases T0.mp hy with hy|hy
 ·exact h y hy
 ·exact⟨t,zs,S1.mp hy,e⟩
def WTp (K:PySem.W.Frag) (H:Hp) (l:Addr) (ws:List Wi):Prop:=∃ xs,H l=some (.lst xs)/\aJ K H (ws.map wD) xs/\Tps H xs
def L0:Sp:=fun vs H Q _=>∃ l rs rows,vs=[.ref l]/\H l=some (.lst ((rs:List Addr).map V.ref))/\Rw H rs rows/\rows.flatten.length<=300/\∀ d H',ae H H'->H d=none->H' d=some (.lst (rows.flatten.map V.str))->Q (.ref d) H'
theorem FN {rows:List Row}{row:Row} (h:rows[i]?=some row):(rows.take (i + 1)).flatten=(rows.take i).flatten++row:=by
 rw[zam h,SS];simp
theorem NE (rows:List Row) (i:Nat):(rows.take i).flatten.length<=rows.flatten.length:=by
 have:rows.flatten=(rows.take i).flatten++(rows.drop i).flatten:=by rw[<- SS,List.take_append_drop]
 rw[this,Rm];omega
theorem ok_marks_in_line (T:Tx K mg a):Cal P w K mg base CX0 1 "marks_in_line" ["rows"] [] L0:=T.d_marks_in_line.cal fun f fd F=>by
 refine F.ok zZ (fun vs H Q E h=>?_) (fun aA A outer s H vs Q E hr h=>?_)
 ·obtain⟨l,rs,rows,rfl,_⟩:=h
  rfl
 ·obtain⟨l,rs,rows,rfl,hl,hw,Kl,k⟩:=h
  refine⟨_,(aq (aQ (i:=1) zZ.nd O (.inl O) (dJ ak))
   (aq (cV PassesOwn.never rfl (bV (pv 0)) (az (i:=2) zZ.nd O (.inl O)) (aB (eJ (iO PySem.F.plainAttrs_list PySem.F.slot_list_extend PySem.F.type_list_extend Ax (pv 1) (af (pv 2) ak)))))
   (aB (bn (pv 1))))),?_⟩
  refine⟨(by show 0<=sizeLine;decide),fun g ng=>?_⟩;have s1:ae H (upd H g (.lst [])):=ae.new ng;have h1:upd H g (.lst []) g=some (.lst []):=ah;generalize upd H g (.lst [])=H1 at s1 h1 ⊢;refine⟨_,O,l,O,⟨_,SqL.of (s1 _ _ hl)⟩,iP (K:=K) (a:=l) (xs:=rs.map V.ref) (fun i σ H'=>∃ v2,σ=[some (.ref l),some (.ref g),v2]/\ae H H'/\H' g=some (.lst ((rows.take i).flatten.map V.str)))
   ⟨none,rfl,s1,h1⟩ ?_ ?_ ?_⟩
  ·rintro i σ H' _ ⟨_,rfl,sm,_⟩
   exact SqL.of (sm _ _ hl)
  ·rintro i x σ H' hx ⟨v2,rfl,sm,hg⟩
   obtain⟨r,sQ,rfl⟩:=Av hx;obtain⟨row,bX,jD⟩:=hw.at sQ;have f1:=NE rows (i + 1);rw[FN bX,Rm] at f1;dsimp only[bA];refine⟨_,O,.inl ⟨O,_,SqL.of hg⟩,_,O,g,r,_,_,O,O,hg,sm _ _ jD,by rw[QT,QT,Q3];omega,?_⟩;refine⟨_,O,bv ng sm,?_⟩;rw[ah,FN bX,Q2]
  ·rintro σ H' ⟨v2,rfl,sm,hg⟩
   rw[QT,hw.len,Rf] at hg;exact⟨_,O,k g H' sm ng hg⟩
def OL (K:PySem.W.Frag) (a:Adr):Sp:=fun vs H Q E=>∃ l rs rows h hv m ls g,vs=[.ref l,.ref h,.ref m,.int g]/\H l=some (.lst ((rs:List Addr).map V.ref))/\Rw H rs rows/\rows.length<=30/\rows.flatten.length<=60/\rows.flatten.Nodup/\H h=some (.dK hv)/\(∀ s∈rows.flatten,Has hv s)/\L3At K H m ls/\ls.length<=60/\(∀ q∈ls,q.1∈rows.flatten/\q.2.1∈rows.flatten) /\
 (rows.flatten.length<=40/\ls.length<=40->∀ t x H',ae H H'->H t=none->H x=none->H' t=some (.tup [.int ((rows.flatten.length:Int) + ls.length),.ref x])->WTp K H' x (wAll hv rows ls g)->Q (.ref t) H') /\
 (40<rows.flatten.length\/40<ls.length->∀ H',ae H H'->E (.ref a.TooMany) none H')
theorem ok_asked (T:Tx K mg a):Cal P w K mg base (CXe P w) 2 "asked" ["rows","halves","lines","gap"] [] (OL K a):=T.d_asked.cal fun f fd F=>by
 have aV:=ok_marks_in_line (P:=P) (w:=w) (base:=base) T;have bh:=EL (P:=P) (w:=w) (base:=base) T;have d5:=Gj (P:=P) (w:=w) (base:=base) T;refine F.okX p6 (fun vs H Q E h=>?_) (fun aA A outer s H vs Q E hr h=>?_)
 ·obtain⟨l,rs,rows,h,hv,m,ls,g,rfl,_⟩:=h
  rfl
 ·obtain⟨l,rs,rows,h,hv,m,ls,g,rfl,hl,hw,pi,qK,nd,hh,has,⟨xl,hm,lQ⟩,cN,hin,k1,k2⟩:=h
  have lD:ls.length=xl.length:=by rw[<- lQ.length,QT]
  refine⟨_,(aq (aQ (i:=4) p6.nd O (.inl O) (a7 aV (hr.mono (by decide)) rfl (af (pv 0) ak)))
   (aq (d6 (PW.pt (kW (cJ oK (bp ek rfl T.n_len eh (af (pv 4) ak)) (p7 rfl T.k_MOST_MARKS) (bH _)) (my (cJ oK (bp ek rfl T.n_len eh (af (pv 2) ak)) (p7 rfl T.k_MOST_LINES) (bH _))))) (aB (AQ oG T.x_TooMany rfl T.g_TooMany)) d9)
   (aq (aQ (i:=5) p6.nd O (.inr O) (vz Ox O T.n_dict vG (af (cY (N:=["number","mark"]) (cap:=[none,none]) O (bM (osc:=aC wo) (XN:=["rows","halves","lines","gap","marks","numbers","wishes","helper","line"]) O O (by decide +kernel)) (sT rfl T.n_enumerate (af (pv 4) ak)) (fun cl C s H fp aa=>(jS (K:=K) (n:=2) O O (aO (az (i:=0) (show(["number","mark"]:List Str).Nodup by decide +kernel) rfl (.inl rfl)) (aO (az (i:=1) (show(["number","mark"]:List Str).Nodup by decide +kernel) rfl (.inl rfl)) cz)))) (fun cl C s H fp aa=>cy) (fun cl C s H fp aa=>(gG (af (pv 1) (af (pv 0) ak))))) ak)))
   (aq (pb (i:=6) p6.nd O O (N:=["left","right","numbers","halves","gap"]) (cap:=[none,none,some 5,some 1,some 3]) O (bM (osc:=aC wo) (XN:=["rows","halves","lines","gap","marks","numbers","wishes","helper","line"]) O O (by decide +kernel)) (bV (a7 bh (hr.mono (by decide)) rfl (af (pv 0) ak))) (fun cl C s H fp aa=>(jS (K:=K) (n:=2) O O (aO (az (i:=0) (show(["left","right","numbers","halves","gap"]:List Str).Nodup by decide +kernel) rfl (.inl rfl)) (aO (az (i:=1) (show(["left","right","numbers","halves","gap"]:List Str).Nodup by decide +kernel) rfl (.inl rfl)) cz)))) (fun cl C s H fp aa=>cy) (fun cl C s H fp aa=>(gG (af (cH (bb hr) (pv 2) (pv 0) (fun _ _=>O)) (af (cH (bb hr) (pv 2) (pv 1) (fun _ _=>O)) (af (a7 d5 (hr.mono (by decide)) rfl (af (pv 3) (af (pv 4) (af (pv 0) (af (pv 1) ak))))) (af au ak)))))) (hsw:=O))
   (aq (cV PassesOwn.leaving rfl (M4 rfl T.n_enumerate (af (pv 2) ak) (bp ek rfl T.n_len eh (af (pv 4) ak))) (fD rfl (aO (az (i:=7) p6.nd O (.inl O)) (aO (az (i:=8) p6.nd O (.inl O)) cz))) (aq (eJ (iO PySem.F.plainAttrs_list PySem.F.slot_list_append PySem.F.type_list_append mf (pv 6) (af (gG (af (pv 7) (af (cH (bb hr) (pv 5) (aG cf (pv 8) au (fun _ _=>O)) (fun _ _=>O)) (af au (af (aG cf (pv 8) au (fun _ _=>O)) ak))))) ak)))
   (aB (eJ (iO PySem.F.plainAttrs_list PySem.F.slot_list_append PySem.F.type_list_append mf (pv 6) (af (gG (af (pv 7) (af (cH (bb hr) (pv 5) (aG cf (pv 8) au (fun _ _=>O)) (fun _ _=>O)) (af au (af (aG cf (pv 8) au (fun _ _=>O)) ak))))) ak))))))
   (aB (bn (gG (af (aI fu (bp ek rfl T.n_len eh (af (pv 4) ak)) (bp ek rfl T.n_len eh (af (pv 2) ak))) (af (pv 6) ak)))))))))),?_⟩
  refine⟨_,O,l,rs,rows,O,hl,hw,by omega,fun mA H1 s1 Kf lj=>?_⟩;refine⟨_,O,mA,_,O,.inl (SqL.of lj),_,_,O,O,_,O,?_⟩;refine dv (fun c1=>?_) (fun c1=>?_)
  ·have b1:40<rows.flatten.length:=by
    have:=Rj c1;rw[QT] at this;omega
   exact eK ⟨by show 0<=sizeLine;decide,k2 (.inl b1) H1 s1⟩
  have b1:rows.flatten.length<=40:=by
   have:=RH c1;rw[QT] at this;omega
  refine⟨_,O,m,_,O,.inl (SqL.of (s1 _ _ hm)),_,_,O,O,_,O,?_⟩;refine dv (fun c2=>?_) (fun c2=>?_)
  ·have b2:40<ls.length:=by
    have:=Rj c2;omega
   exact⟨by show 0<=sizeLine;decide,k2 (.inr b2) H1 s1⟩
  have b2:ls.length<=40:=by
   have:=RH c2;omega
  have k:=k1 ⟨b1,b2⟩;generalize hmk:rows.flatten=mk at lj nd has hin b1 k qK;refine⟨_,O,mA,O,⟨_,SqL.of lj⟩,fun D hD=>?_⟩;refine Py (K:=K) (l:=mA) (xs:=mk.map V.str) (fun j τ H'=>∃ v1 v2 us,τ=[v1,v2]/\ae H1 H'/\H' D=some (.lst us)/\eG K H' (eM 0 (mk.take j)) us) ⟨none,none,[],rfl,ae.new hD,ah,by rw[S4];rfl⟩ ?_ ?_ ?_
  ·rintro j τ H' _ ⟨_,_,_,rfl,sm,_⟩
   exact SqL.of (sm _ _ lj)
  ·rintro j y tt τ H' hy nt ⟨v1,v2,us,rfl,sm,zb,De⟩
   obtain⟨n,hn,rfl⟩:=qe hy;have hj:j<mk.length:=(List.getElem?_eq_some_iff.mp hn).1;have ul:us.length<=j:=by
    rw[<- eG.len De,Bl,Rb];omega
   have s3:ae H' (upd H' tt (.tup [.int j,.str n])):=ae.new nt;have B5:upd H' tt (.tup [.int j,.str n]) tt=some (.tup [.int j,.str n]):=ah;generalize upd H' tt (.tup [.int j,.str n])=H3 at s3 B5 ⊢;refine⟨tt,_,O,SqT.of B5,O,_,_,O,_,_,O,O,?_⟩;refine⟨_,O,_,O,(by show 2<=sizeLine;decide),fun z nz=>?_⟩;have s4:ae H3 (upd H3 z (.tup [.str n,.int j])):=ae.new nz;have CG:upd H3 z (.tup [.str n,.int j]) z=some (.tup [.str n,.int j]):=ah;generalize upd H3 z (.tup [.str n,.int j])=H4 at s4 CG ⊢;have t4:=s3.trans s4;have C3:=t4 _ _ zb;have tk:Tk H4 (upd H4 D (.lst (us++[.ref z]))):=Tk.upd C3 rfl;refine⟨_,C3,by rw[Q3];omega,_,_,_,O,bv hD (sm.trans t4),ah,?_⟩;rw[zam hn,EM,Rb,Nat.min_eq_left (RS hj),S2];exact eG.snoc (kv:=(Sum.inr n,.int (j:Int))) (tk.sqT (SqT.of CG)) (((Tk.of t4).trans tk |> fun t=>eG.tk t De))
  rintro τ H2 ⟨v1,v2,us,rfl,s2,KU,p2⟩
  rw[QT,Rf] at p2;refine⟨D,us,eM 0 mk,O,SqL.of KU,p2,by rw[Bl];omega,fun d bo=>?_⟩;have s3:ae H2 (upd H2 d (.dK (o4 mk))):=ae.new bo;have zB:upd H2 d (.dK (o4 mk)) d=some (.dK (o4 mk)):=ah
  change upd H2 d (.dK (mkD (eM 0 mk))) d=_ at zB
  change ae H2 (upd H2 d (.dK (mkD (eM 0 mk)))) at s3
  generalize upd H2 d (.dK (mkD (eM 0 mk)))=H3 at s3 zB ⊢;have t3:=s1.trans (s2.trans s3);have num:∀ n∈mk,aN (o4 mk) (Sum.inr n)=some (.int (ix mk n)):=fun n hn=>Nr nd hn
  dsimp only[bA];have kE:∀ row∈rows,row.length<=60:=fun row hr=>by
   have:row.length<=rows.flatten.length:=(SN hr).length_le;rw[hmk] at this;omega
  refine⟨_,O,l,rs,rows,O,t3 _ _ hl,hw.same t3,pi,kE,fun nA H4 s4 Hz Bx=>?_⟩;obtain⟨xn,lC,Cd⟩:=Hz;have Jz:(nbs rows).length=xn.length:=by rw[<- Cd.length,QT]
  have ma:∀ q∈nbs rows,q.1∈mk/\q.2∈mk:=fun q hq=>by
   obtain⟨row,hr,m1,m2⟩:=nbs_mem hq;rw[<- hmk];exact⟨List.mem_flatten.mpr ⟨row,hr,m1⟩,List.mem_flatten.mpr ⟨row,hr,m2⟩⟩
  have t4:=t3.trans s4;have lv:=s4 _ _ zB;refine⟨nA,O,⟨_,SqL.of lC⟩,fun x nx=>?_⟩;have yg:=none_of t4 nx;refine fW (K:=K) (a:=nA) (xs:=xn) (fun i τ G=>∃ v1 v2 ys,τ=[v1,v2,some (.ref d),some (.ref h),some (.int g)]/\ae H4 G/\G x=some (.lst ys)/\aJ K G ((((nbs rows).take i).map (wN hv mk g)).map wD) ys/\Tps G ys) ⟨none,none,[],rfl,ae.new nx,ah,rfl,fun y hy=>by cases hy⟩ ?_ ?_ ?_
  ·rintro i τ G _ ⟨_,_,_,rfl,sg,_⟩
   exact SqL.of (sg _ _ lC)
  ·rintro i y τ G hy ⟨v1,v2,ys,rfl,sg,hg,nL,IS⟩
   have hi:i<xn.length:=(List.getElem?_eq_some_iff.mp hy).1;obtain⟨q,hq,dq⟩:=eL Cd hy;obtain⟨tq,rfl,yj⟩:=un_ln (sg.dt dq);obtain⟨q1,q2⟩:=ma q (Q0 hq);have ky:ys.length<=1800:=by
    have e:=nL.length;rw[QT,QT,Rb] at e;omega
   dsimp only[cK];refine⟨tq,_,O,yj,O,_,_,O,_,_,O,O,?_⟩;refine eK ?_;refine⟨_,O,_,O,d,_,O,gC (k:=Sum.inr q.1) (sg _ _ lv) (num _ q1),_,O,_,O,d,_,O,gC (k:=Sum.inr q.2) (sg _ _ lv) (num _ q2),_,O,_,O,_,O,_,O,h,g,q.1,q.2,hv,O,sg _ _ (t4 _ _ hh),has _ q1,has _ q2,(by show 4<=sizeLine;decide),fun z nz=>?_⟩;have s5:ae G (upd G z (.tup [.int (ix mk q.1),.int (ix mk q.2),.int (gv hv q.1 + gv hv q.2 + g),.int 0])):=ae.new nz;have h5:upd G z (.tup [.int (ix mk q.1),.int (ix mk q.2),.int (gv hv q.1 + gv hv q.2 + g),.int 0]) z=some (.tup [.int (ix mk q.1),.int (ix mk q.2),.int (gv hv q.1 + gv hv q.2 + g),.int 0]):=ah;generalize upd G z (.tup [.int (ix mk q.1),.int (ix mk q.2),.int (gv hv q.1 + gv hv q.2 + g),.int 0])=G5 at s5 h5 ⊢;refine⟨_,s5 _ _ hg,by rw[Q3];omega,_,_,_,O,bv nx (sg.trans s5),ah,?_,(((IS.tk (Tk.of s5)).tk (Tk.upd (s5 _ _ hg) rfl)).snoc ((Tk.upd (s5 _ _ hg) rfl) _ _ h5 rfl))⟩;rw[zam hq,Q2,Q2];have kp:Tk G5 (upd G5 x (.lst (ys++[.ref z]))):=Tk.upd (s5 _ _ hg) rfl;exact aJ.snoc (d:=wD (wN hv mk g q)) (kp.dt O ⟨z,_,O,SqT.of h5,_,_,O,O,_,_,O,O,_,_,O,O,_,_,O,O,O⟩) (kp.dts (cW (fun _=>O) _) (s5.dts nL))
  rintro τ H5 ⟨Qo,Qv,ys,rfl,s5,h5,nL,xI⟩
  rw[<- Jz,Rf] at nL;have t5:=t4.trans s5;have jY:=s5 _ _ lv;have qO:=s5 _ _ (s4 _ _ (s3 _ _ (s2 _ _ lj)));have QP:ys.length<=1800:=by
   have e:=nL.length;rw[QT,QT] at e;omega
  refine⟨_,O,_,O,mA,_,O,.inl (SqL.of qO),m,mk.length,O,by rw[QT],by omega,⟨_,SqL.of (t5 _ _ hm)⟩,MO (K:=K) (l:=m) (xs:=xl) (fun i σ G=>∃ v7 v8 zs,σ=[some (.ref l),some (.ref h),some (.ref m),some (.int g),some (.ref mA),some (.ref d),some (.ref x),v7,v8]/\ae H G/\G mA=some (.lst (mk.map V.str))/\G d=some (.dK (o4 mk))/\G x=some (.lst zs)/\aJ K G (((nbs rows).map (wN hv mk g)++wL mk mk.length 0 (ls.take i)).map wD) zs/\Tps G zs)
   ⟨none,none,ys,rfl,t5,qO,jY,h5,by rw[S4];show aJ K H5 (((nbs rows).map (wN hv mk g)++[]).map wD) ys;rw[So];exact nL,xI⟩ ?_ ?_ ?_⟩
  ·rintro i σ G _ ⟨_,_,_,rfl,sg,_⟩
   exact SqL.of (sg _ _ hm)
  ·rintro i y tt σ G hy nt ⟨v7,v8,zs,rfl,sg,gm,gd,gx,iB,zd⟩
   have hi:i<xl.length:=(List.getElem?_eq_some_iff.mp hy).1;obtain⟨q,hq,dq⟩:=eL lQ hy;obtain⟨tq,rfl,yj⟩:=un_l3 (sg.dt dq);obtain⟨q1,q2⟩:=hin q (Q0 hq);have kz:zs.length<=1800 + 2 * i:=by
    have e:=iB.length;have e2:=nL.length;rw[QT,Rm,QT,Gn,Rb] at e;rw[QT,QT] at e2;omega
   have s6:ae G (upd G tt (.tup [.int ((mk.length:Int) + i),.ref tq])):=ae.new nt;have h6:upd G tt (.tup [.int ((mk.length:Int) + i),.ref tq]) tt=some (.tup [.int ((mk.length:Int) + i),.ref tq]):=ah;generalize upd G tt (.tup [.int ((mk.length:Int) + i),.ref tq])=G6 at s6 h6 ⊢;refine⟨tt,_,O,SqT.of h6,O,_,_,O,_,_,O,O,?_⟩;have e0:((mk.length:Int) + i)=((mk.length + (0 + (ls.take i).length):Nat):Int):=by
    rw[Rb];omega
   have CA:=s6 _ _ gx;have JA:=s6.dts iB;have pO:=s6 _ _ gd;have Ir:=s6 _ _ gm;have xC:=s6.sqT yj;refine⟨_,O,.inl ⟨O,_,SqL.of CA⟩,_,O,_,O,_,O,tq,_,0,_,O,O,xC,FO,d,_,O,gC (k:=Sum.inr q.1) pO (num _ q1),_,O,tq,_,2,_,O,O,xC,O,(by show 4<=sizeLine;decide),fun z nz=>?_⟩;have s7:ae G6 (upd G6 z (.tup [.int ((mk.length:Int) + i),.int (ix mk q.1),.int 0,.int q.2.2])):=ae.new nz;have h7:upd G6 z (.tup [.int ((mk.length:Int) + i),.int (ix mk q.1),.int 0,.int q.2.2]) z=some (.tup [.int ((mk.length:Int) + i),.int (ix mk q.1),.int 0,.int q.2.2]):=ah;generalize upd G6 z (.tup [.int ((mk.length:Int) + i),.int (ix mk q.1),.int 0,.int q.2.2])=G7 at s7 h7 ⊢;have xX:=s7 _ _ CA;refine⟨x,_,_,O,O,xX,by rw[Q3];omega,?_⟩;have kp:Tk G7 (upd G7 x (.lst (zs++[.ref z]))):=Tk.upd xX rfl;have Cp:d≠x:=kU (s7 _ _ pO) xX (by intro e;cases e);have Ct:mA≠x:=(ap (s4 _ _ (s3 _ _ (s2 _ _ lj))) nx);have s8:ae H (upd G7 x (.lst (zs++[.ref z]))):=bv yg (sg.trans (s6.trans s7));have d8:aJ K (upd G7 x (.lst (zs++[.ref z]))) (((nbs rows).map (wN hv mk g)++wL mk mk.length 0 (ls.take i)++[(((mk.length + (0 + (ls.take i).length):Nat):Int),ix mk q.1,(0:Int),q.2.2)]).map wD) (zs++[.ref z]):=by
    rw[Q2];refine aJ.snoc (d:=wD (((mk.length + (0 + (ls.take i).length):Nat):Int),ix mk q.1,(0:Int),q.2.2)) (kp.dt O ⟨z,_,O,SqT.of h7,_,_,O,?_,_,_,O,O,_,_,O,O,_,_,O,O,O⟩) (kp.dts (cW (fun _=>O) _) (s7.dts JA));show V.int _=V.int _;rw[e0]
   have xS:upd G7 x (.lst (zs++[.ref z])) d=some (.dK (o4 mk)):=by rw[ai Cp];exact s7 _ _ pO
   have B8:upd G7 x (.lst (zs++[.ref z])) mA=some (.lst (mk.map V.str)):=by rw[ai Ct];exact s7 _ _ Ir
   have Cc:Tps (upd G7 x (.lst (zs++[.ref z]))) (zs++[.ref z]):=((zd.tk (Tk.of (s6.trans s7))).tk kp).snoc (kp _ _ h7 O);have xU:upd G7 x (.lst (zs++[.ref z])) x=some (.lst (zs++[.ref z])):=ah;have yw:SqT K (upd G7 x (.lst (zs++[.ref z]))) tq [.str q.1,.str q.2.1,.int q.2.2]:=kp.sqT (s7.sqT xC);generalize upd G7 x (.lst (zs++[.ref z]))=G8 at s8 d8 xS B8 xU yw Cc ⊢;refine⟨_,O,.inl ⟨O,_,SqL.of xU⟩,_,O,_,O,_,O,tq,_,1,_,O,O,yw,D8,d,_,O,gC (k:=Sum.inr q.2.1) xS (num _ q2),_,O,tq,_,2,_,O,O,yw,O,(by show 4<=sizeLine;decide),fun z' Hm=>?_⟩;have s9:ae G8 (upd G8 z' (.tup [.int ((mk.length:Int) + i),.int (ix mk q.2.1),.int 0,.int q.2.2])):=ae.new Hm;have h9:upd G8 z' (.tup [.int ((mk.length:Int) + i),.int (ix mk q.2.1),.int 0,.int q.2.2]) z'=some (.tup [.int ((mk.length:Int) + i),.int (ix mk q.2.1),.int 0,.int q.2.2]):=ah;generalize upd G8 z' (.tup [.int ((mk.length:Int) + i),.int (ix mk q.2.1),.int 0,.int q.2.2])=G9 at s9 h9 ⊢;have BK:=s9 _ _ xU;refine⟨x,_,_,O,O,BK,by rw[Rm,Q3];show _ + 1<_;omega,?_⟩;have uz:Tk G9 (upd G9 x (.lst (zs++[.ref z]++[.ref z']))):=Tk.upd BK rfl;refine⟨_,_,_,O,bv yg (s8.trans s9),by rw[ai Ct];exact s9 _ _ B8,by rw[ai Cp];exact s9 _ _ xS,ah,?_,((Cc.tk (Tk.of s9)).tk uz).snoc (uz _ _ h9 O)⟩;rw[zam hq,EU,<- R6];have e3:∀ (u:List Wi) (p1 p2:Wi),u++[p1,p2]=u++[p1]++[p2]:=fun u p1 p2=>by rw[R6];rfl
   rw[e3,Q2];refine aJ.snoc (d:=wD (((mk.length + (0 + (ls.take i).length):Nat):Int),ix mk q.2.1,(0:Int),q.2.2)) (uz.dt O ⟨z',_,O,SqT.of h9,_,_,O,?_,_,_,O,O,_,_,O,O,_,_,O,O,O⟩) (uz.dts (cW (fun _=>O) _) (s9.dts d8));show V.int _=V.int _;rw[e0]
  ·rintro σ G ⟨v7,v8,zs,rfl,sg,gm,gd,gx,iB,zd⟩
   rw[<- lD,Rf] at iB;refine⟨_,O,mA,_,O,.inl (SqL.of gm),_,O,m,_,O,.inl (SqL.of (sg _ _ hm)),_,_,O,O,_,O,(by show 2<=sizeLine;decide),fun t nt=>?_⟩;rw[QT,<- lD];have s9:ae G (upd G t (.tup [.int ((mk.length:Int) + ls.length),.ref x])):=ae.new nt;refine k t x _ (sg.trans s9) (none_of sg nt) yg ah ?_;refine⟨zs,s9 _ _ gx,?_,zd.tk (Tk.of s9)⟩;unfold wAll;rw[hmk];exact s9.dts iB
end
section
variable {K:PySem.W.Frag}
def num (c k:Int):Int:=(c + 7919 * k + 1) * 48271 % 2147483647
def cr (c k:Int):Int:=num c k * (num c k / 1009 + 69621) % 2147483647
theorem num_lo (c k:Int):0<=num c k:=Sb _ (by decide)
theorem num_hi (c k:Int):num c k<2147483647:=R1 _ (by decide)
def M9:Sp:=fun vs H Q _=>∃ c k,vs=[.int c,.int k]/\Q (.int (cr c k)) H
theorem DP (T:Tx K mg a):Cal P w K mg base CX0 1 "_law_mixed" ["_law_cell","_law_k"] [] M9:=T.d__law_mixed.cal fun f fd F=>by
 refine F.ok Gy (fun vs H Q E h=>?_) (fun aA A outer s H vs Q E hr h=>?_)
 ·obtain⟨c,k,rfl,_⟩:=h
  rfl
 ·obtain⟨c,k,rfl,q⟩:=h
  refine⟨_,(aq (aQ (i:=2) Gy.nd O (.inl O) (aI fV (aI jM (aI fu (aI fu (pv 0) (aI jM au (pv 1))) au) au) au))
   (aB (bn (aI fV (aI jM (pv 2) (aI fu (aI A9 (pv 2) au) au)) au)))),?_⟩
  refine⟨_,O,_,O,_,_,O,O,.inl ⟨by decide,by decide⟩,_,_,O,O,_,_,O,O,_,_,O,O,.inr ⟨by decide,by decide⟩,_,_,O,O,(by show(0:Int)<2147483647;decide),?_⟩;have h1:=num_lo c k;have h2:=num_hi c k;refine⟨_,O,_,O,_,_,O,O,⟨by decide,by decide⟩,_,_,O,O,_,_,O,O,.inl ⟨?_,?_⟩,_,_,O,O,(by show(0:Int)<2147483647;decide),q⟩
  ·show -(2 ^ 64)<num c k
   omega
  ·show num c k<2 ^ 64
   omega
def OQ (K:PySem.W.Frag):Sp:=fun vs H Q _=>∃ p,∃ ns:List Int,∃ k,vs=[.ref p,.int k]/\SqL K H p (ns.map V.int)/\0<=k/\∀ c,Q (.int c) H
theorem ok_cell_at (T:Tx K mg a):Cal P w K mg base CX0 1 "_law_cell_at" ["_law_script","_law_k"] [] (OQ K):=T.d__law_cell_at.cal fun f fd F=>by
 refine F.ok P3 (fun vs H Q E h=>?_) (fun aA A outer s H vs Q E hr h=>?_)
 ·obtain⟨p,ns,k,rfl,_⟩:=h
  rfl
 ·obtain⟨p,ns,k,rfl,hS,h0,q⟩:=h
  refine⟨_,(aq (d6 (cJ tZ (pv 1) (bp ek O T.n_len eh (af (pv 0) ak)) (bH _)) (aB (bn (aG bx (pv 0) (pv 1) (fun _ _=>O)))) d9)
   (aB (bn au))),?_⟩
  refine⟨_,O,_,O,p,_,O,.inl hS,_,_,O,O,_,O,?_⟩;refine dv (fun c=>?_) (fun c=>?_)
  ·have h1:k<ns.length:=by
    have:=Rj c
    rwa [QT] at this
   obtain⟨z,hz⟩:=at_int h0 h1;exact⟨_,O,_,O,p,_,_,_,O,O,hS,hz,q z⟩
  ·exact q 0
theorem at_ref {k:Int} (h0:0<=k) (h1:k<rs.length):∃ r,rs[k.toNat]?=some r/\atI (rs.map V.ref) k=some (.ref r):=by
 obtain⟨r,hr⟩:=eB (l:=rs) (j:=k.toNat) (by omega);refine⟨r,hr,?_⟩;rw[iL h0,Q4,hr];rfl
def m12:Row:=["a","b","ab","3.1","c","10.2","d","ba","e","0.1","f","g"]
def AllS (kvs:Kvs):Prop:=∀ p∈kvs,∃ s i,p=(Sum.inr s,V.int i)
theorem sZ {v:V} (h:aN kvs (Sum.inr s)=none):aE kvs (Sum.inr s) v=kvs++[(Sum.inr s,v)]:=by
 unfold aE;rw[mH,h];rfl
structure RowsOk (mk:Row) (rows:List Row) (hv:Kvs):Prop where
 k:rows.length<=4
 k0:0<rows.length
 pm:rows.flatten.Perm mk
 nd:mk.Nodup
 has:∀ s∈mk,Has hv s
 no:∀ s,s∉mk->aN hv (Sum.inr s)=none
 len:hv.length=mk.length
 flat:AllS hv
 rng:∀ s,0<=gv hv s/\gv hv s<=50
theorem N1 {x k:Int} (h0:0<=x) (h1:x<=50):∃ z,atI [V.int 0,V.int x] (k % 2)=some (.int z)/\0<=z/\z<=50:=by
 rcases Int.emod_two_eq k with e|e <;> rw[e]
 ·exact⟨0,O,by decide,by decide⟩
 ·exact⟨x,O,h0,h1⟩
theorem Fs:∀ {rows:List Row}{i:Nat}{row:Row}{s:Str},rows[i]?=some row->(rows.set i (row++[s])).flatten.Perm (rows.flatten++[s])
 | x::rows,0,row,s,h=>by
  obtain rfl:x=row:=Option.some.inj h;show(x++[s]++rows.flatten).Perm (x++rows.flatten++[s]);rw[R6,R6];exact Ue _ List.perm_append_comm
 | x::rows,i + 1,row,s,h=>by
  show(x++(rows.set i (row++[s])).flatten).Perm (x++rows.flatten++[s]);rw[R6];exact Ue _ (Fs (by simpa using h))
theorem RowsOk.put {mk:Row}{rows:List Row}{hv:Kvs} (h:RowsOk mk rows hv){i:Nat}{row:Row}{s:Str}{z:Int} (hr:rows[i]?=some row) (hs:s∉mk) (hz:0<=z/\z<=50):RowsOk (mk++[s]) (rows.set i (row++[s])) (aE hv (Sum.inr s) (.int z)) where
 k:=by rw[RD];exact h.k
 k0:=by rw[RD];exact h.k0
 pm:=(Fs hr).trans (h.pm.append_right _)
 nd:=UD.mpr ⟨h.nd,SX.mpr ⟨(by simp),Sm⟩,fun x hx y hy e=>hs (by rw[<- S1.mp hy,<- e];exact hx)⟩
 has:=fun t ht=>by
  rcases T0.mp ht with ht|ht
  ·exact(h.has t ht).put
  ·rw[S1.mp ht]
   exact Has.new
 no:=fun t ht=>by
  rw[T0,not_or,S1] at ht;rw[kP,if_neg (fun q=>ht.2 (Sum.inr.inj q))];exact h.no t ht.1
 len:=by rw[sZ (h.no s hs),Rm,Rm,h.len];rfl
 flat:=fun p hp=>by
  rw[sZ (h.no s hs)] at hp;rcases T0.mp hp with hp|hp
  ·exact h.flat p hp
  ·exact⟨s,z,S1.mp hp⟩
 rng:=fun t=>by
  rw[gv_put];split
  ·exact hz
  ·exact h.rng t
def spRows (K:PySem.W.Frag):Sp:=fun vs H Q _=>∃ p,∃ ns:List Int,vs=[.ref p]/\SqL K H p (ns.map V.int)/\∀ t m l h rs mk rows hv H',ae H H'->H' t=some (.tup [.ref m,.ref l,.ref h])->H' m=some (.lst ((mk:Row).map V.str))->H' l=some (.lst ((rs:List Addr).map V.ref))->Rw H' rs rows->H' h=some (.dK hv)->RowsOk mk rows hv->mk.length<=12->(∀ s∈mk,s∈m12)->rs.Nodup->(∀ r∈rs,r≠l/\r≠m/\r≠h/\H r=none)->l≠m->H l=none->H h=none->H m=none->Q (.ref t) H'
theorem cut_take (xs:List V) (k:Nat):eI xs none (some (k:Int))=xs.take k:=by
 unfold eI;rw[HT.zhr,List.drop_zero,Nat.sub_zero];have e:HT.sIx xs.length xs.length (some (k:Int))=min k xs.length:=by
  unfold HT.sIx;dsimp only;rw[if_neg (by omega),Q7]
 rw[e,<- List.take_eq_take_min]
theorem nd12:m12.Nodup:=by decide +kernel
theorem Fz {rows:List Row} (h:Rw H rs rows){r:Addr} (hr:r∈rs):∃ o,H r=some o:=by
 obtain⟨j,hj⟩:=List.mem_iff_getElem?.mp hr;obtain⟨row,_,e⟩:=h.at hj;exact⟨_,e⟩
theorem ok_rows (T:Tx K mg a):Cal P w K mg base CX0 2 "_law_rows" ["_law_script"] [] (spRows K):=T.d__law_rows.cal fun f fd F=>by
 have ay:=DP (P:=P) (w:=w) (base:=base) T;have aF:=ok_cell_at (P:=P) (w:=w) (base:=base) T;refine F.ok oW (fun vs H Q E h=>?_) (fun aA A outer s H vs Q E hr h=>?_)
 ·obtain⟨p,ns,rfl,_⟩:=h
  rfl
 ·obtain⟨p,ns,rfl,hS,k⟩:=h
  refine'⟨_,aq ?s0 ?r0,?sg⟩
  case s0=>exact(aQ (i:=1) oW.nd O (.inl O) (a7 aF (hr.mono (by decide)) rfl (af (pv 0) (af au ak))))
  case r0=>
   refine' aq ?s1 ?r1
   case s1=>
    rw[ML (i:=2) (xs:=m12)];exact trivial
    case hxs=>rfl
    case hy=>exact pv 1
    case hN=>exact oW.nd
    case hi=>rfl
    case hx=>exact Or.inl rfl
    case hs=>rfl
    case hf=>exact .inr rfl
   case r1=>
    refine' aq ?s2 ?r2
    case s2=>exact(pb (i:=3) oW.nd O O (N:=["_law_k"]) (cap:=[none]) O (bM (osc:=aC Ao) (XN:=["_law_script","_law_first","_law_marks","_law_rows_here","_law_halves","_law_k","_law_mark"]) O O (by decide +kernel)) (tI rfl T.n_range (af (aI fu au (aI fV (aI A9 (pv 1) au) au)) ak)) (fun cl C s H fp aa=>(az (i:=0) (show(["_law_k"]:List Str).Nodup by decide +kernel) rfl (.inl rfl))) (fun cl C s H fp aa=>cy) (fun cl C s H fp aa=>(dJ ak)) (hsw:=O))
    case r2=>
     refine' aq ?s3 ?r3
     case s3=>exact(aQ (i:=4) oW.nd O (.inl O) mC)
     case r3=>
      refine' aq ?s4 ?r4
      case s4=>exact(cV PassesOwn.never O (sT O T.n_enumerate (af (pv 2) ak)) (fD O (aO (az (i:=5) oW.nd O (.inl O)) (aO (az (i:=6) oW.nd O (.inl O)) cz))) (aq (eJ (iO PySem.F.plainAttrs_list PySem.F.slot_list_append PySem.F.type_list_append mf (aG bx (pv 3) (aI fV (a7 ay (hr.mono (by decide)) rfl (af (pv 1) (af (pv 5) ak))) (bp ek rfl T.n_len eh (af (pv 3) ak))) (fun _ _=>O)) (af (pv 6) ak)))
   (aB (jH (bb hr) (pv 4) (pv 6) (aG bx (dJ (af au (af (aI fV (a7 ay (hr.mono (by decide)) rfl (af (pv 1) (af (aI fu au (pv 5)) ak))) au) ak))) (aI fV (a7 ay (hr.mono (by decide)) rfl (af (pv 1) (af (aI fu au (pv 5)) ak))) au) (fun _ _=>O)) O))))
      case r4=>
       exact aB (bn (gG (af (pv 2) (af (pv 3) (af (pv 4) ak)))))
  case sg=>
  refine⟨_,O,p,ns,0,O,hS,by decide,fun c=>?_⟩;obtain⟨cj,hcj⟩:∃ j:Nat,c % 13=(j:Int):=⟨(c % 13).toNat,by have:=Sb c (show(13:Int)≠0 by decide);omega⟩;obtain⟨mk,hmk,hml12,nd12',in12⟩:∃ mk:Row,eI (m12.map V.str) none (some (c % 13))=mk.map V.str/\mk.length<=12/\mk.Nodup/\∀ s∈mk,s∈m12:=by
   refine⟨m12.take cj,by rw[hcj,cut_take,List.map_take],?_,nd12.sublist (Uw _ _),fun s hs=>List.mem_of_mem_take hs⟩;rw[Rb];exact Nat.min_le_right _ _
  refine⟨(by show 12<=sizeLine;decide),fun z nz=>?_⟩;have s1:ae H (upd H z (.lst (m12.map V.str))):=ae.new nz;have h1:upd H z (.lst (m12.map V.str)) z=some (.lst (m12.map V.str)):=ah;generalize upd H z (.lst (m12.map V.str))=H1 at s1 h1 ⊢;refine⟨_,O,_,_,O,O,(by show(0:Int)<13;decide),_,O,z,_,O,SqL.of h1,fun m nm=>?_⟩;rw[hmk];have s2:ae H1 (upd H1 m (.lst (mk.map V.str))):=ae.new nm;have h2:upd H1 m (.lst (mk.map V.str)) m=some (.lst (mk.map V.str)):=ah;generalize upd H1 m (.lst (mk.map V.str))=H2 at s2 h2 ⊢;have t2:=s1.trans s2;have f0:0<=c / 13 % 4:=Sb _ (by decide);have f1:c / 13 % 4<4:=R1 _ (by decide);refine⟨_,O,_,_,O,O,⟨by decide,by decide⟩,_,_,O,O,(by show(0:Int)<4;decide),_,_,O,O,_,O,by omega,by omega,fun D hD=>?_⟩;refine wg (n:=(1 + c / 13 % 4).toNat) (fun i τ H'=>∃ v1,∃ rs:List Addr,τ=[v1]/\ae H2 H'/\H' D=some (.lst (rs.map V.ref))/\Rw H' rs (List.replicate i [])/\rs.Nodup/\(∀ r∈rs,H2 r=none/\r≠D)) ⟨none,[],rfl,ae.new hD,ah,trivial,Sm,fun r hr=>by cases hr⟩ ?_ ?_
  ·rintro i τ H' hi ⟨v1,rs,rfl,sm,hy,hw,nd,hn⟩
   dsimp only[bA,cK];rw[if_pos rfl];refine⟨(by show 0<=sizeLine;decide),fun y ny=>?_⟩;have s3:ae H' (upd H' y (.lst [])):=ae.new ny;have h3:upd H' y (.lst []) y=some (.lst (([]:Row).map V.str)):=ah;have IH:y≠D:=(ap hy ny).symm;have yn:y∉rs:=fun hz=>by
    obtain⟨o,e⟩:=Fz hw hz;rw[ny] at e;cases e
   generalize upd H' y (.lst [])=H3 at s3 h3 ⊢;have e1:(rs.map V.ref).length<=4:=by
    rw[QT,hw.len,Rs];omega
   have all:∀ x∈rs++[y],H2 x=none/\x≠D:=fun x hx=>by
    rcases T0.mp hx with hx|hx
    ·exact hn x hx
    ·rw[S1.mp hx]
     exact⟨none_of sm ny,IH⟩
   refine⟨_,s3 _ _ hy,by rw[Q3];omega,_,rs++[y],O,bv hD (sm.trans s3),by rw[ah,Q2];rfl,?_,?_,all⟩
   ·rw[show List.replicate (i + 1) ([]:Row)=List.replicate i []++[[]] from Tn]
    exact Rw.upd (Rw.snoc h3 (hw.same s3)) fun x hx=>(all x hx).2
   ·exact UD.mpr ⟨nd,SX.mpr ⟨(by simp),Sm⟩,fun x hx y' bT e=>yn (by rw[<- S1.mp bT,<- e];exact hx)⟩
  rintro τ H3 ⟨v1,rs,rfl,s3,DG,hw,nd,hn⟩
  have t3:=t2.trans s3;intro hh nh;have s4:ae H3 (upd H3 hh (.dK [])):=ae.new nh;have h4:upd H3 hh (.dK []) hh=some (.dK []):=ah;have KO:D≠hh:=ap DG nh;have JX:m≠hh:=ap (s3 _ _ h2) nh;have Ic:m≠D:=ap h2 hD;have nr:∀ r∈rs,r≠D/\r≠m/\r≠hh/\H r=none:=fun r hr=>by
   obtain⟨n1,n2⟩:=hn r hr;obtain⟨o,e⟩:=Fz hw hr;exact⟨n2,(ap h2 n1).symm,ap e nh,none_of t2 n1⟩
  have hH:H hh=none:=none_of t3 nh;have HA:H D=none:=none_of t2 hD;generalize upd H3 hh (.dK [])=H4 at s4 h4 ⊢;have aj:=hw.len;rw[Rs] at aj;have yP:RowsOk (mk.take 0) (List.replicate (1 + c / 13 % 4).toNat []) []:=⟨by rw[Rs];omega,by rw[Rs];omega,by rw[S4,List.flatten_replicate_nil],by rw[S4];exact Sm,(fun s hs=>by simp at hs),fun s _=>rfl,by simp,(fun p hp=>by cases hp),fun s=>⟨RF _,by show(0:Int)<=50;decide⟩⟩;refine⟨_,O,m,O,⟨_,SqL.of (s4 _ _ (s3 _ _ h2))⟩,vn (K:=K) (l:=m) (xs:=mk.map V.str) (fun i σ H'=>∃ v5 v6,∃ (rows:List Row) (hv:Kvs),σ=[some (.ref p),some (.int c),some (.ref m),some (.ref D),some (.ref hh),v5,v6]/\ae H H'/\H' m=some (.lst (mk.map V.str))/\H' D=some (.lst (rs.map V.ref))/\Rw H' rs rows/\H' hh=some (.dK hv)/\RowsOk (mk.take i) rows hv)
   ⟨none,none,_,[],rfl,t3.trans s4,s4 _ _ (s3 _ _ h2),s4 _ _ DG,hw.same s4,h4,yP⟩ ?_ ?_ ?_⟩
  ·rintro i σ H' _ ⟨_,_,_,_,rfl,_,mM,_⟩
   exact SqL.of mM
  ·rintro i y tt σ H' hy nt ⟨v5,v6,rows,hv,rfl,sm,mM,iy,uH,xK,pK⟩
   obtain⟨s,hs,rfl⟩:=qe hy;have hi:i<mk.length:=(List.getElem?_eq_some_iff.mp hs).1;have s5:ae H' (upd H' tt (.tup [.int i,.str s])):=ae.new nt;have h5:upd H' tt (.tup [.int i,.str s]) tt=some (.tup [.int i,.str s]):=ah;generalize upd H' tt (.tup [.int i,.str s])=H5 at s5 h5 ⊢;have CN:0<rs.length:=by omega
   have j0:0<=cr c (i:Int) % ((rs.map V.ref).length:Int):=Sb _ (by rw[QT];omega);have j1:cr c (i:Int) % ((rs.map V.ref).length:Int)<rs.length:=by
    have:=R1 (cr c (i:Int)) (b:=((rs.map V.ref).length:Int)) (by rw[QT];omega);rw[QT] at this ⊢;exact this
   obtain⟨r,ut,g9⟩:=at_ref j0 j1;generalize (cr c (i:Int) % ((rs.map V.ref).length:Int)).toNat=ix at ut;have HG:=Q0 ut;obtain⟨Kv,Jy,Ht,Jq⟩:=nr r HG;obtain⟨row,bX,jD⟩:=(uH.same s5).at ut;have QB:ix<rows.length:=(List.getElem?_eq_some_iff.mp bX).1;have Jr:row.length<=12:=by
    have:=(SN (Q0 bX)).length_le;rw[pK.pm.length_eq,Rb] at this;omega
   have kh:hv.length<=12:=by rw[pK.len,Rb];omega
   have KQ:s∉mk.take i:=fun z=>by
    obtain⟨j,hj⟩:=List.mem_iff_getElem?.mp z;rw[Ut] at hj;by_cases cj:j<i
    ·rw[if_pos cj] at hj
     obtain⟨l1,e1⟩:=List.getElem?_eq_some_iff.mp hj;obtain⟨l2,e2⟩:=List.getElem?_eq_some_iff.mp hs;exact List.pairwise_iff_getElem.mp nd12' j i l1 l2 cj (e1.trans e2.symm)
    ·rw[if_neg cj] at hj
     cases hj
   refine⟨tt,_,O,SqT.of h5,O,_,_,O,_,_,O,O,?_⟩;refine⟨_,O,_,O,_,O,c,_,O,_,O,D,_,O,.inl (SqL.of (s5 _ _ iy)),_,_,O,O,(by show(0:Int)<((rs.map V.ref).length:Int);rw[QT];omega),D,_,_,_,O,O,SqL.of (s5 _ _ iy),g9,.inl ⟨O,_,SqL.of jD⟩,_,O,r,_,_,O,O,jD,by rw[QT,Q3];omega,?_⟩;have w6:Rw (upd H5 r (.lst (row.map V.str++[.str s]))) rs (rows.set ix (row++[s])):=by
    have:=Rw.put (row:=row++[s]) (uH.same s5) nd ut;rw[Q2] at this;exact this
   have s6:ae H (upd H5 r (.lst (row.map V.str++[.str s]))):=bv Jq (sm.trans s5);have B4:upd H5 r (.lst (row.map V.str++[.str s])) m=some (.lst (mk.map V.str)):=by rw[ai (Ne.symm Jy)];exact s5 _ _ mM
   have Dq:upd H5 r (.lst (row.map V.str++[.str s])) D=some (.lst (rs.map V.ref)):=by rw[ai (Ne.symm Kv)];exact s5 _ _ iy
   have Bp:upd H5 r (.lst (row.map V.str++[.str s])) hh=some (.dK hv):=by rw[ai (Ne.symm Ht)];exact s5 _ _ xK
   generalize upd H5 r (.lst (row.map V.str++[.str s]))=H6 at w6 s6 B4 Dq Bp ⊢;obtain⟨y2,HP,y0,Iu⟩:=N1 (x:=cr c (20 + (i:Int)) % 51) (k:=cr c (40 + (i:Int))) (Sb _ (by decide)) (by have:=R1 (cr c (20 + (i:Int))) (b:=51) (by decide);omega);refine⟨_,O,_,O,_,_,O,O,c,_,O,_,_,O,O,(by show(0:Int)<51;decide),(by show 2<=sizeLine;decide),fun q nq=>⟨_,O,_,O,_,_,O,O,c,_,O,_,_,O,O,(by show(0:Int)<2;decide),q,_,_,_,O,O,SqL.of ah,HP,_,O,_,O,hh,_,O,kQ.k (k:=Sum.inr s) (ae.new nq _ _ Bp) (by rw[Q3];omega),?_⟩⟩;have s7:ae H6 (upd H6 q (.lst [V.int 0,V.int (cr c (20 + (i:Int)) % 51)])):=ae.new nq;generalize upd H6 q (.lst [V.int 0,V.int (cr c (20 + (i:Int)) % 51)])=H7 at s7 ⊢;refine⟨_,_,rows.set ix (row++[s]),aE hv (Sum.inr s) (.int y2),O,bv hH (s6.trans s7),by rw[ai JX];exact s7 _ _ B4,by rw[ai KO];exact s7 _ _ Dq,?_,ah,?_⟩
   ·exact Rw.upd (w6.same s7) fun x hx=>(nr x hx).2.2.1
   ·rw[zam hs]
    exact pK.put bX KQ ⟨y0,Iu⟩
  ·rintro σ H' ⟨v5,v6,rows,hv,rfl,sm,mM,iy,uH,xK,pK⟩
   rw[QT,Rf] at pK;refine⟨_,O,_,O,_,O,(by show 3<=sizeLine;decide),fun t nt=>?_⟩;have s8:ae H' (upd H' t (.tup [.ref m,.ref D,.ref hh])):=ae.new nt;exact k t m D hh rs mk rows hv _ (sm.trans s8) ah (s8 _ _ mM) (s8 _ _ iy) (uH.same s8) (s8 _ _ xK) pK hml12 in12 nd (fun r hr=>⟨(nr r hr).1,(nr r hr).2.1,(nr r hr).2.2.1,(nr r hr).2.2.2⟩) Ic.symm HA hH (none_of s1 nm)
end
section
variable {K:PySem.W.Frag}
theorem iS  (h:(am.map V.int)[i]?=some x):∃ z,am[i]?=some z/\x=.int z:=by
 rw[Q4] at h;cases e:am[i]? with
 | none=>rw[e] at h;cases h
 | some n=>rw[e] at h;exact⟨n,O,(Option.some.inj h).symm⟩
theorem at_two {x c:Int} (hx:0<x) (hy:0<y):∃ z,atI [V.int x,V.int y] (c % 2)=some (.int z)/\0<z/\(z=x\/z=y):=by
 have h0:0<=c % 2:=Sb _ (by decide);have h1:c % 2<2:=R1 _ (by decide);rcases(by omega:c % 2=0\/c % 2=1) with e|e
 ·rw[e];exact⟨x,FO,hx,.inl O⟩
 ·rw[e];exact⟨y,D8,hy,.inr O⟩
def PJ (K:PySem.W.Frag):Sp:=fun vs H Q _=>∃ p m mk,∃ ns:List Int,vs=[.ref p,.ref m]/\SqL K H p (ns.map V.int)/\ns.length<=63/\H m=some (.lst ((mk:Row).map V.str)) /\
 ∀ r ls H',ae H H'->H r=none->L3At K H' r ls->(∀ q∈ls,q.1∈mk/\q.2.1∈mk/\0<q.2.2/\q.2.2<2 ^ 61)->ls.length<=ns.length->Q (.ref r) H'
theorem ok_lines (T:Tx K mg a):Cal P w K mg base CX0 2 "_law_lines" ["_law_cells","_law_marks"] [] (PJ K):=T.d__law_lines.cal fun f fd F=>by
 have ay:=DP (P:=P) (w:=w) (base:=base) T;refine F.ok pS (fun vs H Q E h=>?_) (fun aA A outer s H vs Q E hr h=>?_)
 ·obtain⟨p,m,mk,ns,rfl,_⟩:=h
  rfl
 ·obtain⟨p,m,mk,ns,rfl,hp,hn,hm,k⟩:=h
  refine⟨_,(aq (aQ (i:=2) pS.nd O (.inl O) (dJ ak))
   (aq (cV PassesOwn.never rfl (bV (pv 0)) (az (i:=3) pS.nd O (.inl O)) (aB (d6 (cJ oK (bp ek O T.n_len eh (af (pv 1) ak)) au (bH _)) (aq (aQ (i:=4) pS.nd O (.inl O) (aI fV (a7 ay (hr.mono (by decide)) rfl (af (pv 3) (af au ak))) (bp ek rfl T.n_len eh (af (pv 1) ak))))
   (aq (aQ (i:=5) pS.nd O (.inl O) (aI fV (aI fu (aI fu (pv 4) au) (aI fV (a7 ay (hr.mono (by decide)) rfl (af (pv 3) (af au ak))) (aI iq (bp ek rfl T.n_len eh (af (pv 1) ak)) au))) (bp ek rfl T.n_len eh (af (pv 1) ak))))
   (aq (aQ (i:=6) pS.nd O (.inl O) (aG bx (dJ (af (aI fu au (aI fV (a7 ay (hr.mono (by decide)) rfl (af (pv 3) (af au ak))) au)) (af (aI fu au (aI fV (pv 3) (aI op_pow au au))) ak))) (aI fV (a7 ay (hr.mono (by decide)) rfl (af (pv 3) (af au ak))) au) (fun _ _=>O)))
   (aB (eJ (iO PySem.F.plainAttrs_list PySem.F.slot_list_append PySem.F.type_list_append mf (pv 2) (af (gG (af (aG bx (pv 1) (pv 4) (fun _ _=>O)) (af (aG bx (pv 1) (pv 5) (fun _ _=>O)) (af (pv 6) ak)))) ak))))))) d9)))
   (aB (bn (pv 2))))),?_⟩
  refine⟨(by show 0<=sizeLine;decide),fun g ng=>?_⟩;have s1:ae H (upd H g (.lst [])):=ae.new ng;have h1:upd H g (.lst []) g=some (.lst []):=ah;generalize upd H g (.lst [])=H1 at s1 h1 ⊢;refine⟨_,O,p,O,⟨_,s1.sqL hp⟩,iP (K:=K) (a:=p) (xs:=ns.map V.int) (fun i σ H'=>∃ v3 v4 v5 v6 xs,∃ ls:List L3,σ=[some (.ref p),some (.ref m),some (.ref g),v3,v4,v5,v6]/\ae H H'/\H' g=some (.lst xs)/\aJ K H' (ls.map l3D) xs/\ls.length<=i/\∀ q∈ls,q.1∈mk/\q.2.1∈mk/\0<q.2.2/\q.2.2<2 ^ 61)
   ⟨none,none,none,none,[],[],rfl,s1,h1,rfl,QY _,fun q hq=>by cases hq⟩ ?_ ?_ ?_⟩
  ·rintro i σ H' _ ⟨_,_,_,_,_,_,rfl,sm,_⟩
   exact sm.sqL hp
  ·rintro i x σ H' hx ⟨v3,v4,v5,v6,xs,ls,rfl,sm,hg,aR,wG,hok⟩
   obtain⟨c,hc,rfl⟩:=iS hx;have hi:i<ns.length:=(List.getElem?_eq_some_iff.mp hc).1;have lx:xs.length<=63:=by
    have:=aR.length;rw[QT] at this;omega
   dsimp only[bA];refine⟨_,O,m,_,O,.inl (SqL.of (sm _ _ hm)),_,_,O,O,_,O,?_⟩;refine dv (fun c1=>?_) (fun c1=>⟨_,_,_,_,xs,ls,O,sm,hg,aR,by omega,hok⟩);have xR:1<mk.length:=by
    have:=Rj c1;rw[QT] at this;omega
   have QC:((mk.map V.str).length:Int)=mk.length:=by rw[QT]
   refine⟨_,O,c,1,O,_,O,m,_,O,.inl (SqL.of (sm _ _ hm)),_,_,O,O,(by show(0:Int)<((mk.map V.str).length:Int);omega),?_⟩;refine⟨_,O,_,_,O,O,_,O,c,2,O,_,O,m,_,O,.inl (SqL.of (sm _ _ hm)),_,_,O,O,_,_,O,O,(by show(0:Int)<((mk.map V.str).length:Int) - 1;omega),_,_,O,O,_,O,m,_,O,.inl (SqL.of (sm _ _ hm)),_,_,O,O,(by show(0:Int)<((mk.map V.str).length:Int);omega),?_⟩;have y1:0<1 + cr c 3 % 9:=by have:=Sb (cr c 3) (show(9:Int)≠0 by decide);omega
   have y2:0<1 + c % 10 ^ Int.toNat 7:=by have:=Sb c (show(10 ^ Int.toNat 7:Int)≠0 by decide);omega
   have y3:1 + cr c 3 % 9<2 ^ 61:=by have:=R1 (cr c 3) (show(0:Int)<9 by decide);omega
   have y4:1 + c % 10 ^ Int.toNat 7<2 ^ 61:=by
    have:=R1 c (show(0:Int)<10 ^ Int.toNat 7 by decide);have e:(10:Int) ^ Int.toNat 7=10000000:=by decide
    omega
   obtain⟨wt,r9,w0,ww⟩:=at_two (x:=1 + cr c 3 % 9) (y:=1 + c % 10 ^ Int.toNat 7) (c:=cr c 4) y1 y2;have w1:wt<2 ^ 61:=by rcases ww with e|e <;> rw[e] <;> assumption
   refine⟨_,O,c,3,O,_,_,O,O,(by show(0:Int)<9;decide),_,_,O,O,_,O,_,_,O,O,⟨by decide,by decide,by decide⟩,_,_,O,O,(by show(0:Int)<10 ^ Int.toNat 7;decide),_,_,O,O,(by show 2<=sizeLine;decide),fun z nz=>⟨_,O,c,4,O,_,_,O,O,(by show(0:Int)<2;decide),z,_,_,_,O,O,SqL.of ah,r9,?_⟩⟩;have s2:ae H' (upd H' z (.lst [V.int (1 + cr c 3 % 9),V.int (1 + c % 10 ^ Int.toNat 7)])):=ae.new nz;generalize upd H' z (.lst [V.int (1 + cr c 3 % 9),V.int (1 + c % 10 ^ Int.toNat 7)])=H2 at s2 ⊢;have t2:=sm.trans s2;have m1:cr c 1 % ((mk.map V.str).length:Int)<mk.length:=by
    have:=R1 (cr c 1) (b:=((mk.map V.str).length:Int)) (by omega);omega
   have m0:0<=cr c 1 % ((mk.map V.str).length:Int):=Sb _ (by omega);have n1:(cr c 1 % ((mk.map V.str).length:Int) + 1 + cr c 2 % (((mk.map V.str).length:Int) - 1)) % ((mk.map V.str).length:Int)<mk.length:=by
    have:=R1 (cr c 1 % ((mk.map V.str).length:Int) + 1 + cr c 2 % (((mk.map V.str).length:Int) - 1)) (b:=((mk.map V.str).length:Int)) (by omega);omega
   have n0:0<=(cr c 1 % ((mk.map V.str).length:Int) + 1 + cr c 2 % (((mk.map V.str).length:Int) - 1)) % ((mk.map V.str).length:Int):=Sb _ (by omega);obtain⟨su,u1,Ik⟩:=Em (ss:=mk) m0 m1;obtain⟨sl,u2,Ip⟩:=Em (ss:=mk) n0 n1;refine⟨_,O,.inl ⟨O,_,SqL.of (s2 _ _ hg)⟩,_,O,_,O,m,_,_,_,O,O,SqL.of (t2 _ _ hm),Ik,_,O,_,O,m,_,_,_,O,O,SqL.of (t2 _ _ hm),Ip,_,O,(by show 3<=sizeLine;decide),fun t nt=>?_⟩;have s3:ae H2 (upd H2 t (.tup [.str su,.str sl,.int wt])):=ae.new nt;have h3:upd H2 t (.tup [.str su,.str sl,.int wt]) t=some (.tup [.str su,.str sl,.int wt]):=ah;generalize upd H2 t (.tup [.str su,.str sl,.int wt])=H3 at s3 h3 ⊢;have u3:=s2.trans s3;refine⟨g,_,_,O,O,u3 _ _ hg,by rw[Q3];omega,?_⟩;have kp:Tk H3 (upd H3 g (.lst (xs++[.ref t]))):=Tk.upd (u3 _ _ hg) rfl;refine⟨_,_,_,_,_,ls++[(su,sl,wt)],O,bv ng (sm.trans u3),ah,?_,by rw[Rm];exact Nat.succ_le_succ wG,fun q hq=>?_⟩
   ·rw[Q2]
    exact aJ.snoc (d:=l3D (su,sl,wt)) (kp.dt O ⟨t,_,O,SqT.of h3,_,_,O,O,_,_,O,O,_,_,O,O,O⟩) (kp.dts (cW (fun _=>O) _) (u3.dts aR))
   ·rcases T0.mp hq with hq|hq
    ·exact hok q hq
    ·rw[S1.mp hq]
     exact⟨u1,u2,w0,w1⟩
  ·rintro σ H3 ⟨v3,v4,v5,v6,xs,ls,rfl,sm,hg,aR,wG,hok⟩
   rw[QT] at wG;exact⟨_,O,k g ls H3 sm ng ⟨xs,hg,aR⟩ hok (by omega)⟩
end
end Sd
def wN' (hv:Sd.Kvs) (mk:Sd.Row) (g:Int) (q:Sd.Ln):Wt:=(mk.idxOf q.1,mk.idxOf q.2,Sd.gv hv q.1 + Sd.gv hv q.2 + g,0)
def wL' (mk:Sd.Row) (n:Nat):Nat->List Sd.L3->List Wt
 | _,[]=>[]
 | k,q::r=>(n + k,mk.idxOf q.1,0,q.2.2)::(n + k,mk.idxOf q.2.1,0,q.2.2)::wL' mk n (k + 1) r
def wT (hv:Sd.Kvs) (rows:List Sd.Row) (ls:List Sd.L3) (g:Int):List Wt:=(Sd.nbs rows).map (wN' hv rows.flatten g)++wL' rows.flatten rows.flatten.length 0 ls
theorem wL_wI (mk:Sd.Row) (n:Nat):∀ (k:Nat) (r:List Sd.L3),(wL' mk n k r).map wI=Sd.wL mk n k r
 | _,[]=>rfl
 | k,q::r=>by
  show wI (n + k,mk.idxOf q.1,0,q.2.2)::wI (n + k,mk.idxOf q.2.1,0,q.2.2)::(wL' mk n (k + 1) r).map wI=_;rw[wL_wI mk n (k + 1) r];rfl
theorem wT_wI (hv:Sd.Kvs) (rows:List Sd.Row) (ls:List Sd.L3) (g:Int):(wT hv rows ls g).map wI=Sd.wAll hv rows ls g:=by
 unfold wT Sd.wAll;rw[Q2,wL_wI,Ss];rfl
theorem tF {mk:Sd.Row}{n:Nat}{x:Wt}:∀ (k:Nat) (r:List Sd.L3),x∈wL' mk n k r->∃ j l,r[j]?=some l/\(x=(n + (k + j),mk.idxOf l.1,0,l.2.2)\/x=(n + (k + j),mk.idxOf l.2.1,0,l.2.2))
 | _,[],h=>by cases h
 | k,q::r,h=>by
  rcases Rp.mp h with h|h
  ·exact⟨0,q,O,.inl h⟩
  ·rcases Rp.mp h with h|h
   ·exact⟨0,q,O,.inr h⟩
   ·obtain⟨j,l,hj,e⟩:=tF (k + 1) r h
    refine⟨j + 1,l,hj,?_⟩;rw[show k + (j + 1)=k + 1 + j by omega];exact e
theorem Er (mk:Sd.Row) (n:Nat):∀ (k:Nat) (r:List Sd.L3),(wL' mk n k r).length=2 * r.length
 | _,[]=>rfl
 | k,x::r=>by
  show(wL' mk n (k + 1) r).length + 1 + 1=_;rw[Er mk n (k + 1) r,Re];omega
def jU (x:Int):Int:=if x<0 then -x else x
def cst (v:Str->Int) (ls:List Sd.L3):Int:=(ls.map fun q=>q.2.2 * jU (v q.2.1 - v q.1)).sum
theorem cst_of (qv:Sd.Kvs) (ls:List Sd.L3):Sd.costL qv ls=cst (Sd.gv qv) ls:=rfl
theorem Pt (a b:List Wt) (Q:Nat->Int):cU (a++b) Q=cU a Q + cU b Q:=by
 unfold cU;rw[Q2,List.sum_append]
theorem EZ (hv:Sd.Kvs) (mk:Sd.Row) (g:Int) (Q:Nat->Int):∀ l:List Sd.Ln,cU (l.map (wN' hv mk g)) Q=0
 | []=>rfl
 | q::l=>by
  have ih:=EZ hv mk g Q l;show 0 * (Q (mk.idxOf q.2) - Q (mk.idxOf q.1)) + cU (l.map (wN' hv mk g)) Q=0;rw[ih,Us];rfl
theorem Au (hv:Sd.Kvs) (rows:List Sd.Row) (ls:List Sd.L3) (g:Int) (Q:Nat->Int):cU (wT hv rows ls g) Q=cU (wL' rows.flatten rows.flatten.length 0 ls) Q:=by
 unfold wT;rw[Pt,EZ,Int.zero_add]
theorem DT {w x h:Int} (w0:0<=w) (h1:h<=x) (h2:h<=y):w * jU (y - x)<=w * (x - h) + w * (y - h):=by
 rw[<- T6];refine Tq ?_ w0;unfold jU;split <;> omega
theorem OP {w x:Int}:w * (x - min x y) + w * (y - min x y)=w * jU (y - x):=by
 rw[<- T6];congr 1;unfold jU;split <;> omega
theorem AY {mk:Sd.Row}{n:Nat}{Q:Nat->Int}:∀ (k:Nat) (r:List Sd.L3),jG (wL' mk n k r) Q->(∀ q∈r,0<=q.2.2)->cst (fun s=>Q (mk.idxOf s)) r<=cU (wL' mk n k r) Q
 | _,[],_,_=>RF _
 | k,q::r,hf,h0=>by
  have ih:=AY (k + 1) r (fun x hx=>hf x (Q6 _ (Q6 _ hx))) fun x hx=>h0 x (Q6 _ hx)
  have f1:(0:Int)<=Q (mk.idxOf q.1) - Q (n + k):=hf (n + k,mk.idxOf q.1,0,q.2.2) Q9;have f2:(0:Int)<=Q (mk.idxOf q.2.1) - Q (n + k):=hf (n + k,mk.idxOf q.2.1,0,q.2.2) (Q6 _ Q9);have t:=DT (w:=q.2.2) (x:=Q (mk.idxOf q.1)) (y:=Q (mk.idxOf q.2.1)) (h:=Q (n + k)) (h0 q Q9) (by omega) (by omega);show q.2.2 * jU (Q (mk.idxOf q.2.1) - Q (mk.idxOf q.1)) + cst (fun s=>Q (mk.idxOf s)) r<=q.2.2 * (Q (mk.idxOf q.1) - Q (n + k)) + (q.2.2 * (Q (mk.idxOf q.2.1) - Q (n + k)) + cU (wL' mk n (k + 1) r) Q);omega
theorem upper {mk:Sd.Row}{n:Nat}{Q:Nat->Int}:∀ (k:Nat) (r:List Sd.L3),(∀ j l,r[j]?=some l->Q (n + (k + j))=min (Q (mk.idxOf l.1)) (Q (mk.idxOf l.2.1)))->jG (wL' mk n k r) Q/\cU (wL' mk n k r) Q=cst (fun s=>Q (mk.idxOf s)) r
 | _,[],_=>⟨fun x hx=>(by cases hx),rfl⟩
 | k,q::r,h=>by
  obtain⟨i1,i2⟩:=upper (Q:=Q) (mk:=mk) (n:=n) (k + 1) r fun j l hj=>by
   have:=h (j + 1) l hj;rw[show k + 1 + j=k + (j + 1) by omega];exact this
  have e:Q (n + k)=min (Q (mk.idxOf q.1)) (Q (mk.idxOf q.2.1)):=h 0 q rfl;refine⟨fun x hx=>?_,?_⟩
  ·rcases Rp.mp hx with z|z
   ·rw[z]
    show(0:Int)<=Q (mk.idxOf q.1) - Q (n + k);rw[e];omega
   ·rcases Rp.mp z with z|z
    ·rw[z]
     show(0:Int)<=Q (mk.idxOf q.2.1) - Q (n + k);rw[e];omega
    ·exact i1 x z
  ·show q.2.2 * (Q (mk.idxOf q.1) - Q (n + k)) + (q.2.2 * (Q (mk.idxOf q.2.1) - Q (n + k)) + cU (wL' mk n (k + 1) r) Q)=q.2.2 * jU (Q (mk.idxOf q.2.1) - Q (mk.idxOf q.1)) + cst (fun s=>Q (mk.idxOf s)) r
   rw[i2,e,<- OP (w:=q.2.2)];omega
def ext (mk:Sd.Row) (ls:List Sd.L3) (v:Str->Int) (i:Nat):Int:=match mk[i]? with
 | some s=>v s
 | none=>match ls[i - mk.length]? with
  | some l=>min (v l.1) (v l.2.1)
  | none=>0
theorem qm {mk:Sd.Row}{ls:List Sd.L3} (h:s∈mk):ext mk ls v (mk.idxOf s)=v s:=by
 unfold ext;rw[Sd.ix_at h]
theorem ext_ln {mk:Sd.Row}{ls:List Sd.L3}{l:Sd.L3} (h:ls[j]?=some l):ext mk ls v (mk.length + j)=min (v l.1) (v l.2.1):=by
 unfold ext;rw[R7 (by omega),S5,h]
theorem GI {u:Str->Int}{ls:List Sd.L3} (h:∀ q∈ls,v q.1=u q.1/\v q.2.1=u q.2.1):cst v ls=cst u ls:=by
 unfold cst;congr 1;refine SH fun q hq=>?_
 rw[(h q hq).1,(h q hq).2]
section
variable {hv:Sd.Kvs}{rows:List Sd.Row}{ls:List Sd.L3}
def jR (hv:Sd.Kvs) (rows:List Sd.Row) (g:Int) (v:Str->Int):Prop:=∀ q∈Sd.nbs rows,Sd.gv hv q.1 + Sd.gv hv q.2 + g<=v q.2 - v q.1
theorem MT {qv:Sd.Kvs}:(Sd.nbs rows).all (Sd.kp1 hv qv g)=true↔jR hv rows g (Sd.gv qv):=by
 rw[Sg];exact⟨fun h q hq=>Rj (h q hq),fun h q hq=>Ro (h q hq)⟩
theorem vN {q:Sd.Ln} (h:q∈Sd.nbs rows):q.1∈rows.flatten/\q.2∈rows.flatten:=by
 obtain⟨row,hr,m1,m2⟩:=Sd.nbs_mem h;exact⟨List.mem_flatten.mpr ⟨row,hr,m1⟩,List.mem_flatten.mpr ⟨row,hr,m2⟩⟩
theorem wv (cN:∀ q∈ls,q.1∈rows.flatten/\q.2.1∈rows.flatten):∀ x∈wT hv rows ls g,x.1<rows.flatten.length + ls.length/\x.2.1<rows.flatten.length + ls.length:=fun x hx=>by
 have il:∀ {s},s∈rows.flatten->rows.flatten.idxOf s<rows.flatten.length:=fun h=>SA h
 unfold wT at hx;rcases T0.mp hx with z|z
 ·obtain⟨q,hq,rfl⟩:=List.mem_map.mp z
  obtain⟨m1,m2⟩:=vN hq;have:=il m1;have:=il m2;show rows.flatten.idxOf q.1<_/\rows.flatten.idxOf q.2<_;omega
 ·obtain⟨j,l,hj,e⟩:=tF 0 ls z
  have jl:=(List.getElem?_eq_some_iff.mp hj).1;obtain⟨m1,m2⟩:=cN l (Q0 hj);have:=il m1;have:=il m2;rcases e with e|e <;> rw[e] <;> dsimp only <;> omega
theorem FV (cN:∀ q∈ls,q.1∈rows.flatten/\q.2.1∈rows.flatten) (hg:jR hv rows g v):jG (wT hv rows ls g) (ext rows.flatten ls v)/\cU (wT hv rows ls g) (ext rows.flatten ls v)=cst v ls:=by
 obtain⟨u1,u2⟩:=upper (mk:=rows.flatten) (n:=rows.flatten.length) (Q:=ext rows.flatten ls v) 0 ls fun j l hj=>by
  obtain⟨m1,m2⟩:=cN l (Q0 hj);rw[S2,ext_ln hj,qm m1,qm m2]
 refine⟨fun x hx=>?_,?_⟩
 ·unfold wT at hx
  rcases T0.mp hx with z|z
  ·obtain⟨q,hq,rfl⟩:=List.mem_map.mp z
   obtain⟨m1,m2⟩:=vN hq;show Sd.gv hv q.1 + Sd.gv hv q.2 + g<=ext rows.flatten ls v (rows.flatten.idxOf q.2) - ext rows.flatten ls v (rows.flatten.idxOf q.1);rw[qm m1,qm m2];exact hg q hq
  ·exact u1 x z
 ·rw[Au,u2]
  exact GI fun q hq=>⟨qm (cN q hq).1,qm (cN q hq).2⟩
def plv (rows:List Sd.Row) (pl:List Int) (s:Str):Int:=fn pl (rows.flatten.idxOf s)
theorem Gd (cN:∀ q∈ls,q.1∈rows.flatten/\q.2.1∈rows.flatten) (h0:∀ q∈ls,0<=q.2.2) (lk:jQ (wT hv rows ls g) (rows.flatten.length + ls.length) pl fl) :
  jR hv rows g (plv rows pl)/\cst (plv rows pl) ls=cU (wT hv rows ls g) (fn pl)/\∀ v,jR hv rows g v->cst (plv rows pl) ls<=cst v ls:=by
 have ft:=lk.fit;have gp:jR hv rows g (plv rows pl):=fun q hq=>ft (wN' hv rows.flatten g q) (Ru _ (List.mem_map.mpr ⟨q,hq,O⟩))
 have up:∀ v,jR hv rows g v->cU (wT hv rows ls g) (fn pl)<=cst v ls:=fun v hg=>by
  obtain⟨f,e⟩:=FV cN hg;rw[<- e];exact lk.opt (wv cN) f
 have lw:cst (plv rows pl) ls<=cU (wT hv rows ls g) (fn pl):=by
  rw[Au];exact AY (mk:=rows.flatten) (Q:=fn pl) 0 ls (fun x hx=>ft x (Q8 _ hx)) h0
 have e:=Int.le_antisymm lw (up _ gp);exact⟨gp,e,fun v hg=>by rw[e];exact up v hg⟩
theorem NU (cN:∀ q∈ls,q.1∈rows.flatten/\q.2.1∈rows.flatten) (hg:jR hv rows g v) (h:jN (wn (wT hv rows ls g) (rows.flatten.length + ls.length)) ring):False:=h.nofit (FV cN hg).1
end
def plD (rows:List Sd.Row) (pl:List Int):Sd.Kvs:=mkD ((rows.flatten.map Sum.inr).zip (pl.map V.int))
theorem pl_val {rows:List Sd.Row} (nd:rows.flatten.Nodup) (hl:rows.flatten.length<=pl.length) (hs:s∈rows.flatten):aN (plD rows pl) (Sum.inr s)=some (.int (plv rows pl s)):=by
 have e1:=Sd.ix_at hs;have il:=SA hs;have e2:(pl.map V.int)[rows.flatten.idxOf s]?=some (.int (fn pl (rows.flatten.idxOf s))):=by
  unfold fn;rw[Q4,QV,QX (show rows.flatten.idxOf s<pl.length by omega)];rfl
 have e3:((rows.flatten.map (Sum.inr:Str->Key)).zip (pl.map V.int))[rows.flatten.idxOf s]?=some (Sum.inr s,.int (fn pl (rows.flatten.idxOf s))):=by
  rw[Rx];exact⟨by rw[Q4,e1];rfl,e2⟩
 have bo:(((rows.flatten.map (Sum.inr:Str->Key)).zip (pl.map V.int)).map (·.1)).Nodup:=by
  rw[show(fun x:Key×V=>x.1)=Prod.fst from rfl,TV (by rw[QT,QT];exact hl),Si,TF];rw[Si] at nd;exact nd.imp fun z e=>z (Sum.inr.inj e)
 exact Sd.val_mkD bo e3
theorem pl_has {rows:List Sd.Row} (nd:rows.flatten.Nodup) (hl:rows.flatten.length<=pl.length) (hs:s∈rows.flatten):Sd.Has (plD rows pl) s/\Sd.gv (plD rows pl) s=plv rows pl s:=by
 have e:=pl_val nd hl hs;refine⟨⟨_,e⟩,?_⟩;unfold Sd.gv;rw[e]
theorem GG (hv:Sd.Kvs) (rows:List Sd.Row) (ls:List Sd.L3) (g:Int):(wT hv rows ls g).length=(Sd.nbs rows).length + 2 * ls.length:=by
 unfold wT;rw[Rm,QT,Er]
theorem Bj:∀ rows:List Sd.Row,(Sd.nbs rows).length<=rows.flatten.length
 | []=>QY _
 | row::rows=>by
  have ih:=Bj rows;have e:=Sd.nb_len row;show(Sd.nb row++Sd.nbs rows).length<=(row++rows.flatten).length;rw[Rm,Rm];omega
theorem wT_wt {hv:Sd.Kvs}{rows:List Sd.Row}{ls:List Sd.L3} (h:∀ q∈ls,0<q.2.2/\q.2.2<2 ^ 61):∀ x∈wT hv rows ls g,0<=x.2.2.2/\x.2.2.2<2 ^ 61:=fun x hx=>by
 unfold wT at hx;rcases T0.mp hx with z|z
 ·obtain⟨q,hq,rfl⟩:=List.mem_map.mp z
  exact⟨RF _,by show(0:Int)<2 ^ 61;decide⟩
 ·obtain⟨j,l,hj,e⟩:=tF 0 ls z
  obtain⟨h1,h2⟩:=h l (Q0 hj);rcases e with e|e <;> rw[e] <;> exact⟨SG h1,h2⟩
section
variable {K:PySem.W.Frag}
def spSide (K:PySem.W.Frag) (t:Adr):Sp:=fun vs H Q _=>∃ l rs rows h hv m ls g,vs=[.ref l,.ref h,.ref m,.int g]/\H l=some (.lst ((rs:List Addr).map V.ref))/\Sd.Rw H rs rows/\rows.length<=30/\rows.flatten.length<=40/\rows.flatten.Nodup/\H h=some (.dK hv)/\(∀ s∈rows.flatten,Sd.Has hv s)/\Sd.L3At K H m ls/\ls.length<=40/\(∀ q∈ls,q.1∈rows.flatten/\q.2.1∈rows.flatten)/\(∀ q∈ls,0<q.2.2/\q.2.2<2 ^ 61)/\(∃ v,jR hv rows g v)/\H t.tb_search=some (.tbl oz oH) /\
 ∀ p d fA pl fl H',ae H H'->H p=none->H d=none->H fA=none->H' p=some (.tup [.ref d,.ref fA])->H' d=some (.dK (plD rows pl))->H' fA=some (.lst ((fl:List Int).map V.int))->Told (wT hv rows ls g) (rows.flatten.length + ls.length) (pl,fl)->jQ (wT hv rows ls g) (rows.flatten.length + ls.length) pl fl->Q (.ref p) H'
theorem PB (T:Tx K mg a):Cal P w K mg base (CXe P w) 8 "sideways" ["rows","halves","lines","gap"] [] (spSide K a):=T.d_sideways.cal fun f fd F=>by
 have d4:=Sd.ok_asked (P:=P) (w:=w) (base:=base) T;have nI:=Mb (P:=P) (w:=w) (base:=base) T;have aV:=Sd.ok_marks_in_line (P:=P) (w:=w) (base:=base) T;refine F.okX AR (fun vs H Q E h=>?_) (fun aA A outer s H vs Q E hr h=>?_)
 ·obtain⟨l,rs,rows,h,hv,m,ls,g,rfl,_⟩:=h
  rfl
 ·obtain⟨l,rs,rows,h,hv,m,ls,g,rfl,hl,hw,pi,Qc,nd,hh,has,hm,cN,hin,r9,⟨v,hg⟩,iZ,k⟩:=h
  refine⟨_,(aq (aQ (i:=4) AR.nd O (.inl O) (oy d4 oG (hr.mono (by decide)) rfl (af (pv 0) (af (pv 1) (af (pv 2) (af (pv 3) ak))))))
   (aq (aQ (i:=5) AR.nd O (.inl O) (oy nI oG (hr.mono (by decide)) rfl (af (aG cf (pv 4) au (fun _ _=>O)) (af (aG cf (pv 4) au (fun _ _=>O)) ak))))
   (aB (bn (gG (af (Mt rfl T.n_dict rfl T.n_zip (af (a7 aV (hr.mono (by decide)) rfl (af (pv 0) ak)) (af (aG cf (pv 5) au (fun _ _=>O)) ak))) (af (aG cf (pv 5) au (fun _ _=>O)) ak))))))),?_⟩
  refine⟨_,O,_,O,_,O,_,O,l,rs,rows,h,hv,m,ls,g,O,hl,hw,pi,by omega,nd,hh,has,hm,by omega,hin,fun _ t x H1 s1 nt nx ht hx=>?_,fun uF=>?_⟩
  case refine_2=>exact(by omega:False).elim
  obtain⟨xs,mK,uy,_⟩:=hx;have len:=GG hv rows ls g;have nl:=Bj rows;have xy:jr K H1 x ((wT hv rows ls g).map wI):=by
   rw[wT_wI];exact⟨xs,SqL.of mK,uy⟩
  refine⟨_,O,t,_,_,_,O,O,SqT.of ht,O,_,O,t,_,_,_,O,O,SqT.of ht,O,x,wT hv rows ls g,rows.flatten.length + ls.length,O,xy,wv hin,wT_wt r9,by omega,by omega,s1 _ _ iZ,fun pl fl gt pA fA H2 s2 zq Jp Qd lL Qg Jk hV told lk=>?_,fun ring lr dx H2 s2 _ _ told _=>(NU hin hg told).elim⟩;have t2:=s1.trans s2;have lp:=lk.lp;refine⟨_,O,l,rs,rows,O,t2 _ _ hl,hw.same t2,by omega,fun mA H3 s3 Kf lj=>?_⟩;have q9:=s3 _ _ Jp;refine⟨_,O,gt,_,_,_,O,O,SqT.of q9,O,mA,pA,rows.flatten.map Sum.inr,pl.map V.int,O,?_,SqL.of (s3 _ _ Jk),by rw[QT,QT];omega,by rw[QT];omega,fun d bo=>?_⟩
  ·rw[Ss]
   exact SqL.of lj
  have s4:ae H3 (upd H3 d (.dK (plD rows pl))):=ae.new bo;have h4:upd H3 d (.dK (plD rows pl)) d=some (.dK (plD rows pl)):=ah
  change ae H3 (upd H3 d (.dK (mkD ((rows.flatten.map Sum.inr).zip (pl.map V.int))))) at s4
  change upd H3 d (.dK (mkD ((rows.flatten.map Sum.inr).zip (pl.map V.int)))) d=_ at h4
  generalize upd H3 d (.dK (mkD ((rows.flatten.map Sum.inr).zip (pl.map V.int))))=H4 at s4 h4 ⊢;have t4:=t2.trans (s3.trans s4);refine⟨_,O,gt,_,_,_,O,O,SqT.of (s4 _ _ q9),O,(by show 2<=sizeLine;decide),fun p np=>?_⟩;have s5:ae H4 (upd H4 p (.tup [.ref d,.ref fA])):=ae.new np;have yz:H fA=none:=none_of s1 lL;exact k p d fA pl fl _ (t4.trans s5) (none_of t4 np) (none_of (t2.trans s3) bo) yz ah (s5 _ _ h4) (s5 _ _ (s4 _ _ (s3 _ _ hV))) told lk
end
theorem OW  (c:Nat) (h:fl.length=ws.length):wa (ws.map wI) fl=sm (fun n=>fn fl n * (wn ws c).le n) ws.length:=by
 have g:=Bi ((ws.map wI).zip fl) (wI (0,0,0,0),0) (fun p=>p.2 * p.1.2.2.1) ws.length (by rw[RL,QT];omega);rw[Rt (by rw[RL,QT];omega)] at g;refine g.trans (cX _ fun n hn=>?_);have e1:ws[n]?=some (ws.getD n (0,0,0,0)):=by rw[QV,QX hn];rfl
 have e2:fl[n]?=some (fn fl n):=by unfold fn;rw[QV,QX (show n<fl.length by omega)];rfl
 have e3:((ws.map wI).zip fl)[n]?=some (wI (ws.getD n (0,0,0,0)),fn fl n):=by
  rw[Rx,Q4,e1];exact⟨O,e2⟩
 rw[QV,e3];rfl
theorem Mw {bm:List Int} (hin:∀ x∈ws,x.1<c/\x.2.1<c) (ha:am.length=ws.length) (hb:bm.length=ws.length) (h:∀ v,v<c->bal (wn ws c) (fn am) v=bal (wn ws c) (fn bm) v):bP c (ws.map wI) am=bP c (ws.map wI) bm:=by
 have l1:=vE c (ws.map wI) am;have l2:=vE c (ws.map wI) bm;refine List.ext_getElem? fun i=>?_
 rcases RZ i c with hi|hi
 ·have e1:=vI hin ha i
  have e2:=vI hin hb i;have e3:=h i hi;rw[<- e1,<- e2] at e3;unfold fn at e3;rw[QV,QV,QX (show i<(bP c (ws.map wI) am).length by omega),QX (show i<(bP c (ws.map wI) bm).length by omega)] at e3;rw[QX (show i<(bP c (ws.map wI) am).length by omega),QX (show i<(bP c (ws.map wI) bm).length by omega)];exact congrArg some e3
 ·rw[R7 (by omega),R7 (by omega)]
theorem LC  (len:fl.length=ws.length) (nn:∀ n,n<ws.length->0<=fn fl n) (bl:∀ v,v<c->bal (wn ws c) (fn fl) v=bal (wn ws c) (wtF ws) v) (hin:∀ x∈ws,x.1<c/\x.2.1<c):jT c (ws.map wI) fl=true:=by
 have e1:fl.length=(ws.map wI).length:=by rw[QT];exact len
 have e2:((fl.map fun x=>decide (x<0)).any id)=false:=by
  rw[TR];refine List.any_eq_false.mpr fun x hx z=>?_
  obtain⟨i,hi⟩:=List.mem_iff_getElem?.mp hx;have il:=(List.getElem?_eq_some_iff.mp hi).1;have:=nn i (by rw[<- len];exact il);unfold fn at this;rw[QV,hi] at this;have this:0<=x:=this;have z:x<0:=Rj z;omega
 have e3:bP c (ws.map wI) fl=bP c (ws.map wI) ((ws.map wI).map fun q=>q.2.2.2):=Mw hin len (tT ws) fun v hv=>by
  rw[bl v hv];exact qp (fun n _=>(we ws n).symm) v
 unfold jT;rw[Ro e1,e2,Ro e3];rfl
section
variable {K:PySem.W.Frag}
def Lg:Sp:=fun vs H Q _=>∃ n,vs=[.int n]/\Q (.bl true) H
theorem Eb (T:Tx K mg a):Cal P w K mg base CX0 1 "_law_whole" ["_law_found"] [] Lg:=T.d__law_whole.cal fun f fd F=>by
 refine F.ok NW (fun vs H Q E h=>?_) (fun aA A outer s H vs Q E hr h=>?_)
 ·obtain⟨n,rfl,_⟩:=h
  rfl
 ·obtain⟨i,rfl,q⟩:=h
  refine⟨_,(aB (bn (EC (bp sY O T.n_isinstance uf (af (pv 0) (af (tp O T.n_int bt_int) ak))) (DU (pe_not (bp sY O T.n_isinstance uf (af (pv 0) (af (tp O T.n_bool N8) ak)))))))),?_⟩;refine⟨_,O,_,_,_,_,_,O,O,.int _,T.kb_int_int,true,O,?_⟩;refine eK ?_;exact⟨_,O,_,_,_,_,_,O,O,.int _,T.kb_int_bool,false,O,q⟩
end
def dl (ws:List Wi) (fl:List Int):List Int:=(ws.zip fl).map fun p=>p.2 - p.1.2.2.2
variable {hv pq qv:Kvs}{l mk row:Row}{lab:Str->Str}{n:Nat}{p:Key×V}{q:Ln}{rows:List Row}{x:Str}
theorem Gi {ws:List Wi} (h:fl.length=ws.length):(dl ws fl).length=ws.length:=by
 unfold dl;rw[QT,RL];omega
theorem dl_at {ws:List Wi}{q:Wi} (h1:ws[i]?=some q) (h2:fl[i]?=some y):(dl ws fl)[i]?=some (y - q.2.2.2):=by
 unfold dl;rw[Q4,tm h1 h2];rfl
theorem N3  (hin:∀ x∈ws,x.1<c/\x.2.1<c) (hl:fl.length=ws.length) (bl:∀ v,v<c->bal (wn ws c) (fn fl) v=bal (wn ws c) (wtF ws) v):∀ z∈bP c (ws.map wI) (dl (ws.map wI) fl),z=0:=fun z hz=>by
 obtain⟨i,hi⟩:=List.mem_iff_getElem?.mp hz;have il:=(List.getElem?_eq_some_iff.mp hi).1;rw[vE] at il;have len:(dl (ws.map wI) fl).length=ws.length:=by
  rw[Gi (by rw[QT];exact hl),QT]
 have e:=vI hin len i;have e1:fn (bP c (ws.map wI) (dl (ws.map wI) fl)) i=z:=by
  unfold fn;rw[QV,hi];rfl
 have e2:bal (wn ws c) (fn (dl (ws.map wI) fl)) i=bal (wn ws c) (fun n=>(-1) * wtF ws n + fn fl n) i:=qp (fun n hn=>by
  have hn:n<ws.length:=hn;have a1:(ws.map wI)[n]?=some (wI (ws.getD n (0,0,0,0))):=by
   rw[Q4,QV,QX hn];rfl
  have a2:fl[n]?=some (fn fl n):=by
   unfold fn;rw[QV,QX (show n<fl.length by omega)];rfl
  have a3:=dl_at a1 a2;have a4:fn (dl (ws.map wI) fl) n=fn fl n - wtF ws n:=by
   show(dl (ws.map wI) fl).getD n 0=_;rw[QV,a3];rfl
  rw[a4];omega) i
 rw[e1,e2,AM,bl i il] at e;omega
section
variable {K:PySem.W.Frag}
def MN (K:PySem.W.Frag):Sp:=fun vs H Q _=>∃ n l ws p fl,vs=[.int n,.ref l,.ref p]/\jr K H l ws/\H p=some (.lst ((fl:List Int).map V.int))/\fl.length=ws.length/\ws.length<=1000/\0<=n/\n<=1000/\(∀ q∈ws,InR n.toNat q)/\(∀ y∈fl,0<=y)/\(∀ z∈bP n.toNat ws (dl ws fl),z=0)/\∀ H',ae H H'->Q (.bl true) H'
theorem Nn (T:Tx K mg a):Cal P w K mg base CX0 2 "_law_flows" ["_law_count","_law_wishes","_law_flow"] [] (MN K):=T.d__law_flows.cal fun f fd F=>by
 have bf:=Eb (P:=P) (w:=w) (base:=base) T;refine F.ok vQ (fun vs H Q E h=>?_) (fun aA A outer s H vs Q E hr h=>?_)
 ·obtain⟨n,l,ws,p,fl,rfl,_⟩:=h
  rfl
 ·obtain⟨n,l,ws,p,fl,rfl,⟨xs,hl,hd⟩,hp,aj,QS,n0,n1,hin,nn,hz,k⟩:=h
  have b9:ws.length=xs.length:=by rw[<- hd.length,QT]
  refine⟨_,(aq (d6 (PW.pt (kW (mG (jq (bp sY O T.n_isinstance uf (af (pv 2) (af (tp O T.n_list vH) ak))))) (my (cJ qo (bp ek O T.n_len eh (af (pv 2) ak)) (bp ek O T.n_len eh (af (pv 1) ak)) (bH _))))) (aB (bn kN)) d9)
   (aq (pb (i:=3) vQ.nd O O (N:=["_law_point"]) (cap:=[none]) O (bM (osc:=aC vx) (XN:=["_law_count","_law_wishes","_law_flow","_law_spare","_law_number","_law_wish"]) O O (by decide +kernel)) (tI rfl T.n_range (af (pv 0) ak)) (fun cl C s H fp aa=>(az (i:=0) (show(["_law_point"]:List Str).Nodup by decide +kernel) rfl (.inl rfl))) (fun cl C s H fp aa=>cy) (fun cl C s H fp aa=>au) (hsw:=O))
   (aq (cV PassesOwn.never rfl (pc rfl T.n_zip (af (pv 2) (af (pv 1) ak))) (fD rfl (aO (az (i:=4) vQ.nd O (.inl O)) (aO (az (i:=5) vQ.nd O (.inl O)) cz))) (aq (d6 (PW.pt (kW (mG (jq (a7 bf (hr.mono (by decide)) rfl (af (pv 4) ak)))) (my (cJ tZ (pv 4) au (bH _))))) (aB (bn kN)) d9)
   (aq (tY (aI iq (aI fu (aG bx (pv 3) (aG cf (pv 5) au (fun _ _=>O)) (fun _ _=>O)) (pv 4)) (aG cf (pv 5) au (fun _ _=>O))) (Es (pv 3) (aG cf (pv 5) au (fun _ _=>O)) kL))
   (aB (tY (aI fu (aI iq (aG bx (pv 3) (aG cf (pv 5) au (fun _ _=>O)) (fun _ _=>O)) (pv 4)) (aG cf (pv 5) au (fun _ _=>O))) (Es (pv 3) (aG cf (pv 5) au (fun _ _=>O)) kL))))))
   (aB (bn (mF (Fn hr.units) (cY (N:=["_law_one"]) (cap:=[none]) O (bM (osc:=aC vx) (XN:=["_law_count","_law_wishes","_law_flow","_law_spare","_law_number","_law_wish"]) O O (by decide +kernel)) (bV (pv 3)) (fun cl C s H fp aa=>(az (i:=0) (show(["_law_one"]:List Str).Nodup by decide +kernel) rfl (.inl rfl))) (fun cl C s H fp aa=>vM (cJ qo (pv 0) au (bH _))) (fun cl C s H fp aa=>(pv 0))) (dJ ak) (bH _))))))),?_⟩
  refine⟨_,O,_,_,_,_,_,O,O,.lst hp,T.kb_list_list,_,O,gz O ?_⟩;refine⟨_,O,p,_,O,.inl (SqL.of hp),_,O,l,_,O,.inl hl,O,_,O,gz ?_ ?_⟩
  ·rw[QT,aj,b9]
   simp
  refine⟨_,O,_,O,by omega,by omega,fun D nD=>?_⟩;refine wg (lo:=0) (n:=n.toNat) (fun j τ G=>∃ v1,τ=[v1]/\ae H G/\G D=some (.lst ((List.replicate j (0:Int)).map V.int))) ⟨none,rfl,ae.new nD,ah⟩ ?_ ?_
  ·rintro j τ G hj ⟨v1,rfl,sg,hG⟩
   dsimp only[bA,cK];rw[if_pos rfl];refine⟨_,hG,?_,_,O,bv nD sg,?_⟩
   ·rw[QT,Rs,Q3]
    omega
   ·rw[ah,Tn,Q2]
    rfl
  rintro τ H1 ⟨_,rfl,s1,h1⟩
  have ex:(fl.map V.int).length=xs.length:=by rw[QT,aj,b9]
  have sL:=Gi aj;refine⟨_,O,_,O,p,l,O,⟨_,SqL.of (s1 _ _ hp)⟩,⟨_,s1.sqL hl⟩,z9 (K:=K) (l1:=p) (l2:=l) (xs:=fl.map V.int) (ys:=xs) ex (fun i σ H'=>∃ v4 v5,σ=[some (.int n),some (.ref l),some (.ref p),some (.ref D),v4,v5]/\ae H H'/\H' D=some (.lst ((((ws.zip (dl ws fl)).take i).foldl d7 (List.replicate n.toNat 0)).map V.int)))
   ⟨none,none,rfl,s1,h1⟩ ?_ ?_ ?_⟩
  ·rintro i σ H' _ ⟨v4,v5,rfl,sm,_⟩
   exact⟨SqL.of (sm _ _ hp),sm.sqL hl⟩
  ·rintro i x y t σ H' hx hy nt ⟨v4,v5,rfl,sm,hD⟩
   obtain⟨q,hq,dq⟩:=eL hd hy;obtain⟨c,rfl,hc⟩:=mB (sm.dt dq);obtain⟨y,bT,rfl⟩:=iS hx;obtain⟨⟨i1,i2⟩,i3,i4⟩:=hin q (Q0 hq);have y0:=nn y (Q0 bT);have s2:ae H' (upd H' t (.tup [.int y,.ref c])):=ae.new nt;have qS:upd H' t (.tup [.int y,.ref c]) t=some (.tup [.int y,.ref c]):=ah;generalize upd H' t (.tup [.int y,.ref c])=H2 at s2 qS ⊢;have bW:=s2 _ _ hD;have fX:=s2.sqT hc;rw[zam (tm hq (dl_at hq bT)),RT];have mN:(((ws.zip (dl ws fl)).take i).foldl d7 (List.replicate n.toNat 0)).length=n.toNat:=by rw[tH,Rs]
   generalize ((ws.zip (dl ws fl)).take i).foldl d7 (List.replicate n.toNat 0)=ls at bW mN ⊢;have j3:q.2.1<(ls.length:Int):=by rw[mN];exact i4
   have j1:q.1<((ls.set q.2.1.toNat (pz ls q.2.1 + (y - q.2.2.2))).length:Int):=by rw[RD,mN];exact i2
   refine⟨t,_,O,SqT.of qS,O,_,_,O,_,_,O,O,?_⟩;refine⟨_,O,y,O,_,O,gz O ?_⟩;refine⟨_,O,_,_,O,O,_,O,gz (RQ (by omega)) ?_⟩;refine⟨_,O,_,O,c,_,_,_,O,O,fX,O,D,_,_,_,O,O,SqL.of bW,Bk i3 j3,_,O,_,_,O,O,_,O,c,_,_,_,O,O,fX,O,_,_,O,O,_,O,_,O,c,_,_,_,O,O,fX,O,D,_,_,_,O,O,bW,jF i3 (by rw[QT];exact j3),?_⟩;rw[<- Sr,show pz ls q.2.1 + y - q.2.2.2=pz ls q.2.1 + (y - q.2.2.2) by omega];have tk:Tk H2 (upd H2 D (.lst ((ls.set q.2.1.toNat (pz ls q.2.1 + (y - q.2.2.2))).map V.int))):=Tk.upd bW rfl;have h3:upd H2 D (.lst ((ls.set q.2.1.toNat (pz ls q.2.1 + (y - q.2.2.2))).map V.int)) D=some (.lst ((ls.set q.2.1.toNat (pz ls q.2.1 + (y - q.2.2.2))).map V.int)):=ah;have o3:∀ b u,H b=some u->upd H2 D (.lst ((ls.set q.2.1.toNat (pz ls q.2.1 + (y - q.2.2.2))).map V.int)) b=some u:=fun b u e=>by
    rw[ai (ap e nD)];exact s2 _ _ (sm b u e)
   generalize upd H2 D (.lst ((ls.set q.2.1.toNat (pz ls q.2.1 + (y - q.2.2.2))).map V.int))=H3 at tk h3 o3 ⊢;have pR:=tk.sqT fX;refine⟨_,O,_,O,c,_,_,_,O,O,pR,O,D,_,_,_,O,O,SqL.of h3,Bk i1 j1,_,O,_,_,O,O,_,O,c,_,_,_,O,O,pR,O,_,_,O,O,_,O,_,O,c,_,_,_,O,O,pR,O,D,_,_,_,O,O,h3,jF i1 (by rw[QT];exact j1),?_⟩;rw[<- Sr,show pz (ls.set q.2.1.toNat (pz ls q.2.1 + (y - q.2.2.2))) q.1 - y + q.2.2.2=pz (ls.set q.2.1.toNat (pz ls q.2.1 + (y - q.2.2.2))) q.1 - (y - q.2.2.2) by omega];refine⟨_,_,O,fun b u e=>?_,ah⟩;rw[ai (ap e nD)];exact o3 b u e
  ·rintro σ H2 ⟨v4,v5,rfl,s2,hD⟩
   rw[Rt (by rw[RL];omega)] at hD
   change H2 D=some (.lst ((bP n.toNat ws (dl ws fl)).map V.int)) at hD
   generalize bP n.toNat ws (dl ws fl)=zs at hD hz;refine⟨_,O,D,O,⟨_,SqL.of hD⟩,fun E nE=>?_⟩;refine fW (K:=K) (a:=D) (xs:=zs.map V.int) (fun i τ G=>∃ v1,τ=[v1]/\ae H2 G/\G E=some (.lst [])) ⟨none,rfl,ae.new nE,ah⟩ ?_ ?_ ?_
   ·rintro i τ G _ ⟨_,rfl,sg,_⟩
    exact SqL.of (sg _ _ hD)
   ·rintro i x τ G hx ⟨v1,rfl,sg,hG⟩
    obtain⟨z,eN,rfl⟩:=iS hx;have z0:=hz z (Q0 eN);subst z0;dsimp only[bA];exact⟨_,O,O,_,O,gz O ⟨_,O,sg,hG⟩⟩
   ·rintro τ G ⟨v1,rfl,sg,hG⟩
    refine⟨(by show 0<=sizeLine;decide),fun u nu=>?_⟩;have s4:ae G (upd G u (.lst [])):=ae.new nu;refine⟨.lst [],.lst [],O,O,⟨E,[],O,SqL.of (s4 _ _ hG),O⟩,⟨u,[],O,SqL.of ah,O⟩,trivial,?_⟩;exact k _ (s2.trans (sg.trans s4))
end
section
open Sd (Kvs Row Has gv Rw nb nbs Ln)
def pd (mk:Row) (lab:Str->Str):Kvs:=mk.map fun s=>(Sum.inr s,.str (lab s))
theorem t9 {lab:Str->Str}{s:Str}:∀ {mk:Row},s∈mk->aN (pd mk lab) (Sum.inr s)=some (.str (lab s))
 | x::mk,h=>by
  by_cases e:x=s
  ·subst e
   exact fU rfl
  ·have h':s∈mk:=(Rp.mp h).resolve_left (fun z=>e z.symm)
   exact(eA (fun z=>e (Sum.inr.inj z))).trans (t9 h')
theorem pd_no {lab:Str->Str}{s:Str}:∀ {mk:Row},s∉mk->aN (pd mk lab) (Sum.inr s)=none
 | [],_=>rfl
 | x::mk,h=>by
  rw[Rp,not_or] at h;exact(eA (fun z=>h.1 (Sum.inr.inj z).symm)).trans (pd_no h.2)
theorem vq {l l':Str->Str} (h:∀ s∈mk,l s=l' s):pd mk l=pd mk l':=SH fun s hs=>by rw[h s hs]
theorem pd_put {m z:Str} (h:m∈mk):aE (pd mk lab) (Sum.inr m) (.str z)=pd mk fun s=>if s=m then z else lab s:=by
 have e:((pd mk lab).any fun kv=>decide (kv.1=Sum.inr m))=true:=by rw[mH,t9 h];rfl
 unfold aE;rw[if_pos e];unfold pd;rw[Ss];refine SH fun s _=>?_
 dsimp only[Function.comp];by_cases c:s=m
 ·rw[if_pos (by rw[c]),if_pos c]
 ·rw[if_neg (fun q=>c (Sum.inr.inj q)),if_neg c]
theorem pd_new {m:Str} (h:m∉mk):aE (pd mk lab) (Sum.inr m) (.str (lab m))=pd (mk++[m]) lab:=by
 rw[sZ _ (pd_no h)];unfold pd;rw[Q2];rfl
theorem A6 (mk:Row) (lab:Str->Str):(pd mk lab).length=mk.length:=QT _
theorem Ae  (nd:row.Nodup) (h1:row[m]?=some x) (h2:row[n]?=some x):m=n:=
 (UC (List.getElem?_eq_some_iff.mp h1).1 nd).mp (h1.trans h2.symm)
theorem D1  (nd:l.Nodup) (h:l[j]?=some s):s∉l.take j:=fun z=>by
 obtain⟨i,hi⟩:=List.mem_iff_getElem?.mp z;rw[Ut] at hi;split at hi
 ·have:=Ae nd hi h
  omega
 ·cases hi
def rn (lab:Str->Str) (q:Ln) (s:Str):Str:=if lab s=lab q.1 then lab q.2 else lab s
theorem Pd {y:Str} (h:lab x=lab y):rn lab q x=rn lab q y:=by
 unfold rn;rw[h]
theorem O7 (lab:Str->Str) (q:Ln):rn lab q q.1=rn lab q q.2:=by
 unfold rn;rw[if_pos rfl];split <;> rfl
def rnJ (mk:Row) (lab:Str->Str) (q:Ln) (j:Nat) (s:Str):Str:=if s∈mk.take j/\lab s=lab q.1 then lab q.2 else lab s
theorem O8 (mk:Row) (lab:Str->Str) (q:Ln) (j:Nat):rnJ mk lab q j q.2=lab q.2:=by
 unfold rnJ;split <;> rfl
theorem Gh  (hs:mk[j]?=some s) (e:x≠s):rnJ mk lab q (j + 1) x=rnJ mk lab q j x:=by
 have:(x∈mk.take (j + 1))↔x∈mk.take j:=by rw[zam hs,T0,S1];exact⟨fun z=>z.resolve_right e,.inl⟩
 unfold rnJ;simp only[this]
def l2 (q:Sd.L3):Ln:=(q.1,q.2.1)
section
variable {K:PySem.W.Frag}
def spLPs (K:PySem.W.Frag):Sp:=fun vs H Q _=>∃ mA l m mk rs rows ls,vs=[.ref mA,.ref l,.ref m]/\H mA=some (.lst ((mk:Row).map V.str))/\mk.Nodup/\mk.length<=60/\H l=some (.lst ((rs:List Addr).map V.ref))/\Rw H rs rows/\rows.length<=30/\(∀ row∈rows,row.length<=60)/\(∀ row∈rows,∀ s∈row,s∈mk)/\Sd.L3At K H m ls/\ls.length<=60/\(∀ q∈ls,q.1∈mk/\q.2.1∈mk) /\
 ∀ d lab H',ae H H'->H d=none->H' d=some (.dK (pd mk lab))->(∀ q∈nbs rows,lab q.1=lab q.2)->(∀ q∈ls,lab q.1=lab q.2.1)->Q (.ref d) H'
theorem ok_lps (T:Tx K mg a):Cal P w K mg base CX0 1 "_law_parts" ["_law_marks","_law_rows_here","_law_lines_here"] [] (spLPs K):=T.d__law_parts.cal fun f fd F=>by
 refine F.ok jJ (fun vs H Q E h=>?_) (fun aA A outer s H vs Q E hr h=>?_)
 ·obtain⟨mA,l,m,mk,rs,rows,ls,rfl,_⟩:=h
  rfl
 ·obtain⟨mA,l,m,mk,rs,rows,ls,rfl,hm,nd,hmk,hl,fQ,pi,qK,inr,⟨xm,gm,iD⟩,cN,hin,k⟩:=h
  have aj:=fQ.len;refine⟨_,(aq (aQ (i:=3) jJ.nd O (.inl O) mC)
   (aq (cV PassesOwn.never rfl (bV (pv 0)) (az (i:=4) jJ.nd O (.inl O)) (aB (jH (bb hr) (pv 3) (pv 4) (pv 4) O)))
   (aq (pb (i:=5) jJ.nd O O (N:=["_law_line"]) (cap:=[none]) O (bM (osc:=aC vA) (XN:=["_law_marks","_law_rows_here","_law_lines_here","_law_part","_law_mark","_law_pairs","_law_row","_law_one","_law_other","_law_old"]) O O (by decide +kernel)) (bV (pv 2)) (fun cl C s H fp aa=>(az (i:=0) (show(["_law_line"]:List Str).Nodup by decide +kernel) rfl (.inl rfl))) (fun cl C s H fp aa=>cy) (fun cl C s H fp aa=>(vW (Oq (K:=K) O) (pv 0) AW (tP au))) (hsw:=O))
   (aq (cV PassesOwn.never rfl (bV (pv 1)) (az (i:=6) jJ.nd O (.inr O)) (aB (aQ (i:=5) jJ.nd O (.inl O) (aI FE (pv 5) (cY (N:=["_law_j","_law_row"]) (cap:=[none,some 6]) O (bM (osc:=aC vA) (XN:=["_law_marks","_law_rows_here","_law_lines_here","_law_part","_law_mark","_law_pairs","_law_row","_law_one","_law_other","_law_old"]) O O (by decide +kernel)) (Md rfl T.n_range (af au (af (bp ek rfl T.n_len eh (af (pv 6) ak)) ak))) (fun cl C s H fp aa=>(az (i:=0) (show(["_law_j","_law_row"]:List Str).Nodup by decide +kernel) rfl (.inl rfl))) (fun cl C s H fp aa=>cy) (fun cl C s H fp aa=>(gG (af (aG (tj (K:=K) O) (pv 1) (aI iq (pv 0) au) (fun _ _=>O)) (af (aG (tj (K:=K) O) (pv 1) (pv 0) (fun _ _=>O)) ak)))))))))
   (aq (cV PassesOwn.never rfl (bV (pv 5)) (fD rfl (aO (az (i:=7) jJ.nd O (.inl O)) (aO (az (i:=8) jJ.nd O (.inl O)) cz))) (aq (aQ (i:=9) jJ.nd O (.inl O) (cH (bb hr) (pv 3) (pv 7) (fun _ _=>O)))
   (aB (cV PassesOwn.never rfl (bV (pv 0)) (az (i:=4) jJ.nd O (.inl O)) (aB (d6 (cJ oB (cH (bb hr) (pv 3) (pv 4) (fun _ _=>O)) (pv 9) (bH _)) (aB (jH (bb hr) (pv 3) (pv 4) (cH (bb hr) (pv 3) (pv 8) (fun _ _=>O)) O)) d9))))))
   (aB (bn (pv 3)))))))),?_⟩
  intro d qJ;have s1:ae H (upd H d (.dK [])):=ae.new qJ;have h1:upd H d (.dK []) d=some (.dK []):=ah;generalize upd H d (.dK [])=H1 at s1 h1 ⊢;refine⟨_,O,mA,O,⟨_,SqL.of (s1 _ _ hm)⟩,iP (K:=K) (a:=mA) (xs:=mk.map V.str) (fun i σ G=>∃ v4,σ=[some (.ref mA),some (.ref l),some (.ref m),some (.ref d),v4,none,none,none,none,none]/\ae H G/\G d=some (.dK (pd (mk.take i) id))) ⟨none,rfl,s1,h1⟩ ?_ ?_ ?_⟩
  ·rintro i σ G _ ⟨_,rfl,sg,_⟩
   exact SqL.of (sg _ _ hm)
  ·rintro i x σ G hx ⟨v4,rfl,sg,hd⟩
   obtain⟨s,hs,rfl⟩:=qe hx;have hi:=(List.getElem?_eq_some_iff.mp hs).1;have fr:=D1 nd hs;dsimp only[bA];refine⟨_,O,_,O,_,O,d,_,O,kQ.k (k:=Sum.inr s) hd (by rw[A6,Rb,Q3];omega),?_⟩;refine⟨_,O,bv qJ sg,?_⟩;rw[ah,zam hs,<- pd_new (lab:=id) fr];rfl
  rintro σ H2 ⟨v4,rfl,s2,h2⟩
  rw[QT,Rf] at h2;refine⟨_,O,m,O,⟨_,SqL.of (s2 _ _ gm)⟩,fun D hD=>?_⟩;have gx:=iD.length;rw[QT] at gx;refine fW (K:=K) (a:=m) (xs:=xm) (fun i τ G=>∃ v1 ys,τ=[v1]/\ae H2 G/\G D=some (.lst ys)/\aJ K G (((ls.map l2).take i).map Sd.lnD) ys) ⟨none,[],rfl,ae.new hD,ah,rfl⟩ ?_ ?_ ?_
  ·rintro i τ G _ ⟨_,_,rfl,sg,_⟩
   exact SqL.of (sg _ _ (s2 _ _ gm))
  ·rintro i x τ G hx ⟨v1,ys,rfl,sg,hG,aR⟩
   obtain⟨q,hq,dq⟩:=eL iD hx;obtain⟨t,rfl,ht⟩:=Sd.un_l3 ((s2.trans sg).dt dq);have hi:=(List.getElem?_eq_some_iff.mp hq).1;have yl:=aR.length;rw[QT,Rb,QT] at yl;dsimp only[bA,cK];refine eK ?_;refine⟨_,O,_,O,t,_,O,ht,fun z=>absurd z.2 (by show ¬ HT.sIx 3 3 (some 2)=3;decide),fun u nu=>?_⟩;rw[show eI [V.str q.1,V.str q.2.1,V.int q.2.2] none (some 2)=[V.str q.1,V.str q.2.1] from Sd.cut_take _ 2];have s3:ae G (upd G u (.tup [.str q.1,.str q.2.1])):=ae.new nu;have h3:upd G u (.tup [.str q.1,.str q.2.1]) u=some (.tup [.str q.1,.str q.2.1]):=ah;generalize upd G u (.tup [.str q.1,.str q.2.1])=G3 at s3 h3 ⊢;refine⟨_,s3 _ _ hG,by rw[Q3];omega,_,_,O,bv hD (sg.trans s3),ah,?_⟩;rw[zam (show(ls.map l2)[i]?=some (l2 q) by rw[Q4,hq];rfl),Q2];have kp:Tk G3 (upd G3 D (.lst (ys++[.ref u]))):=Tk.upd (s3 _ _ hG) rfl;exact aJ.snoc (d:=Sd.lnD (q.1,q.2.1)) (kp.dt O ⟨u,_,O,SqT.of h3,_,_,O,O,_,_,O,O,O⟩) (kp.dts (cW (fun _=>O) _) (s3.dts aR))
  rintro τ H3 ⟨v1,ys,rfl,s3,h3,dY⟩
  rw[Rt (by rw[QT];omega)] at dY;refine⟨_,O,l,O,⟨_,SqL.of (s3 _ _ (s2 _ _ hl))⟩,iP (K:=K) (a:=l) (xs:=rs.map V.ref) (fun i σ G=>∃ g v6 zs,σ=[some (.ref mA),some (.ref l),some (.ref m),some (.ref d),v4,some (.ref g),v6,none,none,none]/\ae H2 G/\G g=some (.lst zs)/\aJ K G ((ls.map l2++nbs (rows.take i)).map Sd.lnD) zs/\zs.length<=60 + 60 * i)
   ⟨D,none,ys,rfl,s3,h3,by rw[show nbs (rows.take 0)=[] from rfl,So];exact dY,by have:=dY.length;rw[QT,QT] at this;omega⟩ ?_ ?_ ?_⟩
  ·rintro i σ G _ ⟨_,_,_,rfl,sg,_⟩
   exact SqL.of (sg _ _ (s2 _ _ hl))
  ·rintro i x σ G hx ⟨g,v6,zs,rfl,sg,hg,aR,kx⟩
   obtain⟨r,sQ,rfl⟩:=Av hx;obtain⟨row,bX,jD⟩:=fQ.at sQ;have CN:=qK row (Q0 bX);have hi:i<rows.length:=(List.getElem?_eq_some_iff.mp bX).1;have yd:=sg _ _ (s2 _ _ jD);dsimp only[bA];refine⟨_,O,_,O,r,_,O,.inl (SqL.of yd),_,_,O,⟨by decide,by decide,by omega,by rw[QT];omega⟩,fun D2 bW=>?_⟩;have el:((row.map V.str).length:Int) - 1=(row.length:Int) - 1:=by rw[QT]
   refine wg (lo:=1) (n:=(((row.map V.str).length:Int) - 1).toNat) (fun j τ G'=>∃ v1 us,τ=[v1,some (.ref r)]/\ae G G'/\G' D2=some (.lst us)/\aJ K G' (((nb row).take j).map Sd.lnD) us) ⟨none,[],rfl,ae.new bW,ah,rfl⟩ ?_ ?_
   ·rintro j τ G' hj ⟨v1,us,rfl,bS,jy,pJ⟩
    rw[el] at hj;obtain⟨x1,e1⟩:=eB (l:=row) (j:=j) (by omega);obtain⟨x2,e2⟩:=eB (l:=row) (j:=j + 1) (by omega);have ul:us.length<=60:=by
     have e:=pJ.length;rw[QT,Rb,Sd.nb_len] at e;omega
    have a1:atI (row.map V.str) (1 + (j:Int) - 1)=some (.str x1):=by
     rw[iL (by omega),show(1 + (j:Int) - 1).toNat=j by omega,Q4,e1];rfl
    have a2:atI (row.map V.str) (1 + (j:Int))=some (.str x2):=by
     rw[iL (by omega),show(1 + (j:Int)).toNat=j + 1 by omega,Q4,e2];rfl
    dsimp only[bA,cK];refine eK ?_;refine⟨_,O,_,O,_,_,O,O,r,_,_,_,O,O,SqL.of (bS _ _ yd),a1,_,O,_,O,r,_,_,_,O,O,SqL.of (bS _ _ yd),a2,(by show 2<=sizeLine;decide),fun q nq=>?_⟩;have s5:ae G' (upd G' q (.tup [.str x1,.str x2])):=ae.new nq;have h5:upd G' q (.tup [.str x1,.str x2]) q=some (.tup [.str x1,.str x2]):=ah;generalize upd G' q (.tup [.str x1,.str x2])=H5 at s5 h5 ⊢;refine⟨_,s5 _ _ jy,by rw[Q3];omega,_,_,O,bv bW (bS.trans s5),ah,?_⟩;rw[zam (Sd.nb_get e1 e2),Q2];have kp:Tk H5 (upd H5 D2 (.lst (us++[.ref q]))):=Tk.upd (s5 _ _ jy) rfl;exact aJ.snoc (d:=Sd.lnD (x1,x2)) (kp.dt O ⟨q,_,O,SqT.of h5,_,_,O,O,_,_,O,O,O⟩) (kp.dts (cW (fun _=>O) _) (s5.dts pJ))
   rintro τ G' ⟨v1,us,rfl,bS,jy,pJ⟩
   rw[el,show((row.length:Int) - 1).toNat=(nb row).length by rw[Sd.nb_len];omega,Rf] at pJ;have ul:=pJ.length;rw[QT,Sd.nb_len] at ul;refine⟨g,D2,zs,us,O,O,bS _ _ hg,jy,by rw[Q3];omega,fun p np=>?_⟩;have s6:ae G' (upd G' p (.lst (zs++us))):=ae.new np;refine⟨p,_,_,O,sg.trans (bS.trans s6),ah,?_,by rw[Rm];omega⟩;rw[Sd.nbs_snoc bX,<- R6,Q2];exact aJ.append (s6.dts pJ) (s6.dts (bS.dts aR))
  rintro σ H4 ⟨g,v6,zs,rfl,s4,hg,aR,kx⟩
  rw[QT,aj,Rf] at aR;rw[QT] at kx;have zl:=aR.length;rw[QT] at zl;have Cu:∀ q∈ls.map l2++nbs rows,q.1∈mk/\q.2∈mk:=fun q hq=>by
   rcases T0.mp hq with hq|hq
   ·obtain⟨q',h',rfl⟩:=List.mem_map.mp hq
    exact hin q' h'
   ·obtain⟨row,hr,m1,m2⟩:=Sd.nbs_mem hq
    exact⟨inr row hr _ m1,inr row hr _ m2⟩
  generalize BI:ls.map l2++nbs rows=ps at aR zl Cu;have B6:=s4 _ _ (s2 _ _ hm);have lv:=s4 _ _ h2;have BC:mA≠d:=fun e=>by rw[e,qJ] at hm;cases hm
  have Iz:g≠d:=fun e=>by rw[e,lv] at hg;cases hg
  refine⟨_,O,g,O,⟨_,SqL.of hg⟩,iP (K:=K) (a:=g) (xs:=zs) (fun i σ G=>∃ v4 v7 v8 v9,∃ lab:Str->Str,σ=[some (.ref mA),some (.ref l),some (.ref m),some (.ref d),v4,some (.ref g),v6,v7,v8,v9]/\(∀ b u,b≠d->H4 b=some u->G b=some u)/\Tk H4 G/\G d=some (.dK (pd mk lab))/\∀ q∈ps.take i,lab q.1=lab q.2)
   ⟨v4,none,none,none,id,rfl,fun b u _ e=>e,Tk.of (ae.refl _),lv,fun q hq=>by simp at hq⟩ ?_ ?_ ?_⟩
  ·rintro i σ G _ ⟨_,_,_,_,_,rfl,kb,_⟩
   exact SqL.of (kb _ _ Iz hg)
  ·rintro i x σ G hx ⟨v4,v7,v8,v9,lab,rfl,kb,tk,hd,rX⟩
   obtain⟨q,hq,dq⟩:=eL aR hx;obtain⟨t,rfl,ht⟩:=Sd.un_ln (tk.dt O dq);obtain⟨m1,m2⟩:=Cu q (Q0 hq);refine⟨t,_,O,ht,O,_,_,O,_,_,O,O,?_⟩;refine⟨_,O,_,O,d,_,O,gC (k:=Sum.inr q.1) hd (t9 m1),?_⟩;refine⟨_,O,mA,O,⟨_,SqL.of (kb _ _ BC B6)⟩,iP (K:=K) (a:=mA) (xs:=mk.map V.str) (fun j σ G'=>∃ v4,σ=[some (.ref mA),some (.ref l),some (.ref m),some (.ref d),v4,some (.ref g),v6,some (.str q.1),some (.str q.2),some (.str (lab q.1))]/\(∀ b u,b≠d->H4 b=some u->G' b=some u)/\Tk H4 G'/\G' d=some (.dK (pd mk (rnJ mk lab q j))))
    ⟨v4,rfl,kb,tk,by rw[hd,vq (l:=rnJ mk lab q 0) (l':=lab) fun s _=>by unfold rnJ;rw[if_neg (by simp)]]⟩ ?_ ?_ ?_⟩
   ·rintro j σ G' _ ⟨_,rfl,pH,_⟩
    exact SqL.of (pH _ _ BC B6)
   ·rintro j y σ G' hy ⟨v4,rfl,pH,eE,bD⟩
    obtain⟨s,hs,rfl⟩:=qe hy;have sm:=Q0 hs;have fr:=D1 nd hs;have HM:rnJ mk lab q j s=lab s:=by
     unfold rnJ;rw[if_neg (fun z=>fr z.1)]
    dsimp only[bA];refine⟨_,O,_,O,d,_,O,gC (k:=Sum.inr s) bD (t9 sm),_,O,O,_,O,?_⟩;rw[HM];refine dv (fun c=>?_) (fun c=>?_)
    ·have c:lab s=lab q.1:=by
      have:=Rj c;injection this
     refine⟨_,O,_,O,d,_,O,gC (k:=Sum.inr q.2) bD (t9 m2),_,O,_,O,d,_,O,kQ.k (k:=Sum.inr s) bD (by rw[A6,Q3];omega),?_⟩;refine⟨_,O,fun b u hb e=>by rw[ai hb];exact pH b u hb e,eE.trans (Tk.upd bD O),?_⟩;rw[ah,O8,pd_put sm,vq (l:=fun x=>if x=s then lab q.2 else rnJ mk lab q j x) (l':=rnJ mk lab q (j + 1)) fun x _=>?_];by_cases e:x=s
     ·unfold rnJ
      rw[zam hs,if_pos e,if_pos ⟨Q8 _ (by rw[e];exact S1.mpr O),by rw[e];exact c⟩]
     ·rw[if_neg e,Gh hs e]
    ·have c:¬ lab s=lab q.1:=fun z=>RH c (by rw[z])
     refine⟨_,O,pH,eE,?_⟩;rw[bD,vq (l:=rnJ mk lab q j) (l':=rnJ mk lab q (j + 1)) fun x _=>?_];by_cases e:x=s
     ·unfold rnJ
      rw[if_neg (fun z=>c (by rw[<- e];exact z.2)),if_neg (fun z=>c (by rw[<- e];exact z.2))]
     ·rw[Gh hs e]
   ·rintro σ G' ⟨v4,rfl,pH,eE,bD⟩
    rw[QT,vq (l:=rnJ mk lab q mk.length) (l':=rn lab q) fun s hs=>by
     unfold rnJ rn;rw[Rf];by_cases e:lab s=lab q.1
     ·rw[if_pos ⟨hs,e⟩,if_pos e]
     ·rw[if_neg (fun z=>e z.2),if_neg e]] at bD
    refine⟨_,_,_,_,rn lab q,O,pH,eE,bD,fun q' gY=>?_⟩;rw[zam hq] at gY;rcases T0.mp gY with z|z
    ·exact Pd (rX q' z)
    ·rw[S1.mp z]
     exact O7 lab q
  ·rintro σ G ⟨v4,v7,v8,v9,lab,rfl,kb,tk,hd,rX⟩
   rw[<- zl,Rf] at rX;refine⟨_,O,k d lab G (fun b u e=>kb b u (ap e qJ) (s4 _ _ (s2 _ _ e))) qJ hd (fun q hq=>?_) fun q hq=>?_⟩
   ·exact rX q (by rw[<- BI];exact Q8 _ hq)
   ·exact rX (l2 q) (by rw[<- BI];exact Ru _ (List.mem_map.mpr ⟨q,hq,O⟩))
end
theorem LD {k:Key}{v:V} (h:p∈aE kvs k v):p=(k,v)\/(p∈kvs/\p.1≠k):=by
 unfold aE at h;split at h
 ·obtain⟨p',h1,h2⟩:=List.mem_map.mp h
  split at h2
  ·rename_i e
   exact .inl (by rw[<- h2,e])
  ·rename_i e
   subst h2;exact .inr ⟨h1,e⟩
 ·rename_i e
  rcases T0.mp h with h|h
  ·refine .inr ⟨h,fun z=>e (List.any_eq_true.mpr ⟨p,h,Ro z⟩)⟩
  ·exact .inl (S1.mp h)
theorem Gx {k:Key}{x:V} (h:aN kvs k=some x):(k,x)∈kvs:=by
 unfold aN at h;cases e:kvs.find? fun kv=>decide (kv.1=k) with
 | none=>rw[e] at h;cases h
 | some p=>
  rw[e] at h;have e1:p.1=k:=Rj (List.find?_some (p:=fun kv:Key×V=>decide (kv.1=k)) e);have e2:=SZ e;have:x=p.2:=(Option.some.inj h).symm;rw[this,<- e1];exact e2
structure Lst (mk:Row) (lab:Str->Str) (pq:Kvs) (i:Nat) (qv:Kvs):Prop where
 ok:∀ p∈qv,∃ v m,p=(Sum.inr v,V.int m)/\0<=m/\(∃ s∈mk.take i,lab s=v)/\∀ s∈mk.take i,lab s=v->m<=gv pq s
 got:∀ s∈mk.take i,∃ x,aN qv (Sum.inr (lab s))=some x
 ln:qv.length<=i
theorem Lst.start (mk:Row) (lab:Str->Str) (pq:Kvs):Lst mk lab pq 0 []:=⟨fun p hp=>(by cases hp),fun s hs=>(by simp at hs),QY _⟩
theorem Lst.val  (h:Lst mk lab pq i qv) (v:Str):(aN qv (Sum.inr v)=none/\∀ s∈mk.take i,lab s≠v)\/∃ m:Int,aN qv (Sum.inr v)=some (.int m)/\0<=m/\∀ s∈mk.take i,lab s=v->m<=gv pq s:=by
 cases e:aN qv (Sum.inr v) with
 | none=>
  refine .inl ⟨O,fun s hs z=>?_⟩;obtain⟨x,hx⟩:=h.got s hs;rw[z,e] at hx;cases hx
 | some x=>
  obtain⟨v',m,e1,e2,e3,e4⟩:=h.ok _ (Gx e);injection e1 with e5 e6
  injection e5 with e5
  subst e5 e6;exact .inr ⟨m,O,e2,e4⟩
theorem Lst.step  (h:Lst mk lab pq i qv) (hs:mk[i]?=some s){m:Int} (m0:0<=m) (ms:m<=gv pq s) (mo:∀ t∈mk.take i,lab t=lab s->m<=gv pq t):Lst mk lab pq (i + 1) (aE qv (Sum.inr (lab s)) (.int m)) where
 ok:=fun p hp=>by
  rcases LD hp with e|⟨hp,ne⟩
  ·refine⟨lab s,m,e,m0,⟨s,by rw[zam hs];exact Q8 _ (S1.mpr O),O⟩,fun t ht et=>?_⟩
   rw[zam hs] at ht;rcases T0.mp ht with ht|ht
   ·exact mo t ht et
   ·rw[S1.mp ht]
    exact ms
  ·obtain⟨v,m',rfl,e2,⟨t,t1,t2⟩,e4⟩:=h.ok p hp
   have nv:v≠lab s:=fun z=>ne (by rw[z])
   refine⟨v,m',O,e2,⟨t,by rw[zam hs];exact Ru _ t1,t2⟩,fun u hu eu=>?_⟩;rw[zam hs] at hu;rcases T0.mp hu with hu|hu
   ·exact e4 u hu eu
   ·rw[S1.mp hu] at eu
    exact(nv eu.symm).elim
 got:=fun t ht=>by
  rw[kP];split
  ·exact⟨_,O⟩
  ·rw[zam hs] at ht
   rcases T0.mp ht with ht|ht
   ·exact h.got t ht
   ·rename_i c
    exact(c (by rw[S1.mp ht])).elim
 ln:=by
  have:=vT qv (Sum.inr (lab s)) (.int m);have:=h.ln;omega
theorem Lst.zero  (h:Lst mk lab pq mk.length qv) (hz:∀ s∈mk,∃ t∈mk,lab t=lab s/\gv pq t=0):∀ p∈qv,∃ k,p=(k,V.int 0):=fun p hp=>by
 obtain⟨v,m,e,m0,⟨s,s1,s2⟩,all⟩:=h.ok p hp;rw[Rf] at s1 all;obtain⟨t,t1,t2,t3⟩:=hz s s1;have:=all t t1 (t2.trans s2);have:m=0:=by omega
 exact⟨_,by rw[e,this]⟩
section
variable {K:PySem.W.Frag}
def Nw (K:PySem.W.Frag):Sp:=fun vs H Q _=>∃ mA l m o mk rs rows ls pq,vs=[.ref mA,.ref l,.ref m,.ref o]/\H mA=some (.lst ((mk:Row).map V.str))/\mk.Nodup/\mk.length<=60/\H l=some (.lst ((rs:List Addr).map V.ref))/\Rw H rs rows/\rows.length<=30/\(∀ row∈rows,row.length<=60)/\(∀ row∈rows,∀ s∈row,s∈mk)/\Sd.L3At K H m ls/\ls.length<=60/\(∀ q∈ls,q.1∈mk/\q.2.1∈mk)/\H o=some (.dK pq)/\(∀ s∈mk,Has pq s/\0<=gv pq s) /\
 (∀ lab:Str->Str,(∀ q∈nbs rows,lab q.1=lab q.2)->(∀ q∈ls,lab q.1=lab q.2.1)->∀ s∈mk,∃ t∈mk,lab t=lab s/\gv pq t=0)/\∀ H',ae H H'->Q (.bl true) H'
theorem Nc (T:Tx K mg a):Cal P w K mg base CX0 2 "_law_begins" ["_law_marks","_law_rows_here","_law_lines_here","_law_places"] [] (Nw K):=T.d__law_begins.cal fun f fd F=>by
 have dR:=ok_lps (P:=P) (w:=w) (base:=base) T;refine F.ok wk (fun vs H Q E h=>?_) (fun aA A outer s H vs Q E hr h=>?_)
 ·obtain⟨mA,l,m,o,mk,rs,rows,ls,pq,rfl,_⟩:=h
  rfl
 ·obtain⟨mA,l,m,o,mk,rs,rows,ls,pq,rfl,hm,nd,hmk,hl,fQ,pi,qK,inr,⟨xm,gm,iD⟩,cN,hin,ho,has,hz,k⟩:=h
  refine⟨_,(aq (aQ (i:=4) wk.nd O (.inl O) mC)
   (aq (cV PassesOwn.never rfl (Ge (pU PySem.F.plainAttrs_dict PySem.F.slot_dict_items PySem.F.type_dict_items DY (a7 dR (hr.mono (by decide)) rfl (af (pv 0) (af (pv 1) (af (pv 2) ak)))))) (fD rfl (aO (az (i:=5) wk.nd O (.inl O)) (aO (az (i:=6) wk.nd O (.inl O)) cz))) (aB (jH (bb hr) (pv 4) (pv 6) (bp GV O T.n_min u9 (af (cH (bb hr) (pv 3) (pv 5) (fun _ _=>O)) (af (E5 (bb hr) (pv 4) (pv 6) (cH (bb hr) (pv 3) (pv 5) (fun _ _=>O)) ⟨O,O,O,O⟩) ak))) O)))
   (aB (bn (mF (Fn hr.units) (EK (cY (N:=["_law_number"]) (cap:=[none]) O (bM (osc:=aC Ap) (XN:=["_law_marks","_law_rows_here","_law_lines_here","_law_places","_law_least","_law_mark","_law_part"]) O O (by decide +kernel)) (Fh (pU PySem.F.plainAttrs_dict PySem.F.slot_dict_values PySem.F.type_dict_values Gb (pv 4))) (fun cl C s H fp aa=>(az (i:=0) (show(["_law_number"]:List Str).Nodup by decide +kernel) rfl (.inl rfl))) (fun cl C s H fp aa=>vM (cJ qo (pv 0) au (bH _))) (fun cl C s H fp aa=>(pv 0)))) (dJ ak) (bH _)))))),?_⟩
  intro e ne;have s1:ae H (upd H e (.dK [])):=ae.new ne;have h1:upd H e (.dK []) e=some (.dK []):=ah;generalize upd H e (.dK [])=H1 at s1 h1 ⊢;refine⟨_,O,_,O,_,O,mA,l,m,mk,rs,rows,ls,O,s1 _ _ hm,nd,hmk,s1 _ _ hl,fQ.same s1,pi,qK,inr,⟨xm,s1 _ _ gm,s1.dts iD⟩,cN,hin,fun d lab H2 s2 iG hd l1 l2=>?_⟩;have h2:=s2 _ _ h1;have t2:=s1.trans s2;have JS:=hz lab l1 l2;refine⟨.inr (.inr (.inl ⟨O,.inl ⟨_,hd⟩⟩)),d,pd mk lab,O,O,hd,fun vw fL=>⟨vw,d,pd mk lab,O,ah,by rw[ai (ap hd fL)];exact hd,fun ob=>?_⟩⟩;have yS:e≠d:=fun z=>by rw[z,iG] at h1;cases h1
  have Ce:∀ b u,H b=some u->b≠d:=fun b u q z=>by
   have:=s1 _ _ q;rw[z,iG] at this;cases this
  have s3:∀ b u,H b=some u->upd (upd H2 vw (iQ vw d)) d (.frz ob (.dK (pd mk lab))) b=some u:=fun b u q=>by
   have e2:=t2 _ _ q;rw[ai (Ce b u q),ai (ap e2 fL)];exact e2
  have d3:upd (upd H2 vw (iQ vw d)) d (.frz ob (.dK (pd mk lab))) d=some (.frz ob (.dK (pd mk lab))):=ah;have e3:upd (upd H2 vw (iQ vw d)) d (.frz ob (.dK (pd mk lab))) e=some (.dK []):=by
   rw[ai yS,ai (ap h2 fL)];exact h2
  generalize upd (upd H2 vw (iQ vw d)) d (.frz ob (.dK (pd mk lab)))=H3 at s3 d3 e3 ⊢;refine Gu (d:=d) (o:=ob) (kvs:=pd mk lab) (fun i σ G=>∃ v5 v6,∃ qv:Kvs,σ=[some (.ref mA),some (.ref l),some (.ref m),some (.ref o),some (.ref e),v5,v6]/\ae H G/\G d=some (.frz ob (.dK (pd mk lab)))/\G e=some (.dK qv)/\Lst mk lab pq i qv)
   ⟨none,none,[],rfl,s3,d3,e3,Lst.start ..⟩ ?_ ?_ ?_
  ·rintro i σ G _ ⟨_,_,_,rfl,_,hd,_⟩
   exact hd
  ·rintro i key y tt σ G hy nt ⟨v5,v6,qv,rfl,sg,iu,ni,L⟩
   unfold pd at hy;rw[Q4] at hy;obtain⟨s,hs,e0⟩:∃ s,mk[i]?=some s/\(Sum.inr s,V.str (lab s))=(key,y):=by
    cases e:mk[i]? with
    | none=>rw[e] at hy;cases hy
    | some s=>rw[e] at hy;exact⟨s,O,Option.some.inj hy⟩
   injection e0 with e1 e2
   subst e1 e2;obtain⟨BN,qR⟩:=has s (Q0 hs);have hi:=(List.getElem?_eq_some_iff.mp hs).1;have s4:ae G (upd G tt (.tup [kV (Sum.inr s),.str (lab s)])):=ae.new nt;have h4:upd G tt (.tup [kV (Sum.inr s),.str (lab s)]) tt=some (.tup [.str s,.str (lab s)]):=ah;generalize upd G tt (.tup [kV (Sum.inr s),.str (lab s)])=G4 at s4 h4 ⊢;have BP:=s4 _ _ (sg _ _ ho);have uq:=s4 _ _ ni;have QH:e≠d:=yS;have Ll:=L.ln;have fin:∀ mm:Int,0<=mm->mm<=gv pq s->(∀ t∈mk.take i,lab t=lab s->mm<=gv pq t)->Lst mk lab pq (i + 1) (aE qv (Sum.inr (lab s)) (.int mm))/\ae H (upd G4 e (.dK (aE qv (Sum.inr (lab s)) (.int mm))))/\upd G4 e (.dK (aE qv (Sum.inr (lab s)) (.int mm))) d=some (.frz ob (.dK (pd mk lab))):=fun mm a1 a2 a3=>
    ⟨L.step hs a1 a2 a3,bv ne (sg.trans s4),by rw[ai (Ne.symm yS)];exact s4 _ _ iu⟩
   refine⟨tt,_,O,SqT.of h4,O,_,_,O,_,_,O,O,?_⟩;refine⟨_,O,_,O,o,_,O,gC (k:=Sum.inr s) BP BN.gv,_,O,e,O,.inl ⟨_,.inl uq⟩,_,O,_,O,_,O,o,_,O,gC (k:=Sum.inr s) BP BN.gv,_,fB.k (k:=Sum.inr (lab s)) uq,?_⟩;rcases L.val (lab s) with⟨e1,e2⟩|⟨mm,e1,e2,e3⟩
   ·rw[e1]
    refine⟨_,_,O,_,O,_,O,e,_,O,kQ.k (k:=Sum.inr (lab s)) uq (by rw[Q3];omega),?_⟩;rw[if_neg (Int.lt_irrefl _)];obtain⟨f1,f2,f3⟩:=fin (gv pq s) qR (RF _) fun t ht z=>(e2 t ht z).elim
    exact⟨_,_,_,O,f2,f3,ah,f1⟩
   ·rw[e1]
    refine⟨_,_,O,_,O,_,O,e,_,O,kQ.k (k:=Sum.inr (lab s)) uq (by rw[Q3];omega),?_⟩;by_cases c:mm<gv pq s
    ·rw[if_pos c]
     obtain⟨f1,f2,f3⟩:=fin mm e2 (by omega) e3;exact⟨_,_,_,O,f2,f3,ah,f1⟩
    ·rw[if_neg c]
     obtain⟨f1,f2,f3⟩:=fin (gv pq s) qR (RF _) fun t ht z=>by
      have:=e3 t ht z;omega
     exact⟨_,_,_,O,f2,f3,ah,f1⟩
  ·rintro σ G ⟨v5,v6,qv,rfl,sg,iu,ni,L⟩
   rw[A6] at L;have z0:=L.zero JS;refine⟨e,qv,ni,?_⟩;refine⟨_,O,.inr (.inr (.inl ⟨O,.inl ⟨_,ni⟩⟩)),e,qv,O,O,ni,fun vw fL=>⟨vw,e,qv,O,ah,by rw[ai (ap ni fL)];exact ni,fun lZ D nD=>?_⟩⟩;have JE:∀ b u,G b=some u->b≠vw:=fun b u q=>ap q fL
   have sG:∀ b u,H b=some u->b≠e->upd (upd (upd G vw (im vw e)) e (.frz lZ (.dK qv))) D (.lst []) b=some u:=fun b u q z=>by
    have e1:=sg _ _ q;have e2:upd (upd G vw (im vw e)) e (.frz lZ (.dK qv)) b=some u:=by
     rw[ai z,ai (JE _ _ e1)];exact e1
    rw[ai (ap e2 nD)];exact e2
   have eD:upd (upd (upd G vw (im vw e)) e (.frz lZ (.dK qv))) D (.lst []) e=some (.frz lZ (.dK qv)):=by
    rw[ai (fun z=>by rw[<- z,ah] at nD;cases nD)];exact ah
   have DD:upd (upd (upd G vw (im vw e)) e (.frz lZ (.dK qv))) D (.lst []) D=some (.lst []):=ah;generalize upd (upd (upd G vw (im vw e)) e (.frz lZ (.dK qv))) D (.lst [])=G1 at sG eD DD ⊢;refine Gs (d:=e) (o:=lZ) (kvs:=qv) (fun i τ G'=>∃ v1,τ=[v1]/\ae G1 G') ⟨none,rfl,ae.refl _⟩ ?_ ?_ ?_
   ·rintro i τ G' _ ⟨_,rfl,bS⟩
    exact bS _ _ eD
   ·rintro i k x τ G' hx ⟨v1,rfl,bS⟩
    obtain⟨k',e0⟩:=z0 _ (Q0 hx);injection e0 with e1 e2
    subst e2;dsimp only[bA];exact⟨_,O,O,_,O,gz O ⟨_,O,bS⟩⟩
   ·rintro τ G' ⟨v1,rfl,bS⟩
    refine⟨lZ,bS _ _ eD,?_⟩;have iy:upd G' e (.dK qv) D=some (.lst []):=by
     rw[ai (fun z=>by rw[z,eD] at DD;cases DD)];exact bS _ _ DD
    have sH:ae H (upd G' e (.dK qv)):=fun b u q=>by
     have z:=ap q ne;rw[ai z];exact bS _ _ (sG b u q z)
    generalize upd G' e (.dK qv)=G2 at iy sH ⊢;refine⟨(by show 0<=sizeLine;decide),fun u nu=>?_⟩;have s4:ae G2 (upd G2 u (.lst [])):=ae.new nu;refine⟨.lst [],.lst [],O,O,⟨D,[],O,SqL.of (s4 _ _ iy),O⟩,⟨u,[],O,SqL.of ah,O⟩,trivial,?_⟩;exact k _ (sH.trans s4)
end
theorem ER {α:Type}{f:Nat->α}{c:Nat}:∀ (ws:List Wt) (p:List Nat),p.length=c->(∀ x∈ws,(x.1<c/\x.2.1<c)/\f x.1=f x.2.1)->(∀ i j,i<c->j<c->p.getD i 0=p.getD j 0->f i=f j)->∀ i j,i<c->j<c->(ws.foldl pt1 p).getD i 0=(ws.foldl pt1 p).getD j 0->f i=f j
 | [],_,_,_,h=>h
 | x::ws,p,hp,hw,h=>by
  obtain⟨⟨x1,x2⟩,xe⟩:=hw x Q9;refine ER ws (pt1 p x) (by rw[Ad];exact hp) (fun y hy=>hw y (Q6 _ hy)) fun i j hi hj e=>?_
  rw[qj (by omega),qj (by omega)] at e;by_cases ci:p.getD i 0=p.getD x.2.1 0
  ·have fi:=(h i x.2.1 hi x2 ci).trans xe.symm
   rw[if_pos ci] at e;by_cases cj:p.getD j 0=p.getD x.2.1 0
   ·exact h i j hi hj (ci.trans cj.symm)
   ·rw[if_neg cj] at e
    exact fi.trans (h x.1 j x1 hj e)
  ·rw[if_neg ci] at e
   by_cases cj:p.getD j 0=p.getD x.2.1 0
   ·rw[if_pos cj] at e
    exact(h i x.1 hi x1 e).trans (xe.trans (h j x.2.1 hj x2 cj).symm)
   ·rw[if_neg cj] at e
    exact h i j hi hj e
theorem tight {mk:Row}{n:Nat}{Q:Nat->Int}:∀ (k:Nat) (r:List Sd.L3),jG (wL' mk n k r) Q->(∀ q∈r,0<q.2.2)->cU (wL' mk n k r) Q<=cst (fun s=>Q (mk.idxOf s)) r->∀ j l,r[j]?=some l->Q (n + (k + j))=min (Q (mk.idxOf l.1)) (Q (mk.idxOf l.2.1))
 | _,[],_,_,_,j,l,h=>by simp at h
 | k,q::r,hf,h0,le,j,l,h=>by
  have ft:jG (wL' mk n (k + 1) r) Q:=fun x hx=>hf x (Q6 _ (Q6 _ hx))
  have lw:=AY (k + 1) r ft fun x hx=>SG (h0 x (Q6 _ hx))
  have f1:(0:Int)<=Q (mk.idxOf q.1) - Q (n + k):=hf (n + k,mk.idxOf q.1,0,q.2.2) Q9;have f2:(0:Int)<=Q (mk.idxOf q.2.1) - Q (n + k):=hf (n + k,mk.idxOf q.2.1,0,q.2.2) (Q6 _ Q9);have q0:=h0 q Q9;have t:=DT (w:=q.2.2) (x:=Q (mk.idxOf q.1)) (y:=Q (mk.idxOf q.2.1)) (h:=Q (n + k)) (SG q0) (by omega) (by omega);have le:q.2.2 * (Q (mk.idxOf q.1) - Q (n + k)) + (q.2.2 * (Q (mk.idxOf q.2.1) - Q (n + k)) + cU (wL' mk n (k + 1) r) Q)<=q.2.2 * jU (Q (mk.idxOf q.2.1) - Q (mk.idxOf q.1)) + cst (fun s=>Q (mk.idxOf s)) r:=le;cases j with
  | zero=>
   obtain rfl:q=l:=Option.some.inj h;have e:q.2.2 * ((Q (mk.idxOf q.1) - Q (n + k)) + (Q (mk.idxOf q.2.1) - Q (n + k)))<=q.2.2 * jU (Q (mk.idxOf q.2.1) - Q (mk.idxOf q.1)):=by
    rw[T6];omega
   have e:=Int.le_of_mul_le_mul_left e q0;rw[Nat.add_zero];unfold jU at e;split at e <;> omega
  | succ j=>
   have:=tight (k + 1) r ft (fun x hx=>h0 x (Q6 _ hx)) (by omega) j l (by simpa using h);rw[show k + (j + 1)=k + 1 + j by omega];exact this
def mq (mk:Row) (ls:List Sd.L3) (lab:Str->Str) (i:Nat):Str:=match mk[i]? with
 | some s=>lab s
 | none=>match ls[i - mk.length]? with
  | some l=>lab l.1
  | none=>""
theorem ui {ls:List Sd.L3} (h:mk[i]?=some s):mq mk ls lab i=lab s:=by
 unfold mq;rw[h]
theorem FW {ls:List Sd.L3}{l:Sd.L3} (h:ls[j]?=some l):mq mk ls lab (mk.length + j)=lab l.1:=by
 unfold mq;rw[R7 (by omega),S5,h]
theorem OF {ls:List Sd.L3} (nd:rows.flatten.Nodup) (cN:∀ q∈ls,q.1∈rows.flatten/\q.2.1∈rows.flatten) (h0:∀ q∈ls,0<q.2.2) (lk:jQ (wT hv rows ls g) (rows.flatten.length + ls.length) pl fl) :
  (∀ s∈rows.flatten,0<=plv rows pl s)/\∀ lab:Str->Str,(∀ q∈nbs rows,lab q.1=lab q.2)->(∀ q∈ls,lab q.1=lab q.2.1)->∀ s∈rows.flatten,∃ t∈rows.flatten,lab t=lab s/\plv rows pl t=0:=by
 have il:∀ {s},s∈rows.flatten->rows.flatten.idxOf s<rows.flatten.length:=fun h=>SA h
 refine⟨fun s hs=>(lk.ls _ (by have:=il hs;omega)).1,fun lab l1 l2 s hs=>?_⟩;obtain⟨_,ce,_⟩:=Gd cN (fun q hq=>SG (h0 q hq)) lk;rw[Au] at ce;have tg:=tight (mk:=rows.flatten) (n:=rows.flatten.length) (Q:=fn pl) 0 ls (fun x hx=>lk.fit x (Q8 _ hx)) h0 (Int.le_of_eq ce.symm);have fw:∀ x∈wT hv rows ls g,(x.1<rows.flatten.length + ls.length/\x.2.1<rows.flatten.length + ls.length)/\mq rows.flatten ls lab x.1=mq rows.flatten ls lab x.2.1:=fun x hx=>by
  refine⟨wv cN x hx,?_⟩;unfold wT at hx;rcases T0.mp hx with z|z
  ·obtain⟨q,hq,rfl⟩:=List.mem_map.mp z
   obtain⟨m1,m2⟩:=vN hq;show mq _ _ _ (rows.flatten.idxOf q.1)=mq _ _ _ (rows.flatten.idxOf q.2);rw[ui (Sd.ix_at m1),ui (Sd.ix_at m2)];exact l1 q hq
  ·obtain⟨j,l,hj,e⟩:=tF 0 ls z
   have lm:=Q0 hj;obtain⟨m1,m2⟩:=cN l lm;rw[S2] at e;rcases e with e|e <;> rw[e] <;> dsimp only <;> rw[FW hj,ui (Sd.ix_at (by assumption))]
   exact l2 l lm
 have h1:=il hs;obtain⟨_,j,jc,je,j0⟩:=lk.ls (rows.flatten.idxOf s) (by omega);have fe:=ER (wT hv rows ls g) (List.range (rows.flatten.length + ls.length)) RU fw (fun i i' hi qE e=>by
  rw[QV,QV,Uk hi,Uk qE] at e;have e:i=i':=e;rw[e]) j _ jc (by omega) je
 rw[ui (Sd.ix_at hs)] at fe;by_cases c:j<rows.flatten.length
 ·obtain⟨t,ht⟩:=eB c
  rw[ui ht] at fe;refine⟨t,Q0 ht,fe,?_⟩;unfold plv;rw[Ae nd (Sd.ix_at (Q0 ht)) ht];exact j0
 ·obtain⟨l,hl⟩:=eB (l:=ls) (j:=j - rows.flatten.length) (by omega)
  have ej:rows.flatten.length + (j - rows.flatten.length)=j:=by omega
  have e1:=FW (mk:=rows.flatten) (lab:=lab) hl;have e2:=tg _ l hl;rw[S2,ej] at e2;rw[ej] at e1;have lm:=Q0 hl;obtain⟨m1,m2⟩:=cN l lm;have e3:=l2 l lm;rcases(by omega:fn pl (rows.flatten.idxOf l.1)=0\/fn pl (rows.flatten.idxOf l.2.1)=0) with z|z
  ·exact⟨l.1,m1,e1.symm.trans fe,z⟩
  ·exact⟨l.2.1,m2,e3.symm.trans (e1.symm.trans fe),z⟩
theorem mkD_app:∀ (l m:Kvs),((m++l).map (·.1)).Nodup->l.foldl ee m=m++l
 | [],m,_=>(So m).symm
 | p::l,m,h=>by
  have e:aN m p.1=none:=by
   cases e:aN m p.1 with
   | none=>rfl
   | some x=>
    have q:=Gx e;rw[Q2,UD] at h;exact(h.2.2 p.1 (List.mem_map.mpr ⟨_,q,O⟩) p.1 (List.mem_map.mpr ⟨p,Q9,O⟩) O).elim
  show l.foldl ee (aE m p.1 p.2)=_;rw[sZ _ e,mkD_app l (m++[(p.1,p.2)]) (by rw[R6];exact h),R6];rfl
theorem zY  (nd:rows.flatten.Nodup) (hl:rows.flatten.length<=pl.length):plD rows pl=(rows.flatten.map Sum.inr).zip (pl.map V.int):=by
 unfold plD mkD;rw[mkD_app _ [] ?_,Tf];rw[Tf,show(fun x:Key×V=>x.1)=Prod.fst from rfl,TV (by rw[QT,QT];exact hl),Si,TF];rw[Si] at nd;exact nd.imp fun z e=>z (Sum.inr.inj e)
theorem OD  (nd:rows.flatten.Nodup) (hl:rows.flatten.length<=pl.length):((plD rows pl).map fun kv=>kV kv.1)=rows.flatten.map V.str:=by
 rw[zY nd hl];have e:(fun kv:Key×V=>kV kv.1)=kV ∘ Prod.fst:=rfl;rw[e,<- Ss,TV (by rw[QT,QT];exact hl),Ss];rfl
theorem Gp  (nd:rows.flatten.Nodup) (hl:rows.flatten.length<=pl.length) (h:p∈plD rows pl):∃ z:Int,p.2=.int z:=by
 rw[zY nd hl] at h;have:=SU (a:=p.1) (b:=p.2) h;obtain⟨z,_,e⟩:=List.mem_map.mp this.2;exact⟨z,e.symm⟩
theorem Oo  (nd:rows.flatten.Nodup) (hl:rows.flatten.length<=pl.length):(plD rows pl).length=rows.flatten.length:=by
 rw[zY nd hl,RL,QT,QT];omega
section
variable {K:PySem.W.Frag}
theorem FC:∀ n:Nat,((List.replicate n true).all id)=true
 | 0=>rfl
 | n + 1=>by rw[Sj,Tw,FC n];rfl
theorem Lx  (ns:List Str):fE n (ns.map Dt.str):=F9 (fun _=>by cases n <;> trivial) _
def O3 (K:PySem.W.Frag):Sp:=fun vs H Q _=>∃ mA l h m p2 d fA mk rs rows hv ls pl fl,∃ g:Int,vs=[.ref mA,.ref l,.ref h,.ref m,.int g,.ref p2]/\H mA=some (.lst ((mk:Row).map V.str))/\H l=some (.lst ((rs:List Addr).map V.ref))/\Rw H rs rows/\H h=some (.dK hv)/\Sd.L3At K H m ls/\Sd.RowsOk mk rows hv/\mk.length<=12/\ls.length<=7/\(∀ q∈ls,q.1∈mk/\q.2.1∈mk/\0<q.2.2/\q.2.2<2 ^ 61)/\0<=g/\g<=50/\H p2=some (.tup [.ref d,.ref fA])/\H d=some (.dK (plD rows pl))/\H fA=some (.lst ((fl:List Int).map V.int))/\jQ (wT hv rows ls g) (rows.flatten.length + ls.length) pl fl/\∀ H',ae H H'->Q (.bl true) H'
theorem M3 (T:Tx K mg a):Cal P w K mg base CX0 9 "_law_right" ["_law_marks","_law_rows_here","_law_halves","_law_lines_here","_law_gap","_law_found"] [] (O3 K):=T.d__law_right.cal fun f fd F=>by
 have bf:=Eb (P:=P) (w:=w) (base:=base) T;have fc:=Sd.ok_keeps_gap (P:=P) (w:=w) (base:=base) T;have c8:=Nc (P:=P) (w:=w) (base:=base) T;have d4:=Sd.ok_asked (P:=P) (w:=w) (base:=base) T;have dX:=Nn (P:=P) (w:=w) (base:=base) T;have hJ:=Sd.ok_cost_of (P:=P) (w:=w) (base:=base) T;have j4:=NI (P:=P) (w:=w) (base:=base) T;refine F.ok oE (fun vs H Q E h=>?_) (fun aA A outer s H vs Q E hr h=>?_)
 ·obtain⟨mA,l,h,m,p2,d,fA,mk,rs,rows,hv,ls,pl,fl,g,rfl,_⟩:=h
  rfl
 ·obtain⟨mA,l,h,m,p2,d,fA,mk,rs,rows,hv,ls,pl,fl,g,rfl,hm,hl,fQ,hh,⟨xm,gm,iD⟩,ok,BB,h7,hok,g0,g1,gR,hd,hV,lk,k⟩:=h
  have Jn:rows.flatten.length=mk.length:=ok.pm.length_eq;have iJ:rows.flatten.Nodup:=ok.pm.nodup_iff.mpr ok.nd;have jg:∀ s∈rows.flatten,Has hv s:=fun s hs=>ok.has s (ok.pm.mem_iff.mp hs)
  have jm:∀ q∈ls,q.1∈rows.flatten/\q.2.1∈rows.flatten:=fun q hq=>⟨ok.pm.mem_iff.mpr (hok q hq).1,ok.pm.mem_iff.mpr (hok q hq).2.1⟩
  have gg:∀ q∈ls,0<q.2.2/\q.2.2<2 ^ 61:=fun q hq=>(hok q hq).2.2
  have r4:=ok.k;have inr:∀ row∈rows,∀ s∈row,s∈rows.flatten:=fun row hr s hs=>List.mem_flatten.mpr ⟨row,hr,hs⟩
  have kE:∀ row∈rows,row.length<=60:=fun row hr=>Rz (SN hr).length_le (by omega)
  have lp:=lk.lp;have lf:=lk.lf;have wl:=GG hv rows ls g;have Bw:=Bj rows;obtain⟨gp,ce,_⟩:=Gd jm (fun q hq=>SG (gg q hq).1) lk;have pI:rows.flatten.length<=pl.length:=by omega
  have ph:∀ s∈rows.flatten,Has (plD rows pl) s/\gv (plD rows pl) s=plv rows pl s:=fun s hs=>pl_has iJ pI hs
  have cp:Sd.costL (plD rows pl) ls=cst (plv rows pl) ls:=by
   rw[cst_of];exact GI fun q hq=>⟨(ph _ (jm q hq).1).2,(ph _ (jm q hq).2).2⟩
  have J8:jR hv rows g (gv (plD rows pl)):=fun q hq=>by
   obtain⟨m1,m2⟩:=vN hq;rw[(ph _ m1).2,(ph _ m2).2];exact gp q hq
  obtain⟨zn,zz⟩:=OF iJ jm (fun q hq=>(gg q hq).1) lk;have keys:=OD iJ pI;have sL:=Oo iJ pI;have yc:∀ {p},p∈plD rows pl->∃ z:Int,p.2=.int z:=fun h=>Gp iJ pI h
  refine⟨_,(aq (d6 (PW.pt (kW (mG (jq (bp sY O T.n_isinstance uf (af (pv 5) (af (tp O T.n_tuple MA) ak))))) (kW (cJ qo (bp ek O T.n_len eh (af (pv 5) ak)) au (bH _)) (my (mG (jq (bp sY O T.n_isinstance uf (af (aG cf (pv 5) au (fun _ _=>O)) (af (tp O T.n_dict vG) ak))))))))) (aB (bn kN)) d9)
   (aq (tY (pv 5) (fD rfl (aO (az (i:=6) oE.nd O (.inl O)) (aO (az (i:=7) oE.nd O (.inl O)) cz))))
   (aq (d6 (PW.pt (kW (cJ (Fu hr.units) (bp OI rfl T.n_sorted Gg (af (pv 6) ak)) (bp Mp rfl T.n_sorted Gg (af (pv 0) ak)) (bH _)) (my (mG (jq (bp ET rfl T.n_all D4 (af (EK (cY (N:=["_law_place"]) (cap:=[none]) O (bM (osc:=aC vC) (XN:=["_law_marks","_law_rows_here","_law_halves","_law_lines_here","_law_gap","_law_found","_law_places","_law_flow","_law_count","_law_wishes","_law_price","_law_whole_here"]) O O (by decide +kernel)) (Fh (pU PySem.F.plainAttrs_dict PySem.F.slot_dict_values PySem.F.type_dict_values Gb (pv 6))) (fun cl C s H fp aa=>(az (i:=0) (show(["_law_place"]:List Str).Nodup by decide +kernel) rfl (.inl rfl))) (fun cl C s H fp aa=>cy) (fun cl C s H fp aa=>(a7 bf (hr.mono (by decide)) rfl (af (pv 0) ak))))) ak))))))) (aB (bn kN)) d9)
   (aq (d6 (PW.pt (kW (cJ Mu (a7 fc (hr.mono (by decide)) rfl (af (pv 1) (af (pv 2) (af (pv 4) (af (pv 6) ak))))) kN (bH _)) (my (mG (jq (a7 c8 (hr.mono (by decide)) rfl (af (pv 0) (af (pv 1) (af (pv 3) (af (pv 6) ak)))))))))) (aB (bn kN)) d9)
   (aq (tY (oy d4 vB (hr.mono (by decide)) rfl (af (pv 1) (af (pv 2) (af (pv 3) (af (pv 4) ak))))) (fD rfl (aO (az (i:=8) oE.nd O (.inl O)) (aO (az (i:=9) oE.nd O (.inl O)) cz))))
   (aq (d6 (mG (jq (a7 dX (hr.mono (by decide)) rfl (af (pv 8) (af (pv 9) (af (pv 7) ak)))))) (aB (bn kN)) d9)
   (aq (aQ (i:=10) oE.nd O (.inl O) (a7 hJ (hr.mono (by decide)) rfl (af (pv 3) (af (pv 6) ak))))
   (aq (aQ (i:=11) oE.nd O (.inl O) (bp Bb O T.n_sum AL (af (cY (N:=["_law_number","_law_wish"]) (cap:=[none,none]) O (bM (osc:=aC vC) (XN:=["_law_marks","_law_rows_here","_law_halves","_law_lines_here","_law_gap","_law_found","_law_places","_law_flow","_law_count","_law_wishes","_law_price","_law_whole_here"]) O O (by decide +kernel)) (pc rfl T.n_zip (af (pv 7) (af (pv 9) ak))) (fun cl C s H fp aa=>(jS (K:=K) (n:=2) O O (aO (az (i:=0) (show(["_law_number","_law_wish"]:List Str).Nodup by decide +kernel) rfl (.inl rfl)) (aO (az (i:=1) (show(["_law_number","_law_wish"]:List Str).Nodup by decide +kernel) rfl (.inl rfl)) cz)))) (fun cl C s H fp aa=>cy) (fun cl C s H fp aa=>(aI jM (pv 0) (aG (tW (K:=K) O) (pv 1) au (fun _ _=>O))))) ak)))
   (aB (bn (EC (mF oB (pv 10) (pv 11) (bH _)) (DU (mF oB (oy j4 vB (hr.mono (by decide)) rfl (af (pv 8) (af (pv 9) (af (pv 7) ak)))) (pv 10) (bH _)))))))))))))),?_⟩
  refine⟨_,O,_,_,_,_,_,O,O,.tup gR,T.kb_tuple_tuple,_,O,gz O ?_⟩;refine⟨_,O,p2,_,O,.inr (SqT.of gR),O,_,O,gz O ?_⟩;refine⟨_,O,p2,_,_,_,O,O,SqT.of gR,O,_,_,_,_,_,O,O,.dK hd,T.kb_dict_dict,_,O,gz O ?_⟩;refine⟨_,O,p2,_,O,SqT.of gR,O,_,_,O,_,_,O,O,?_⟩;refine⟨_,O,d,plD rows pl,rows.flatten,O,hd,keys,by omega,fun r1 jx J6 HC HI=>?_⟩;have s1:ae H (upd H r1 (.lst (jx.map V.str))):=ae.new J6;have h1:upd H r1 (.lst (jx.map V.str)) r1=some (.lst (jx.map V.str)):=ah;generalize upd H r1 (.lst (jx.map V.str))=H1 at s1 h1 ⊢;refine⟨_,O,mA,mk,O,s1 _ _ hm,by omega,fun r2 P5 JT Ie Kj=>?_⟩;obtain rfl:=Nz HI Kj ((HC.trans ok.pm).trans Ie.symm);have s2:ae H1 (upd H1 r2 (.lst (jx.map V.str))):=ae.new JT;have h2:upd H1 r2 (.lst (jx.map V.str)) r2=some (.lst (jx.map V.str)):=ah;generalize upd H1 r2 (.lst (jx.map V.str))=H2 at s2 h2 ⊢;refine⟨.lst (jx.map Dt.str),.lst (jx.map Dt.str),O,O,⟨r1,_,O,SqL.of (s2 _ _ h1),Am _⟩,⟨r2,_,O,SqL.of h2,Am _⟩,Lx _,_,O,gz (by rw[vZ];rfl) ?_⟩;have t2:=s1.trans s2;have bR:=t2 _ _ hd;refine⟨d,_,bR,?_⟩;refine⟨_,O,.inr (.inr (.inl ⟨O,.inl ⟨_,bR⟩⟩)),d,_,O,O,bR,fun vw fL=>⟨vw,d,_,O,ah,by rw[ai (ap bR fL)];exact bR,fun ob D nD=>?_⟩⟩;have sG:∀ b u,H2 b=some u->b≠d->upd (upd (upd H2 vw (im vw d)) d (.frz ob (.dK (plD rows pl)))) D (.lst []) b=some u:=fun b u q z=>by
   have e2:upd (upd H2 vw (im vw d)) d (.frz ob (.dK (plD rows pl))) b=some u:=by
    rw[ai z,ai (ap q fL)];exact q
   rw[ai (ap e2 nD)];exact e2
  have eD:upd (upd (upd H2 vw (im vw d)) d (.frz ob (.dK (plD rows pl)))) D (.lst []) d=some (.frz ob (.dK (plD rows pl))):=by
   rw[ai (fun z=>by rw[<- z,ah] at nD;cases nD)];exact ah
  have DD:upd (upd (upd H2 vw (im vw d)) d (.frz ob (.dK (plD rows pl)))) D (.lst []) D=some (.lst []):=ah;have HD:∀ b u,H2 b=some u->b≠D:=fun b u q z=>by
   by_cases c:b=d
   ·rw[<- z,c,ah] at nD
    cases nD
   ·rw[<- z,ai c,ai (ap q fL),q] at nD
    cases nD
  generalize upd (upd (upd H2 vw (im vw d)) d (.frz ob (.dK (plD rows pl)))) D (.lst [])=G1 at sG eD DD ⊢;refine Gs (d:=d) (o:=ob) (kvs:=plD rows pl) (fun i τ G'=>∃ v1,τ=[v1]/\(∀ b u,b≠D->G1 b=some u->G' b=some u)/\G' D=some (.lst ((List.replicate i true).map V.bl))) ⟨none,rfl,fun b u _ e=>e,DD⟩ ?_ ?_ ?_
  ·rintro i τ G' _ ⟨_,rfl,kb,_⟩
   exact kb _ _ (HD _ _ bR) eD
  ·rintro i key x τ G' hx ⟨v1,rfl,kb,hG⟩
   obtain⟨z,rfl⟩:∃ z:Int,x=.int z:=yc (Q0 hx);have hi:=(List.getElem?_eq_some_iff.mp hx).1;dsimp only[bA,cK];rw[if_pos rfl];refine⟨_,O,z,O,_,hG,?_,_,O,fun b u hb e=>by rw[ai hb];exact kb b u hb e,?_⟩
   ·rw[QT,Rs,Q3]
    omega
   ·rw[ah,Tn,Q2]
    rfl
  rintro τ G' ⟨v1,rfl,kb,hG⟩
  refine⟨ob,kb _ _ (HD _ _ bR) eD,D,List.replicate rows.flatten.length true,O,?_,?_⟩
  ·rw[sL] at hG
   refine SqL.of (xs:=(List.replicate rows.flatten.length true).map V.bl) ?_;rw[ai (fun z=>HD _ _ bR z.symm)];exact hG
  rw[FC];have s3:ae H2 (upd G' d (.dK (plD rows pl))):=fun b u q=>by
   by_cases c:b=d
   ·rw[c,ah]
    rw[c,bR] at q;exact q
   ·rw[ai c]
    exact kb b u (HD b u q) (sG b u q c)
  generalize upd G' d (.dK (plD rows pl))=H3 at s3 ⊢;have t3:=t2.trans s3;refine⟨_,O,gz O ?_⟩;refine⟨_,O,_,O,_,O,_,O,l,rs,rows,h,g,d,hv,plD rows pl,O,t3 _ _ hl,fQ.same t3,by omega,kE,t3 _ _ hh,t3 _ _ hd,fun row hr s hs=>⟨jg s (inr row hr s hs),(ph s (inr row hr s hs)).1⟩,fun H4 s4=>?_⟩;rw[MT.mpr J8];refine⟨_,_,O,O,_,O,gz O ?_⟩;have t4:=t3.trans s4;refine⟨_,O,_,O,_,O,_,O,mA,l,m,d,mk,rs,rows,ls,plD rows pl,O,t4 _ _ hm,ok.nd,by omega,t4 _ _ hl,fQ.same t4,by omega,kE,fun row hr s hs=>ok.pm.mem_iff.mp (inr row hr s hs),⟨xm,t4 _ _ gm,t4.dts iD⟩,by omega,fun q hq=>⟨(hok q hq).1,(hok q hq).2.1⟩,t4 _ _ hd,fun s hs=>?_,fun lab e1 e2 s hs=>?_,fun H5 s5=>?_⟩
  ·have hs:=ok.pm.mem_iff.mpr hs
   refine⟨(ph s hs).1,?_⟩;rw[(ph s hs).2];exact zn s hs
  ·obtain⟨t,t1,t2,t3⟩:=zz lab e1 e2 s (ok.pm.mem_iff.mpr hs)
   exact⟨t,ok.pm.mem_iff.mp t1,t2,by rw[(ph t t1).2];exact t3⟩
  refine⟨_,O,gz O ?_⟩;have t5:=t4.trans s5;refine⟨_,O,_,O,_,O,_,O,l,rs,rows,h,hv,m,ls,g,O,t5 _ _ hl,fQ.same t5,by omega,by omega,iJ,t5 _ _ hh,jg,⟨xm,t5 _ _ gm,t5.dts iD⟩,by omega,jm,fun _ t x H6 s6 nt nx Jb yx=>?_,fun uF=>?_⟩
  case refine_2=>exact(by omega:False).elim
  refine⟨t,_,O,SqT.of Jb,O,_,_,O,_,_,O,O,?_⟩;obtain⟨xs,mK,zO,_⟩:=yx;have nF:aJ K H6 (((wT hv rows ls g).map wI).map wD) xs:=by
   rw[wT_wI];exact zO
  have hin:=wv (hv:=hv) (g:=g) jm;have rng:=ok.rng;have Cm:∀ x∈wT hv rows ls g,A0 x.2.2.1:=fun x hx=>by
   unfold wT at hx;rcases T0.mp hx with z|z
   ·obtain⟨q,hq,rfl⟩:=List.mem_map.mp z
    have a1:=rng q.1;have a2:=rng q.2;show -(2 ^ 64)<gv hv q.1 + gv hv q.2 + g/\gv hv q.1 + gv hv q.2 + g<2 ^ 64;omega
   ·obtain⟨j,l',hj,e⟩:=tF 0 ls z
    rcases e with e|e <;> rw[e] <;> exact⟨by show -(2 ^ 64)<(0:Int);decide,by show(0:Int)<2 ^ 64;decide⟩
  generalize hW:wT hv rows ls g=ws at lk ce wl nF hin Cm lf;have xf:xs.length=ws.length:=by rw[<- nF.length,QT,QT]
  have tn:((rows.flatten.length:Int) + (ls.length:Int)).toNat=rows.flatten.length + ls.length:=by omega
  have inR:∀ q∈ws.map wI,InR ((rows.flatten.length:Int) + (ls.length:Int)).toNat q/\A0 q.2.2.1:=fun q hq=>by
   obtain⟨x',dC,rfl⟩:=List.mem_map.mp hq;obtain⟨i1,i2⟩:=hin x' dC;rw[tn];refine⟨⟨⟨by show(0:Int)<=(x'.1:Int);omega,by show(x'.1:Int)<_;omega⟩,by show(0:Int)<=(x'.2.1:Int);omega,by show(x'.2.1:Int)<_;omega⟩,Cm x' dC⟩
  have gF:jT ((rows.flatten.length:Int) + (ls.length:Int)).toNat (ws.map wI) fl=true:=by
   rw[tn];exact LC lf lk.ti.f lk.bl hin
  have t6:=t5.trans s6;have Iw:=vD (c:=rows.flatten.length + ls.length) hin;have bF:wa (ws.map wI) fl=Sd.costL (plD rows pl) ls:=by
   rw[OW (rows.flatten.length + ls.length) lf,cp,ce,Aj ws (rows.flatten.length + ls.length)];exact GU Iw lk.bl lk.ti
  have JK:∀ y∈fl,0<=y:=fun y hy=>by
   obtain⟨i,hi⟩:=List.mem_iff_getElem?.mp hy;have il:=(List.getElem?_eq_some_iff.mp hi).1;have:=lk.ti.f i (by show i<ws.length;omega);unfold fn at this;rw[QV,hi] at this;exact this
  have Cy:(ws.map wI).length<=1000:=by rw[QT];omega
  refine⟨_,O,_,O,_,O,(rows.flatten.length:Int) + (ls.length:Int),x,ws.map wI,fA,fl,O,⟨xs,SqL.of mK,nF⟩,t6 _ _ hV,by rw[QT];exact lf,Cy,by omega,by omega,fun q hq=>(inR q hq).1,JK,by rw[tn];exact N3 hin lf lk.bl,fun H7 s7=>?_⟩;refine⟨_,O,gz O ?_⟩;have t7:=t6.trans s7;refine⟨_,O,_,O,m,d,ls,plD rows pl,O,⟨xm,t7 _ _ gm,t7.dts iD⟩,t7 _ _ hd,fun q hq=>⟨(ph _ (jm q hq).1).1,(ph _ (jm q hq).2).1,(gg q hq).1,by have:=(gg q hq).2;omega⟩,by omega,fun H8 s8=>?_⟩;have t8:=t7.trans s8;have u8:=s7.trans s8;have yT:=u8 _ _ mK;have sM:=u8.dts nF;have pB:=t8 _ _ hV;refine⟨_,O,_,O,fA,x,O,⟨_,SqL.of pB⟩,⟨_,SqL.of yT⟩,fun D2 bW=>?_⟩;refine AS (K:=K) (l1:=fA) (l2:=x) (xs:=fl.map V.int) (ys:=xs) (by rw[QT];omega) (fun i τ H'=>∃ v1 v2,τ=[v1,v2]/\ae H8 H'/\H' D2=some (.lst (((((ws.map wI).zip fl).take i).map fun p=>p.2 * p.1.2.2.1).map V.int))) ⟨none,none,O,ae.new bW,ah⟩ ?_ ?_ ?_
  ·rintro i τ H' _ ⟨v1,v2,rfl,sm,_⟩
   exact⟨SqL.of (sm _ _ pB),SqL.of (sm _ _ yT)⟩
  ·rintro i x' y t' τ H' dC hy J1 ⟨v1,v2,rfl,sm,hD⟩
   obtain⟨q,hq,dq⟩:=eL sM hy;obtain⟨c,rfl,hc⟩:=mB (sm.dt dq);obtain⟨y,bT,rfl⟩:=iS dC;have hs:=(inR q (Q0 hq)).2;have s5:ae H' (upd H' t' (.tup [.int y,.ref c])):=ae.new J1;have rF:upd H' t' (.tup [.int y,.ref c]) t'=some (.tup [.int y,.ref c]):=ah;generalize upd H' t' (.tup [.int y,.ref c])=H5' at s5 rF ⊢;refine⟨t',_,O,SqT.of rF,O,_,_,O,_,_,O,O,?_⟩;dsimp only[cK];rw[if_pos rfl];refine⟨_,O,_,O,c,_,_,_,O,O,s5.sqT hc,O,_,_,O,O,.inr hs,_,s5 _ _ hD,?_,_,_,O,?_,?_⟩
   ·rw[QT,QT,Rb,RL,Q3]
    omega
   ·intro b u e
    rw[ai (ap e bW)];exact s5 _ _ (sm b u e)
   ·rw[ah,zam (tm hq bT),Q2,Q2]
    rfl
  rintro τ H9 ⟨v1,v2,rfl,s9,hD⟩
  rw[Rt (by rw[RL,QT,QT];omega)] at hD;refine⟨D2,_,O,SqL.of hD,?_⟩;refine⟨_,O,_,O,O,_,O,iteYes (Ro (by rw[<- bF];rfl)) ?_⟩;refine⟨_,O,_,O,_,O,(rows.flatten.length:Int) + (ls.length:Int),x,ws.map wI,fA,fl,O,⟨xs,SqL.of (s9 _ _ yT),s9.dts sM⟩,SqL.of (s9 _ _ pB),Cy,by omega,by omega,by omega,inR,fun _ r6 rD=>?_,fun uF=>?_⟩
  case refine_2=>
   rw[gF] at uF;cases uF
  refine⟨_,O,O,?_⟩;show Q (.bl (decide (V.int (wa (ws.map wI) fl)=V.int (Sd.costL (plD rows pl) ls)))) r6;rw[bF,Ro rfl];exact k r6 (t8.trans (s9.trans rD))
end
end
section
open Sd (Kvs Row Has gv Rw nb nbs)
theorem nb_ix {q:Sd.Ln} (h:q∈nb row):∃ k,row[k]?=some q.1/\row[k + 1]?=some q.2:=by
 obtain⟨k,hk⟩:=List.mem_iff_getElem?.mp h;unfold nb at hk;rw[Rx] at hk;refine⟨k,hk.1,?_⟩;have:=hk.2;rw[Tu,TL] at this;exact this
theorem nbs_ix {q:Sd.Ln} (h:q∈nbs rows):∃ row∈rows,q∈nb row:=by
 unfold nbs at h;obtain⟨l,hl,hq⟩:=List.mem_flatten.mp h;obtain⟨row,hr,rfl⟩:=List.mem_map.mp hl;exact⟨row,hr,hq⟩
theorem LF (ns:List Int) (i j:Nat):∃ ms:List Int,eI (ns.map V.int) (some i) (some j)=ms.map V.int/\ms.length<=j - i:=by
 obtain⟨ms,e,_⟩:=LV ns (some i) (some j);refine⟨ms,e,?_⟩;have l:ms.length=(eI (ns.map V.int) (some i) (some j)).length:=by rw[e,QT]
 rw[l];unfold eI;have e1:HT.sIx (ns.map V.int).length 0 (some (i:Int))=min i (ns.map V.int).length:=by
  unfold HT.sIx;dsimp only;rw[if_neg (by omega),Q7]
 have e2:HT.sIx (ns.map V.int).length (ns.map V.int).length (some (j:Int))=min j (ns.map V.int).length:=by
  unfold HT.sIx;dsimp only;rw[if_neg (by omega),Q7]
 rw[e1,e2,Rb,Sv];omega
theorem DL {k:Nat} (hr:rows[i]?=some row) (hx:row[k]?=some x):rows.flatten[(rows.take i).flatten.length + k]?=some x:=by
 have e1:=Sd.split_at hr;have kl:=(List.getElem?_eq_some_iff.mp hx).1;have e:rows.flatten=(rows.take i).flatten++(row++(rows.drop (i + 1)).flatten):=by
  rw[<- SD,<- SS,<- e1]
 rw[e,SC (by omega),S5,SV kl];exact hx
theorem E7  (nd:l.Nodup) (h:l[n]?=some x):l.idxOf x=n:=Ae nd (Sd.ix_at (Q0 h)) h
theorem FS  (nd:rows.flatten.Nodup) (rng:∀ s,0<=gv hv s/\gv hv s<=50) (g1:g<=50):jR hv rows g fun s=>200 * (rows.flatten.idxOf s:Int):=fun q hq=>by
 obtain⟨row,hr,hq⟩:=nbs_ix hq;obtain⟨k,h1,h2⟩:=nb_ix hq;obtain⟨i,hi⟩:=List.mem_iff_getElem?.mp hr;have e1:=E7 nd (DL hi h1);have e2:=E7 nd (DL hi h2);have r1:=(rng q.1).2;have r2:=(rng q.2).2;dsimp only;rw[e1,e2];omega
section
variable {K:PySem.W.Frag}
def spLaw (K:PySem.W.Frag) (t:Adr):Sp:=fun vs H Q _=>∃ (p:Addr) (ns:List Int),vs=[.ref p]/\SqL K H p (ns.map V.int)/\ns.length<=63/\H t.tb_search=some (.tbl oz oH)/\∀ H',Q (.bl true) H'
theorem ok_law (T:Tx K mg a) (f:Addr) (fd:FuncData) (F:fq K "law" "law" sX f fd):cM P w K mg base CX0 14 f fd ["_law_script"] (spLaw K a):=by
 have aF:=Sd.ok_cell_at (P:=P) (w:=w) (base:=base) T;have eP:=Sd.ok_rows (P:=P) (w:=w) (base:=base) T;have dQ:=Sd.ok_lines (P:=P) (w:=w) (base:=base) T;have cQ:=PB (P:=P) (w:=w) (base:=base) T;have dU:=M3 (P:=P) (w:=w) (base:=base) T;refine F.ok mI (fun vs H Q E h=>?_) (fun aA A outer s H vs Q E hr h=>?_)
 ·obtain⟨p,ns,rfl,_⟩:=h
  rfl
 ·obtain⟨p,ns,rfl,hS,aj,iZ,k⟩:=h
  refine⟨_,(aq (tY (a7 eP (hr.mono (by decide)) rfl (af (dJ (af (aI fu (aI jM (aI A9 (a7 aF (hr.mono (by decide)) rfl (af (pv 0) (af au ak))) au) au) (aI fV (a7 aF (hr.mono (by decide)) rfl (af (pv 0) (af au ak))) au)) ak)) ak)) (fD rfl (aO (az (i:=1) mI.nd O (.inl O)) (aO (az (i:=2) mI.nd O (.inl O)) (aO (az (i:=3) mI.nd O (.inl O)) cz)))))
   (aq (aQ (i:=4) mI.nd O (.inl O) (a7 dQ (hr.mono (by decide)) rfl (af (vW z8 (pv 0) (tP au) (tP au)) (af (pv 1) ak))))
   (aq (aQ (i:=5) mI.nd O (.inl O) (aI fV (a7 aF (hr.mono (by decide)) rfl (af (pv 0) (af au ak))) au))
   (aq (aQ (i:=6) mI.nd O (.inl O) (oy cQ vB (hr.mono (by decide)) rfl (af (pv 2) (af (pv 3) (af (pv 4) (af (pv 5) ak))))))
   (aq (d6 (mG (jq (a7 dU (hr.mono (by decide)) rfl (af (pv 1) (af (pv 2) (af (pv 3) (af (pv 4) (af (pv 5) (af (pv 6) ak))))))))) (aB (bn kN)) d9)
   (aq (aQ (i:=7) mI.nd O (.inl O) (gG (af (vz N4 O T.n_dict vG (af (aG cf (pv 6) au (fun _ _=>O)) ak)) (af (vz Ex O T.n_list vH (af (aG cf (pv 6) au (fun _ _=>O)) ak)) ak))))
   (aq (eJ (pU PySem.F.plainAttrs_dict PySem.F.slot_dict_clear PySem.F.type_dict_clear Pp (aG cf (pv 6) au (fun _ _=>O))))
   (aq (eJ (pU PySem.F.plainAttrs_list PySem.F.slot_list_clear PySem.F.type_list_clear Ma (aG cf (pv 6) au (fun _ _=>O))))
   (aB (bn (mF (op_eqT hr.units) (oy cQ vB (hr.mono (by decide)) rfl (af (pv 2) (af (pv 3) (af (pv 4) (af (pv 5) ak))))) (pv 7) (bH _)))))))))))),?_⟩
  refine⟨_,O,p,ns,0,O,hS,by decide,fun c0=>⟨_,_,O,O,⟨by decide,by decide⟩,_,_,O,O,.inr ⟨by decide,by decide⟩,_,O,p,ns,0,O,hS,by decide,fun c1=>⟨_,_,O,O,(by show(0:Int)<8;decide),_,_,O,O,(by show 1<=sizeLine;decide),fun q nq=>?_⟩⟩⟩;have s0:ae H (upd H q (.lst [V.int (c0 / 8 * 13 + c1 % 8)])):=ae.new nq;have h0:upd H q (.lst [V.int (c0 / 8 * 13 + c1 % 8)]) q=some (.lst ([c0 / 8 * 13 + c1 % 8].map V.int)):=ah;generalize upd H q (.lst [V.int (c0 / 8 * 13 + c1 % 8)])=H0 at s0 h0 ⊢;refine⟨q,[c0 / 8 * 13 + c1 % 8],O,SqL.of h0,fun t0 mA l h rs mk rows hv H1 s1 ht hm hl fQ hh ok BB in12 Qa nr Qz nl nh nm=>?_⟩;refine⟨t0,_,O,SqT.of ht,O,_,_,O,_,_,O,_,_,O,O,?_⟩;have t1:=s0.trans s1;obtain⟨ms,IJ,xR⟩:=LF ns 2 9;refine⟨_,O,_,O,_,O,p,_,O,t1.sqL hS,fun lc Kt=>?_⟩;rw[show eI (ns.map V.int) (some 2) (some 9)=ms.map V.int from IJ];have s2:ae H1 (upd H1 lc (.lst (ms.map V.int))):=ae.new Kt;have h2:upd H1 lc (.lst (ms.map V.int)) lc=some (.lst (ms.map V.int)):=ah;generalize upd H1 lc (.lst (ms.map V.int))=H2 at s2 h2 ⊢;refine⟨_,O,lc,mA,mk,ms,O,SqL.of h2,by omega,s2 _ _ hm,fun m ls H3 s3 P6 cN hok J2=>?_⟩;have u3:=s2.trans s3;have t3:=t1.trans u3;refine⟨_,O,p,ns,1,O,t3.sqL hS,by decide,fun c2=>⟨_,_,O,O,(by show(0:Int)<51;decide),?_⟩⟩;have g0:0<=c2 % 51:=Sb _ (by decide);have g1:c2 % 51<51:=R1 _ (by decide);dsimp only;generalize c2 % 51=g at g0 g1 ⊢;have Jn:rows.flatten.length=mk.length:=ok.pm.length_eq
  have iJ:rows.flatten.Nodup:=ok.pm.nodup_iff.mpr ok.nd;have jg:∀ s∈rows.flatten,Has hv s:=fun s hs=>ok.has s (ok.pm.mem_iff.mp hs)
  have jm:∀ q∈ls,q.1∈rows.flatten/\q.2.1∈rows.flatten:=fun q hq=>⟨ok.pm.mem_iff.mpr (hok q hq).1,ok.pm.mem_iff.mpr (hok q hq).2.1⟩
  have gg:∀ q∈ls,0<q.2.2/\q.2.2<2 ^ 61:=fun q hq=>(hok q hq).2.2
  have r4:=ok.k;have r0:=ok.k0;have rE:=u3 _ _ hl;have yR:=fQ.same u3;have yv:=u3 _ _ hh;have HS:=u3 _ _ hm;have DF:=t3 _ _ iZ;obtain⟨xm,gm,iD⟩:=cN;have rng:=ok.rng;clear s1 s2 s3 u3 t1 t3 hl fQ hh nr ht hm h2 h0 s0;refine⟨_,O,_,O,_,O,_,O,l,rs,rows,h,hv,m,ls,g,O,rE,yR,by omega,by omega,iJ,yv,jg,⟨xm,gm,iD⟩,by omega,jm,gg,⟨_,FS iJ rng (by omega)⟩,DF,fun p2 d fA pl fl H4 s4 QJ nd lL gR hd hV told lk=>?_⟩;have lp:=lk.lp;have pI:rows.flatten.length<=pl.length:=by omega
  refine⟨_,O,_,O,_,O,_,O,_,O,_,O,mA,l,h,m,p2,d,fA,mk,rs,rows,hv,ls,pl,fl,g,O,s4 _ _ HS,s4 _ _ rE,yR.same s4,s4 _ _ yv,⟨xm,s4 _ _ gm,s4.dts iD⟩,ok,BB,by omega,hok,g0,by omega,gR,hd,hV,lk,fun H5 s5=>?_⟩;refine⟨_,O,gz O ?_⟩;have t5:=s4.trans s5;have mZ:=s5 _ _ gR;have jY:=s5 _ _ hd;have kq:=s5 _ _ hV;refine⟨_,O,p2,_,_,_,O,O,SqT.of mZ,O,d,_,O,jY,fun k1 rT=>?_⟩;have s6:ae H5 (upd H5 k1 (.dK (plD rows pl))):=ae.new rT;have h6:upd H5 k1 (.dK (plD rows pl)) k1=some (.dK (plD rows pl)):=ah;generalize upd H5 k1 (.dK (plD rows pl))=H6 at s6 h6 ⊢;refine⟨_,O,p2,_,_,_,O,O,SqT.of (s6 _ _ mZ),O,fA,_,O,.inl (SqL.of (s6 _ _ kq)),fun k2 qZ=>?_⟩;have s7:ae H6 (upd H6 k2 (.lst (fl.map V.int))):=ae.new qZ;have h7:upd H6 k2 (.lst (fl.map V.int)) k2=some (.lst (fl.map V.int)):=ah;generalize upd H6 k2 (.lst (fl.map V.int))=H7 at s7 h7 ⊢;have u7:=s6.trans s7;refine⟨(by show 2<=sizeLine;decide),fun kt qB=>?_⟩;have s8:ae H7 (upd H7 kt (.tup [.ref k1,.ref k2])):=ae.new qB;have h8:upd H7 kt (.tup [.ref k1,.ref k2]) kt=some (.tup [.ref k1,.ref k2]):=ah;generalize upd H7 kt (.tup [.ref k1,.ref k2])=H8 at s8 h8 ⊢;have u8:=u7.trans s8;have nZ:=u8 _ _ jY;have pB:=u8 _ _ kq;have zL:=u8 _ _ mZ;have HY:fA≠d:=kU pB nZ (by intro z;cases z);have zM:k1≠d:=fun z=>by rw[z,jY] at rT;cases rT
  have xt:k1≠fA:=fun z=>by rw[z,kq] at rT;cases rT
  have yC:k2≠d:=fun z=>by rw[z,s6 _ _ jY] at qZ;cases qZ
  have zK:k2≠fA:=fun z=>by rw[z,s6 _ _ kq] at qZ;cases qZ
  have yK:kt≠d:=fun z=>by rw[z,u7 _ _ jY] at qB;cases qB
  have wS:kt≠fA:=fun z=>by rw[z,u7 _ _ kq] at qB;cases qB
  have qT:p2≠d:=kU zL nZ (by intro z;cases z);refine⟨_,O,p2,_,_,_,O,O,SqT.of zL,O,.inr (.inr (.inl ⟨O,.inl ⟨_,nZ⟩⟩)),d,_,O,O,nZ,?_⟩;have kx:∀ b u,b≠d->b≠fA->H8 b=some u->upd (upd H8 d (.dK [])) fA (.lst []) b=some u:=fun b u z1 z2 q=>by
   rw[ai z2,ai z1];exact q
  have Io:upd H8 d (.dK []) p2=some (.tup [.ref d,.ref fA]):=by rw[ai qT];exact zL
  have BA:upd H8 d (.dK []) fA=some (.lst (fl.map V.int)):=by rw[ai HY];exact pB
  refine⟨_,O,p2,_,_,_,O,O,SqT.of Io,O,.inl ⟨O,_,SqL.of BA⟩,fA,_,O,O,BA,?_⟩;generalize upd (upd H8 d (.dK [])) fA (.lst [])=H9 at kx ⊢;have s9:∀ b u,H3 b=some u->H9 b=some u:=fun b u q=>kx b u (ap q nd) (ap q lL) (u8 _ _ (t5 _ _ q))
  have s9:ae H3 H9:=s9;have Ky:=kx _ _ zM xt (s8 _ _ (s7 _ _ h6));have yD:=kx _ _ yC zK (s8 _ _ h7);have Km:=kx _ _ yK wS h8;refine⟨_,O,_,O,_,O,_,O,l,rs,rows,h,hv,m,ls,g,O,s9 _ _ rE,yR.same s9,by omega,by omega,iJ,s9 _ _ yv,jg,⟨xm,s9 _ _ gm,s9.dts iD⟩,by omega,jm,gg,⟨_,FS iJ rng (by omega)⟩,s9 _ _ DF,fun p3 d3 f3 Qs Qh r6 rD _ _ _ HQ jW lN sN _=>?_⟩;have e:=told.uniq sN;injection e with e1 e2
  subst e1 e2;have fk:vV K r6 (plD rows pl):=fun q hq=>by
   obtain⟨z,hz⟩:=Gp iJ pI hq;exact⟨.int z,hz,trivial⟩
  exact⟨_,O,p3,kt,_,_,O,O,SqT.of HQ,SqT.of (rD _ _ Km),⟨.inr ⟨d3,k1,_,O,O,jW,rD _ _ Ky,fk⟩,.inl ⟨.lst (fl.map Dt.int),⟨f3,_,O,SqL.of lN,tO _⟩,⟨k2,_,O,SqL.of (rD _ _ yD),tO _⟩,Fx _⟩,trivial⟩,k r6⟩
end
end
theorem all_mk {l:PySem.W.OpenLaw}{K:PySem.W.Frag}{h:Heap}{fa f:Addr}{TS:List Addr}{q0 q1 q2 q3 q4 q5:Addr}{oc:Value}{od an:Option Addr}{dI:Array (Option Value)}{kV bL pm aA ct:Value} (X:K.In h) (G:h.Ns mainGlobals mg) (KJ:mg "law"=some (.ref fa)) (T:Tx K mg ⟨q0,q1,q2,q3,q4,q5⟩) (al:PySem.W.nsIn K mainGlobals "law"=some (some (.ref f))) (ll:K.lookup f=some ⟨oc,od,.func (fnN "law" "law" sX kV bL pm an aA ct),dI⟩) (cl:PySem.W.codeIn K aA "law"=true) (lm0:q5∈TS) (hnd:[q5].Nodup) :
  ∃ (fd:FuncData) (ts:List Tab) (sp:Sp),(∀ (s:Shared) (u:Value),BindsTo s fd ⟨[u],[]⟩ [("_law_script",u)])/\(ts.map (·.1)).Nodup/\(∀ t∈ts,t.1∈TS/\(∃ c,PySem.W.codeHdIn K c t.1=true)/\K.lookup t.1=none) /\
    (∀ (H:Hp) (a:Addr) (ns:List Int),ns.length<=63->ug ts H->SqL K H a (ns.map V.int)->sp [.ref a] H (fun v _=>v=.bl true) fun _ _ _=>False) /\
    ∀ base:Heap,K.In base->base.Ns mainGlobals mg->cM l.prog w K mg base CX0 14 fa fd ["_law_script"] sp:=by
 have e:=KJ.symm.trans (PySem.W.mg_of X G al);cases e
 refine⟨_,[(q5,oz,oH)],spLaw K ⟨q0,q1,q2,q3,q4,q5⟩,fun s v=>.of_eq O,hnd,?_,?_,fun base _ _=>ok_law T _ _ (tJ (st:=sX) ll cl)⟩
 ·intro t ht
  simp only[Rp,Rk,or_false] at ht
  rcases ht with rfl
  ·obtain⟨_,_,⟨c,_,lh⟩,ln⟩:=T.lam_search
   exact⟨lm0,⟨c,lh⟩,ln⟩
 ·exact fun H p ns hl hO hS=>⟨p,ns,O,hS,hl,hO.1 (q5,oz,oH) (by simp),fun _=>O⟩
theorem walk {l:PySem.W.OpenLaw}{q:Program}{dB:List Str}{XP:(Str->Option Value)->Heap->Prop}{YP:World->Heap->Prop}{d:DefRec}{K:Params->PySem.W.Frag}{TS:List Addr} (hn:l.most=some 63) (lU:d.params.defaults=[])
  (hY:∀ (w:World) (h:Heap),YP w h->(K w.params).In h/\∀ P∈TS,h.get? P=some (PySem.W.tabObj #[]))
  (F:∀ (w:World) (mg:Str->Option Value) (fa:Addr) (h:Heap),(K w.params).In h->h.Ns mainGlobals mg->mg d.name=some (.ref fa)->∃ (fd:FuncData) (ts:List Tab) (sp:Sp),(∀ (s:Shared) (u:Value),BindsTo s fd ⟨[u],[]⟩ [("_law_script",u)])/\(ts.map (·.1)).Nodup/\(∀ t∈ts,t.1∈TS/\(∃ c,PySem.W.codeHdIn (K w.params) c t.1=true)/\(K w.params).lookup t.1=none) /\
    (∀ (H:Hp) (a:Addr) (ns:List Int),ns.length<=63->ug ts H->SqL (K w.params) H a (ns.map V.int)->sp [.ref a] H (fun v _=>v=.bl true) fun _ _ _=>False) /\
    ∀ base:Heap,(K w.params).In base->base.Ns mainGlobals mg->cM l.prog w (K w.params) mg base CX0 14 fa fd ["_law_script"] sp) :
  PySem.W.WalkO q dB XP YP l.row.toRowW d [] (fun f vs=>PySem.call f vs):=
 L2.zlk (n:=63) (k:=14) (x:="_law_script") hn (by decide) lU ⟨by decide,by decide⟩ hY F
end K63
namespace PySem.W.Fast
def tw11463874600971147651:=()
def tw6525001869596793927:=()
def tw7696072999869110014:=()
def tw520196605981249359:=()
def tw15248806643962465273:=()
def tw15874690993409470074:=()
def tw14455833211207508264:=()
def tw7878491813451475415:=()
def tw17396353163461926409:=()
def tw15101421079834235760:=()
def tw14044019806632633091:=()
def tw4366369911763177197:=()
def tw10114091759162650450:=()
def tw9358039802408918139:=()
def tw12008497916430453440:=()
def tw3795688330149194418:=()
def tw6810301604712014926:=()
def tw7770207443911614069:=()
def tw14109086889366857040:=()
def tw9710845535806574298:=()
def tw5042448099884192748:=()
def tw9684003914899501415:=()
def tw10508069419289448331:=()
def tw4510089204849609055:=()
def tw167620298524639977:=()
def tw7445296166195324092:=()
def tw3259294577966766879:=()
def tw1222098171286595037:=()
def tw13927665864959981541:=()
def tw5823479400615703280:=()
def tw5368279912622136480:=()
def tw14863355015274109472:=()
def tw11648137680600808977:=()
def tw7632450060266079328:=()
def tw17442281433112131379:=()
def tw12749537247317734405:=()
def tw9637560371948013832:=()
def tw17801551065738032142:=()
def tw15454505053783736684:=()
def tw7297846371840009836:=()
def tw6018855358862243310:=()
def tw1907788406739902394:=()
def tw8131068439300930560:=()
def tw18172686796413679533:=()
def tw4066885077231886149:=()
def tw17794963793222748069:=()
def tw8634942504480082394:=()
def tw12857458122260770612:=()
def tw15624682353285678939:=()
def tw7806820576566635116:=()
def tw17768147771697512942:=()
def tw2924137747482749811:=()
def tw15053431611180072271:=()
def tw129000162892865261:=()
def tw13019416113254187798:=()
def tw16674160127437217197:=()
def tw15217018003992263508:=()
def tw8319626763122204703:=()
def tw18283180248516055863:=()
def tw11479198652313294842:=()
def tw1262444607960841582:=()
def tw12070693945618106190:=()
def tw15239793360091534873:=()
def tw4783763645136471609:=()
def tw14295070789241186501:=()
def tw17567293522660378393:=()
def tw14321318108241241306:=()
def tw9225909772292498134:=()
def tw7523941259166234384:=()
def tw2026176248024536160:=()
def tw7524654232071377262:=()
def tw2145897903304926395:=()
def tw5707758021206576791:=()
def tw17940747092818289238:=()
def tw11187978240308970720:=()
def tw12817096133294290699:=()
def tw14977357144931799557:=()
def tw10511456361549989983:=()
def tw6501894242306308715:=()
def tw16529304658885694206:=()
def tw7603418843035810613:=()
def tw11805801300706393641:=()
def tw9414729868792075495:=()
def tw6700249006476017085:=()
def tw10710969413457460944:=()
def tw293670848965989852:=()
def tw12549737206749054423:=()
def tw14332548409788100933:=()
def tw14990829945071242951:=()
def tw13333423708535144857:=()
def tw13509189406064260996:=()
def tw18261453433904116803:=()
def tw15893617642865793177:=()
def tw16113789474723819758:=()
def tw2264617566673927090:=()
def tw16521948882673934652:=()
def tw14416245788471136211:=()
def tw7216541459255229646:=()
def tw11078608598283137622:=()
def tw3573947307611640751:=()
def tw13754460560274810072:=()
def tw13030943112046465437:=()
def tw13981621513616711147:=()
def tw7571364871739345815:=()
def tw1622765925967018198:=()
def tw14629276225333738336:=()
def tw11419496049471181655:=()
def tw9174178592758474690:=()
def tw14511163791290062099:=()
def tw6783039354784260402:=()
def tw15262384675238143646:=()
def tw11077909513112925002:=()
def tw13297295230790387288:=()
def tw13977797706174147735:=()
def tw5956955411330543280:=()
def tw11573895504401571674:=()
def tw10666769591442970927:=()
def tw15600708601338983440:=()
def tw1344296609770294545:=()
def tw7360369717091753658:=()
def tw10075346908499930738:=()
def tw695168510408546970:=()
def tw7379101802807795994:=()
def tw2440668239572192358:=()
def tw8739488904400356124:=()
def tw15147964468878555803:=()
def tw995863470219282195:=()
def tw9010526129225834058:=()
def tw11290414853584177143:=()
def tw1945131681999099354:=()
def tw6725126659888615008:=()
def tw6939871392433379281:=()
def tw14995944555499919824:=()
def tw9592994887296886463:=()
def tw44324262037245323:=()
def tw16415223190133619446:=()
def tw16895995303489920101:=()
def tw2082030821112820660:=()
def tw12073720773755465295:=()
def tw16566692427709684499:=()
def tw11805756849223847752:=()
def tw8278562778919234104:=()
def tw278590300251507136:=()
def tw8442911995129814620:=()
def tw16914067208707843523:=()
def tw759034699903896461:=()
def tw6351821193621574689:=()
def tw15009657984506091057:=()
def tw17176584366699398457:=()
def tw4870919168975646820:=()
def tw7021375887603584191:=()
def tw8091825961669652553:=()
def tw16094652818226364070:=()
def tw2421467209690424617:=()
def tw12605328315572192356:=()
def tw11232366952702642423:=()
def tw5946518308695154391:=()
def tw15266469555892610504:=()
def tw8370106191530816268:=()
def tw1602006797082383100:=()
def tw18260115178976825084:=()
def tw7751276400013397724:=()
def tw16590993555735429004:=()
def tw10791436153308146982:=()
def tw2073651592558327478:=()
def tw4707634542358692535:=()
def tw17303607627512125467:=()
def tw9860944559892781395:=()
def tw12453517726875839960:=()
def tw1903120963068162681:=()
end PySem.W.Fast
open PySem PySem.W PyProof.Rows
set_option maxRecDepth 100000 in
set_option maxHeartbeats 0 in
theorem PySem.Challenge.cw_layerdraw_k63_laid_sideways_holds : PySem.Challenge.rw_layerdraw_k63_laid_sideways.Holds := by
 w_on;o_law;k_head;(case hw=>w_witness2)
 k_fill
 refine K63.walk (l:=PySem.Challenge.rw_layerdraw_k63_laid_sideways) rfl rfl (fun w h Y=>⟨PySem.W.km_in_of Y,PySem.W.km_tabs_of Y⟩) ?F
 case F=>
  intro w mg fa h KX G qH
  refine' K63.all_mk KX G qH ?T ?al ?ll ?cl ?lm0 ?hnd
  case T=>
   constructor
   any_goals dsimp only
   any_goals first|k_is|kit_is|(refine' PySem.W.mg_of KX G ?_;k_is)|(refine' PySem.W.mg_none_of KX G ?_;k_is)|(refine' L2.int_mk KX G ?_;any_goals first|k_is|kit_is|kernel_rfl|rfl)|(refine' L2.str_mk KX G ?_;any_goals first|k_is|kit_is|kernel_rfl|rfl)|(unfold L2.zbL;k_is)|((first|refine' L2.def_mk KX G ?_ ?_ ?_ ?_ ?_|refine' L2.met_mk ?_ ?_ ?_ ?_ ?_ ?_|refine' L2.ini_mk KX G ?_ ?_ ?_ ?_ ?_ ?_ ?_ ?_|refine' L2.znl KX G ?_ ?_ ?_ ?_ ?_ ?_ ?_ ?_);any_goals (first|k_is|kit_is|kernel_rfl|exact L2.len1 fun _=>rfl|exact L2.len2 fun _ _=>rfl|exact L2.len3 fun _ _ _=>rfl|exact L2.len4 fun _ _ _ _=>rfl|exact L2.len5 fun _ _ _ _ _=>rfl|exact L2.len6 fun _ _ _ _ _ _=>rfl);done)|(refine' L2.lam_mk KX G ?u0 ?u1 ?u2 ?u3 ?u4 ?u5 ?u6;(case u0=>first|k_is|kit_is|kernel_rfl|rfl);(case u1=>first|k_is|kit_is|kernel_rfl|rfl);(case u2=>rfl);(case u3=>first|k_is|kit_is|kernel_rfl|rfl);(case u4=>rfl);(case u5=>first|k_is|kit_is|kernel_rfl|rfl);(case u6=>first|k_is|kit_is|kernel_rfl|rfl))|(constructor <;> first|k_is|kit_is|kernel_rfl|rfl)
  any_goals first|k_is|kit_is|exact List.mem_cons_self|(simp;done)|decide
