import PyProof.Rows.All
import Wide.All
import OpenK.AllK
import Wide.FinOn
import Lean
import PyProof.EqAt
import PyProof.EqKinds
import PyProof.TupleCall
import PyProof.NeKinds
import PySem.Challenge.RW_layerdraw_k64_none_costs_less
set_option Elab.async false
set_option linter.all false
set_option maxRecDepth 100000
set_option genInjectivity false
set_option genSizeOf false
noncomputable section
section
open PySem PySem.Spec PyProof.Rows
def oW:=@wpAny_bind
def Vd:=@List.length_map
def Ve:=@Heap.get?_push_of_some
def Vf:=@List.getD_eq_getElem?_getD
def Vg:=@List.getElem?_eq_getElem
def Vh:=@Nat.le_refl
def Vi:=@wpAny_pure
def Vj:=@List.mem_of_getElem?
def Vk:=@Heap.lt_size
def Vl:=@List.map_append
def Vm:=@Heap.get?_push_size
def Vn:=@Int.toNat_natCast
def Vo:=@sizeLine_eq
def Vp:=@List.getElem?_map
def Vq:=@Nat.ne_of_lt
def Vr:=@List.mem_append_right
def Vs:=@List.length_take
def Vt:=@List.mem_cons_of_mem
def Vu:=@Bool.false_ne_true
def Vv:=@List.take_length
def Vw:=@List.length_cons
def Vx:=@List.size_toArray
def Vy:=@Nat.lt_of_lt_of_le
def Vz:=@List.mem_cons_self
def VA:=@of_decide_eq_true
def VB:=@Heap.get?_update_other
def VC:=@List.not_mem_nil
def VD:=@List.length_append
def VE:=@Nat.lt_irrefl
def VF:=@wpAny_field
def VG:=@decide_eq_true
def VH:=@List.mem_cons
def VI:=@Heap.size_push
def VJ:=@wpAny_holding
def VL:=@Nat.le_trans
def VM:=@List.take_of_length_le
def VN:=@List.mem_append_left
def VO:=@Nat.le_add_right
def VP:=@wpAny_callSpecial?_slot
def VQ:=@List.getElem?_zip_eq_some
def VR:=@Heap.get?_update_self
def VS:=@List.length_replicate
def VT:=@Bool.and_eq_true
def VU:=@Nat.zero_le
def VV:=@List.length_set
def VW:=@Int.emod_nonneg
def VX:=@wpAny_seqItems
def VY:=@of_decide_eq_false
def VZ:=@List.length_filter_le
def V0:=@wpAny_mono
def V1:=@Int.le_refl
def V2:=@Bool.false_eq_true
def V3:=@wpAny_Call_Name_kw
def V4:=@Int.emod_lt_of_pos
def V5:=@decide_eq_false
def V6:=@wpAny_call_entry
def V7:=@Nat.lt_succ_of_lt
def V8:=@Nat.le_succ
def V9:=@Nat.ne_of_gt
def Wa:=@Nat.lt_succ_self
def Wb:=@List.filter_cons
def Wc:=@Nat.lt_or_ge
def Wd:=@List.foldl_append
def We:=@List.length_range
def Wg:=@List.map_cons
def Wh:=@wpAny_tryCatch
def Wj:=@Nat.not_lt_zero
def Wk:=@wpAny_pyIter_list
def Wl:=@wpAny_of_eq
def Wm:=@List.length_zip
def Wo:=@wpAny_setField_rec
def Wp:=@List.lookup_cons
def Wq:=@List.all_eq_true
def Wr:=@List.nodup_nil
def Ws:=@wpAny_truthy_bool
def Wu:=@wpAny_isInstance
def Wv:=@List.length_drop
def Ww:=@Nat.lt_of_le_of_lt
def Wx:=@wpAny_attempt
def Wy:=@wpAny_loadPart_at
def Wz:=@wpAny_updateSeq
def WA:=@List.replicate_succ
def WB:=@List.getElem?_append_right
def WC:=@wpAny_setField
def WD:=@List.getElem?_eq_none
def WE:=@List.getElem?_take
def WF:=@wpAny_letGo
def WG:=@List.flatten_cons
def WH:=@List.append_assoc
def WI:=@List.getElem_mem
def WJ:=@wpAny_nextOf_list_item
def WK:=@List.filter_append
def WL:=@List.map_map
def WM:=@wpAny_passesOwn
def WN:=@List.append_nil
def WO:=@List.nodup_iff_pairwise_ne
def WP:=@wpAny_newObj_type
def WQ:=@wpAny_rule
def WR:=@List.getElem?_append_left
def WS:=@List.map_set
def WT:=@List.flatten_append
def WU:=@wpAny_call
def WV:=@List.find?_cons
def WW:=@List.filter_nil
def WX:=@List.getElem?_drop
def WY:=@List.idxOf_lt_length_of_mem
def WZ:=@List.sublist_flatten_of_mem
def W0:=@Heap.get?_push_cases
def W1:=@List.mem_of_mem_take
def W2:=@wpAny_standAt
def W3:=@List.any_cons
def W4:=@List.forIn_cons
def W5:=@Nat.le_of_eq
def W6:=@wpAny_typeOf
def W7:=@List.mem_singleton
def W8:=@List.take_zero
def W9:=@wpAny_pyIter_enum
def Xa:=@List.nodup_append
def Xb:=@List.getElem?_set_self
def Xc:=@List.range_succ_eq_map
def Xd:=@List.drop_eq_nil_of_le
def Xe:=@List.length_singleton
def Xf:=@Array.getElem?_setIfInBounds_ne
def Xg:=@Nat.le_of_lt
def Xh:=@List.getElem?_set_ne
def Xi:=@wpAny_execs_nil
def Xj:=@Bool.eq_iff_iff
def Xk:=@List.of_mem_zip
def Xl:=@Option.map_some
def Xm:=@Nat.lt_trans
def Xn:=@wpAny_typeNameOfWhole_itemiter
def Xo:=@Nat.pow_le_pow_right
def Xp:=@List.nodup_cons
def Xq:=@Int.le_of_lt
def Xr:=@List.mem_of_mem_drop
def Xs:=@wpAny_typeNameOfWhole_keyiter
def Xt:=@Int.mul_le_mul_of_nonneg_left
def Xu:=@List.filterMap_cons
def Xv:=@Array.length_toList
def Xw:=@wpAny_isSubtype_exc
def Xx:=@List.map_congr_left
def Xy:=@wpAny_fieldsOf
def Xz:=@Nat.eq_zero_or_pos
def XA:=@Int.fdiv_eq_ediv_of_nonneg
def XB:=@wpAny_letOwnedTupleGo_enum
def XC:=@List.take_sublist
def XD:=@Option.isSome_map
def XE:=@List.take_add_one
def XF:=@wpAny_check_type_call_sub
def XG:=@wpAny_typeNameOf_itemiter
def XH:=@Array.getElem?_eq_getElem
def XI:=@List.mem_of_find?_eq_some
def XJ:=@Nat.add_comm
def XL:=@wpAny_comprehension_free
def XM:=@wpAny_typeNameOf_keyiter
def XO:=@wpAny_pyIter_zip
def XQ:=@List.any_map
def XR:=@Nat.zero_add
def XS:=@wpAny_pyNext_range_item
def XT:=@List.getElem?_replicate
def XU:=@Nat.add_sub_cancel_left
def XV:=@Nat.min_eq_left
def XW:=@List.mem_append
def XX:=@List.range_succ
def XY:=@wpAny_pyNext_list_item
def XZ:=@wpAny_pyIter_rangeiter
def X0:=@Array.getElem?_eq_none
def X1:=@wpAny_isTrue_Compare1
def X2:=@wpAny_pyIter_listiter
def X3:=@List.forIn_nil
def X4:=@wpAny_pyNext_zip_item
def X5:=@List.getElem?_toArray
def X6:=@wpAny_notOrdered_dict
def X7:=@List.Perm.append_left
def X8:=@wpAny_newFunctionEnv
def X9:=@wpAny_check_new_subT
def Ya:=@List.all_cons
def Yb:=@List.map_take
def Yc:=@wpAny_dictSet_pairs
def Yd:=@List.length_take_le
def Ye:=@wpAny_Constant_int
def Yf:=@wpAny_pyIter_range
def Yg:=@List.all_map
def Yh:=@List.contains_cons
def Yi:=@Bool.or_true
def Yj:=@List.forIn_toArray
def Yk:=@Int.zero_mul
def Yl:=@wpAny_assign_Name
def Ym:=@Heap.Ns1.of_empty
def Yn:=@wpAny_Call_method
def Yo:=@Nat.le_succ_of_le
def Yp:=@wpAny_dictEntries
def Yq:=@Nat.lt_of_succ_lt
def Yr:=@Nat.lt_trichotomy
def Ys:=@List.getElem?_inj
def Yt:=@List.pairwise_map
def Yu:=@Int.mul_add
def Yv:=@wpAny_Name
end
namespace L2
theorem ex3 {α:Sort _}{a b:α->Prop}{G:Prop} (k:∀ x,a x->b x->G):(∃ x,a x/\b x)->G:=fun⟨x,h1,h2⟩=>k x h1 h2
theorem ex4 {α β:Sort _}{a b:α->β->Prop}{G:Prop} (k:∀ x y,a x y->b x y->G):(∃ x y,a x y/\b x y)->G:=fun⟨x,y,h1,h2⟩=>k x y h1 h2
theorem ex5 {α β:Sort _}{a b c:α->β->Prop}{G:Prop} (k:∀ x y,a x y->b x y->c x y->G):(∃ x y,a x y/\b x y/\c x y)->G:=fun⟨x,y,h1,h2,h3⟩=>k x y h1 h2 h3
end L2
namespace L2
open PySem PySem.Spec PyProof.Rows
theorem Tu:entryFor table "proto.unchain"=some Builtin.«proto.unchain»:=entryFor_of_tree (by kernel_rfl)
def nxt (cs:List Addr) (j:Nat):Value:=match cs[j]? with|none=>Value.none|some b=>Value.ref b
def Chn (h:Heap) (cs:List Addr):Prop:=cs.Nodup/\∀ j a,cs[j]?=some a->∃ o vs,h.get? a=some o/\o.data=.fields vs/\vs[2]?=some (nxt cs (j + 1))
def Hd (A:Around) (h:Heap):Prop:=A.handled=none\/∃ a cs,A.handled=some (.ref a)/\Chn h (a::cs)
theorem Hd.keeps {A:Around}{h h':Heap} (x:Hd A h) (k:∀ b o,h.get? b=some o->h'.get? b=some o):Hd A h':=by
 rcases x with e|⟨a,cs,e,nd,c⟩
 ·exact .inl e
 ·refine .inr ⟨a,cs,e,nd,fun j b hb=>?_⟩
  obtain⟨o,vs,ho,r⟩:=c j b hb;exact⟨o,vs,k b o ho,r⟩
theorem Hd.but {A:Around}{h h':Heap}{it:Addr}{oi:Obj} (x:Hd A h) (aI:h.get? it=some oi) (OG:∀ vs,oi.data=.fields vs->vs.size<3\/vs[2]?≠some Value.none/\∀ b,vs[2]?≠some (.ref b)) (k:∀ b o,b≠it->h.get? b=some o->h'.get? b=some o):Hd A h':=by
 rcases x with e|⟨a,cs,e,nd,c⟩
 ·exact .inl e
 ·refine .inr ⟨a,cs,e,nd,fun j b hb=>?_⟩
  obtain⟨o,vs,ho,hd,h2⟩:=c j b hb;refine⟨o,vs,k b o (fun z=>?_) ho,hd,h2⟩;subst z;rw[aI] at ho;cases ho
  rcases OG vs hd with q|⟨q1,q2⟩
  ·have:=(Array.getElem?_eq_some_iff.mp h2).1
   omega
  ·unfold nxt at h2
   cases hz:(a::cs)[j + 1]? with
   | none=>rw[hz] at h2;exact q1 h2
   | some y=>rw[hz] at h2;exact q2 y h2
section
variable {prog:Program}{w:World}{A:Around}{E:Value->Shared->Prop}{s:Shared}
theorem SW {cs:List Addr}{e:Addr}{R:Result->Shared->Prop} (c:Chn s.heap cs) (he:e∉cs) (hR:R (.ok (.ret .none)) s):∀ (n j i:Nat) (o sl:Addr) (tg:Bool),cs.length - j=n->cs[j]?=some o->cs[i]?=some sl->i<=j ->
  codeAny (model prog w) A (.builtin "proto.unchain" ⟨[.ref e,.ref o,.ref sl,.bool tg],[]⟩) R s:=by
 intro n
 induction n with
 | zero=>
  intro j i o sl tg hn hj _ _;have:=(List.getElem?_eq_some_iff.mp hj).1;omega
 | succ n ih=>
  intro j i o sl tg hn hj hi HM;obtain⟨oo,vs,ho,hd,h2⟩:=c.2 j o hj;refine codeAny_builtin Tu ?_;unfold Builtin.«proto.unchain»;refine oW (VF ho hd h2 ?_);cases hz:cs[j + 1]? with
  | none=>
   simp only[nxt,hz]
   rw[if_pos (by rfl)];refine oW (Vi (Vi ?_));exact hR
  | some b=>
   simp only[nxt,hz]
   have hb:b∈cs:=Vj hz;have ki:b≠e:=fun z=>he (z ▸ hb)
   have OF:b≠sl:=fun z=>by
    subst z;have e1:=List.getElem?_eq_some_iff.mp hz;have e2:=List.getElem?_eq_some_iff.mp hi;have lt:i<j + 1:=by omega
    exact(List.pairwise_iff_getElem.mp c.1) i (j + 1) e2.1 e1.1 lt (e2.2.trans e1.2.symm)
   rw[if_neg (by simp),if_neg (by simpa using ki),if_neg (by simpa using OF)];have Ph:∃ b',cs[i + 1]?=some b':=by
    have e1:=(List.getElem?_eq_some_iff.mp hz).1;exact⟨_,Vg (by omega)⟩
   obtain⟨b',Ie⟩:=Ph;cases tg with
   | false=>
    rw[if_neg (by simp)];refine oW (Vi (Vi ?_));exact(⟨Code.quiet_builtin _ (by decide +kernel),ih (j + 1) i b sl true (by omega) hz hi (by omega)⟩)
   | true=>
    rw[if_pos rfl];obtain⟨os,ws,OA,bp,et⟩:=c.2 i sl hi;simp only[nxt,Ie] at et
    refine oW (VF OA bp et (Vi ?_));exact(⟨Code.quiet_builtin _ (by decide +kernel),ih (j + 1) (i + 1) b b' false (by omega) hz Ie (by omega)⟩)
theorem Gm {α:Type}{e:Addr}{oe:Obj}{vs:Array Value}{Q:α->Shared->Prop} (hd:A.handled=none\/∃ a cs,A.handled=some (.ref a)/\Chn s.heap (a::cs)/\e∉a::cs) (he:s.heap.get? e=some oe) (hf:oe.data=.fields vs) (h2:2<vs.size)
  (h:∀ h' o' lX,(∀ b o,b≠e->s.heap.get? b=some o->h'.get? b=some o)->h'.get? e=some o'->o'.cls=oe.cls->o'.dict=oe.dict->o'.data=.fields lX->lX.size=vs.size->lX[1]?=vs[1]?->lX[2]?=(match A.handled with|none=>vs[2]?|some v=>some v)->E (.ref e) { s with heap:=h' }) :
  wpAny (model prog w) A (raiseNew (.ref e):Sem α) Q E s:=by
 unfold raiseNew;refine oW (wpAny_handled ?_);rcases hd with hn|⟨a,cs,ha,c,hin⟩
 ·rw[hn]
  exact oW (Vi (wpAny_throw (h s.heap oe vs (fun _ _ _ q=>q) he rfl rfl hf rfl rfl (by rw[hn]))))
 ·rw[ha]
  have MK:a≠e:=fun z=>hin (by simp[z])
  show wpAny _ _ (if (Value.ref a != Value.ref e)=true then _ else _) _ _ s;rw[if_pos (by simpa using MK)];refine oW (VJ (wpAny_runValue (SW c hin ?_ _ 0 0 a a false rfl rfl rfl (Vh _))));have up:=Obj.data_mapFields hf (·.setIfInBounds 2 (Value.ref a));refine oW (show wpAny _ _ (setField (.ref e) 2 (.ref a)) _ _ s from WC he hf h2 (wpAny_throw (h _ _ _ (fun b q hb hq=>(VB _ _ (Ne.symm hb)).trans hq) (VR _ he (Obj.isFreed_of_fields up)) (Obj.cls_mapFields _ _) ?_ up (by simp) ?_ ?_)))
  ·obtain⟨c1,d1,dt,sl⟩:=oe
   cases dt <;> rfl
  ·rw[Xf (by decide)]
  ·rw[ha];simp[h2]
theorem Chn.lt {h:Heap}{cs:List Addr} (c:Chn h cs):∀ b∈cs,b<h.objs.size:=fun b hb=>by
 obtain⟨j,hj⟩:=List.mem_iff_getElem?.mp hb;obtain⟨o,_,ho,_⟩:=c.2 j b hj;exact Vk ho
theorem Chn.mono {h h':Heap}{cs:List Addr} (c:Chn h cs) (k:∀ b o,b∈cs->h.get? b=some o->h'.get? b=some o):Chn h' cs:=⟨c.1,fun j a hj=>by
 obtain⟨o,vs,ho,r⟩:=c.2 j a hj;exact⟨o,vs,k a o (Vj hj) ho,r⟩⟩
theorem qQ {α:Type}{Q:α->Shared->Prop} (hd:Hd A s.heap)
  (h:∀ h' e,(∀ b o,s.heap.get? b=some o->h'.get? b=some o)->(∃ o',h'.get? e=some o'/\o'.cls=.type "StopIteration")->E (.ref e) { s with heap:=h' }) :
  wpAny (model prog w) A (newExc (.type "StopIteration") [] >>= fun e=>(raiseNew e:Sem α)) Q E s:=by
 refine oW ?_;unfold newExc newTuple;refine oW (WP ?_ (by size_fits));refine oW (m:=firstArgMember _ _) (Wl (a:=Value.none) (by first|rfl|(simp only[firstArgMember];rfl)) (WP ?_ (by size_fits)));refine Gm ?_ (Vm _ rfl) rfl (by simp;omega) fun h' o' lX k' e' c' _ _ _ _ _=>
  h h' _ (fun b o q=>k' b o (Vq (by rw[VI];exact V7 (Vk q))) (Ve _ (Ve _ q))) ⟨o',e',c'⟩
 rcases hd with hn|⟨a,cs,ha,c⟩
 ·exact .inl hn
 ·refine .inr ⟨a,cs,ha,c.mono fun b o _ q=>Ve _ (Ve _ q),fun z=>?_⟩
  have:=c.lt _ z;rw[VI] at this;exact absurd (Vy this (V8 _)) (VE _)
theorem KL {it l:Addr}{i:Nat} {items}{Q:Option Value->Shared->Prop} (hd:Hd A s.heap) (aI:s.heap.IsListIter it l i) (hl:s.heap.IsList l items) (hx:items[i]?=none)
  (hQ:∀ h',Heap.ExtBut it s.heap h'->Q none { s with heap:=h' }):wpAny (model prog w) A (pyNext (.ref it)) Q E s:=by
 obtain⟨o,ho,hc,au⟩:=id aI;obtain⟨ol,uM,_,nl,my⟩:=hl;unfold pyNext;refine oW (Wx (VP (name:=Str.ofString "__next__") aI.typeIs slot_listiter_next (V6 slot_listiter_next aI.typeIs entry_listiter_next ?_ (args_listiter_next _))));refine(show wpAny _ _ (field (.ref it) 0 >>= _) _ _ s from oW (VF ho au (x:=.ref l) rfl ?_));refine(show wpAny _ _ (if (Value.ref l == Value.none)=true then _ else _) _ _ s from ?_);rw[if_neg (by simp)];refine(show wpAny _ _ (field (.ref it) 1 >>= _) _ _ s from oW (VF ho au (x:=.int i 0) rfl ?_));refine(show wpAny _ _ (seqItems? (.ref l) >>= _) _ _ s from oW (VX uM my ?_));simp only[Vn,hx]
 refine oW (WQ (oW (WC ho au (by simp) ?_)));have sb:Heap.SameBut it s.heap (s.heap.update it (Obj.mapFields (·.setIfInBounds 0 Value.none))):=Heap.SameBut.update ..;refine qQ (A:=A.in1) (hd.but ho (fun vs q=>.inl (by rw[au] at q;cases q;simp)) sb.extBut) fun h' e k' ⟨o',e',c'⟩=>?_
 exact oW (Wu (T:="StopIteration") (b:=true) ⟨o',e',c'⟩ isSubtype_stop (Vi (hQ h' fun b q hb hq=>k' b q (sb.extBut b q hb hq))))
theorem Jr {it t:Addr}{i:Nat} {items}{Q:Option Value->Shared->Prop} (hd:Hd A s.heap) (aI:s.heap.IsTupleIter it t i) (ht:s.heap.IsTuple t items) (hx:items[i]?=none)
  (hQ:∀ h',Heap.ExtBut it s.heap h'->Q none { s with heap:=h' }):wpAny (model prog w) A (pyNext (.ref it)) Q E s:=by
 obtain⟨o,ho,hc,au⟩:=id aI;obtain⟨ol,uM,_,nl,my⟩:=ht;unfold pyNext;refine oW (Wx (VP (name:=Str.ofString "__next__") aI.typeIs F.slot_tuple_iterator_next (V6 F.slot_tuple_iterator_next aI.typeIs F.entry_tuple_iterator_next ?_ (F.args_tuple_iterator_next_1 _))));refine(show wpAny _ _ (field (.ref it) 0 >>= _) _ _ s from oW (VF ho au (x:=.ref t) rfl ?_));refine(show wpAny _ _ (if (Value.ref t == Value.none)=true then _ else _) _ _ s from ?_);rw[if_neg (by simp)];refine(show wpAny _ _ (field (.ref it) 1 >>= _) _ _ s from oW (VF ho au (x:=.int i 0) rfl ?_));refine(show wpAny _ _ (seqItems? (.ref t) >>= _) _ _ s from oW (VX uM my ?_));simp only[Vn,hx]
 refine oW (WQ (oW (WC ho au (by simp) ?_)));have sb:Heap.SameBut it s.heap (s.heap.update it (Obj.mapFields (·.setIfInBounds 0 Value.none))):=Heap.SameBut.update ..;refine qQ (A:=A.in1) (hd.but ho (fun vs q=>.inl (by rw[au] at q;cases q;simp)) sb.extBut) fun h' e k' ⟨o',e',c'⟩=>?_
 exact oW (Wu (T:="StopIteration") (b:=true) ⟨o',e',c'⟩ isSubtype_stop (Vi (hQ h' fun b q hb hq=>k' b q (sb.extBut b q hb hq))))
theorem LH {it:Addr}{x left step:Int}{Q:Option Value->Shared->Prop} (hd:Hd A s.heap) (aI:IsRangeIter s.heap it x left step) (xX:left<=0)
  (hQ:∀ h',Heap.ExtBut it s.heap h'->Q none { s with heap:=h' }):wpAny (model prog w) A (pyNext (.ref it)) Q E s:=by
 have hT:s.TypeIs (.ref it) "range_iterator":=⟨_,aI,rfl⟩;unfold pyNext;refine oW (Wx (VP (name:=Str.ofString "__next__") hT F.slot_range_iterator_next (V6 F.slot_range_iterator_next hT F.entry_range_iterator_next ?_ (F.args_range_iterator_next_1 _))));refine(show wpAny _ _ (field (.ref it) 0 >>= _) _ _ s from oW (VF aI rfl (x:=rawInt x) rfl ?_));refine(show wpAny _ _ (field (.ref it) 1 >>= _) _ _ s from oW (VF aI rfl (x:=rawInt left) rfl ?_));refine(show wpAny _ _ (field (.ref it) 2 >>= _) _ _ s from oW (VF aI rfl (x:=rawInt step) rfl ?_));refine(show wpAny _ _ (if left<=0 then _ else _) _ _ s from ?_);rw[if_pos xX];refine oW (WQ (oW ?_));refine qQ (A:=A.in1) hd fun h' e k' ⟨o',e',c'⟩=>?_
 exact oW (Wu (T:="StopIteration") (b:=true) ⟨o',e',c'⟩ isSubtype_stop (Vi (hQ h' fun b q _ hq=>k' b q hq)))
theorem Q2 {t:Addr}{items:Array Value}{Q:List Value->Shared->Prop} (hd:Hd A s.heap) (ht:IsTup s.heap t items)
  (hQ:∀ h',Heap.ExtBut s.heap.objs.size s.heap h'->Q items.toList { s with heap:=h' }):wpAny (model prog w) A (unpackItems (.ref t) items.size none) Q E s:=by
 have aE:t≠s.heap.objs.size:=by obtain⟨o,ho,_⟩:=ht;exact Vq (Vk ho)
 unfold unpackItems;refine oW ?_;unfold notIterableAtAll;refine oW (wpAny_specialOf ht.typeIs slot_tuple_iter.lookup (Vi ?_));simp only[V2,if_false]
 refine oW (VJ (iter_tuple ht (oW (VJ (draw_tuple aE items.size 0 _ _ ⟨_,Vm _ rfl,rfl,rfl⟩ (ht.push _) (by omega) fun h₁ Bx bA=>?_)))));rw[show List.take items.size (List.drop 0 items.toList)=items.toList by rw[List.drop_zero];exact VM (by simp)];rw[if_neg (by simp)];have Op:IsTup h₁ t items:=(ht.push _).extBut bA.extBut aE;have k₁:∀ b o,s.heap.get? b=some o->h₁.get? b=some o:=fun b o e=>bA.extBut b o (Vq (Vk e)) (Ve _ e)
 refine oW (VJ (Jr (hd.keeps k₁) Bx (show Heap.IsTuple h₁ t items from Op) (by simp) fun h₂ MP=>?_));simp only[Option.isSome_none,V2,if_false]
 exact Vi (hQ h₂ fun b o hb e=>MP b o hb (k₁ b o e))
theorem SO {env:Env}{kW:List Expr} {x1}{pos:Pos}{t:Addr}{items:Array Value}{Q:Unit->Shared->Prop} (hd:Hd A s.heap) (ht:IsTup s.heap t items) (hn:(assignEach kW env).length=items.size) (wc:(assignEach kW env).findIdx? (·.1)=none)
  (h:∀ h',Heap.ExtBut s.heap.objs.size s.heap h'->wpAny (model prog w) A (assignInOrder ((assignEach kW env).map (·.2)) items.toList) Q E { s with heap:=h' }):wpAny (model prog w) A (assign (.Tuple kW x1 pos) env (.ref t)) Q E s:=by
 rw[assign_Tuple];refine oW (W2 ?_);unfold unpack;rw[hn,wc];exact oW (VJ (Q2 hd ht h))
end
end L2
namespace L2
open PySem PySem.Spec PyProof.Rows
abbrev Key:=Sum Int Str
def qf:Key->Value->Bool
 | .inl k,v=>Value.isInt k v
 | .inr x,v=>Value.isStrOf x v
def keyH (w:World):Key->Int
 | .inl k=>hashInt k
 | .inr x=>hashStr w x
theorem jW:∀ {k:Key}{v:Value},qf k v=true->(∃ i t,k=Sum.inl i/\v=Value.int i t)\/(∃ x t,k=Sum.inr x/\v=Value.str x t)
 | .inl i,v,h=>by
  obtain⟨t,e⟩:=Value.isInt_shape (k:=i) (v:=v) h;exact .inl ⟨i,t,rfl,e⟩
 | .inr x,v,h=>by
  obtain⟨t,e⟩:=Value.isStrOf_shape (x:=x) (v:=v) h;exact .inr ⟨x,t,rfl,e⟩
theorem Ug (i:Int) (t:Tok):qf (.inl i) (.int i t)=true:=by simp[qf,Value.isInt]
theorem S4 (x:Str) (t:Tok):qf (.inr x) (.str x t)=true:=by simp[qf,Value.isStrOf]
theorem key_ll (a b:Int):decide ((Sum.inl a:Key)=Sum.inl b)=(a == b):=by
 by_cases e:a=b
 ·subst e;simp
 ·have h:¬ (Sum.inl a:Key)=Sum.inl b:=fun q=>e (Sum.inl.inj q)
  rw[V5 h];exact(beq_eq_false_iff_ne.mpr e).symm
theorem key_rr (a b:Str):decide ((Sum.inr a:Key)=Sum.inr b)=decide (a=b):=by
 by_cases e:a=b
 ·subst e;simp
 ·have h:¬ (Sum.inr a:Key)=Sum.inr b:=fun q=>e (Sum.inr.inj q)
  rw[V5 h,V5 e]
theorem key_lr (a:Int) (b:Str):decide ((Sum.inl a:Key)=Sum.inr b)=false:=V5 (fun q=>nomatch q)
theorem key_rl (a:Str) (b:Int):decide ((Sum.inr a:Key)=Sum.inl b)=false:=V5 (fun q=>nomatch q)
def cr (prog:Program) (w:World):PySem.KeyKind prog w Key where
 is:=qf
 hash:=keyH w
 inj:=fun v a b ha hb=>by
  rcases jW ha with⟨i,t,rfl,rfl⟩|⟨x,t,rfl,rfl⟩
  ·rcases jW hb with⟨j,u,rfl,e⟩|⟨y,u,rfl,e⟩
   ·injection e with e1 _;rw[e1]
   ·exact nomatch e
  ·rcases jW hb with⟨j,u,rfl,e⟩|⟨y,u,rfl,e⟩
   ·exact nomatch e
   ·injection e with e1 _;rw[e1]
 byValue:=fun k v h=>by
  rcases jW h with⟨i,t,rfl,rfl⟩|⟨x,t,rfl,rfl⟩ <;> rfl
 pyHash:=fun hv h=>by
  rcases jW hv with⟨i,t,rfl,rfl⟩|⟨x,t,rfl,rfl⟩
  ·exact wpAny_pyHash_int h
  ·exact wpAny_pyHash_str h
 eqBool:=fun hu hv h=>by
  rcases jW hu with⟨i,t,rfl,rfl⟩|⟨x,t,rfl,rfl⟩
  ·rcases jW hv with⟨j,u,rfl,rfl⟩|⟨y,u,rfl,rfl⟩
   ·rw[key_ll] at h;exact wpAny_eqBool_int h
   ·rw[key_lr] at h;exact SeqAt.EqAt.int_str i t y u _ _ _ _ h
  ·rcases jW hv with⟨j,u,rfl,rfl⟩|⟨y,u,rfl,rfl⟩
   ·rw[key_rl] at h;exact SeqAt.EqAt.str_int x t j u _ _ _ _ h
   ·rw[key_rr] at h;exact wpAny_eqBool_str h
 «strs»:=fun k x t v h=>by
  rcases jW h with⟨i,u,rfl,e⟩|⟨y,u,rfl,e⟩
  ·exact nomatch e
  ·injection e with e1 _
   subst e1;cases v <;> rfl
theorem Rm (prog:Program) (w:World) (i:Int) (t:Tok):(cr prog w).is (.inl i) (.int i t)=true:=Ug i t
theorem QT (prog:Program) (w:World) (x:Str) (t:Tok):(cr prog w).is (.inr x) (.str x t)=true:=S4 x t
end L2
namespace L2
open PySem PySem.Spec PyProof.Rows
set_option genInjectivity true
inductive V where
 | non | bl (b:Bool) | int (i:Int) | str (x:Str) | byt (b:Array UInt8) | flt (b:UInt64) | ref (a:Addr) | ty (n:String)
 deriving DecidableEq
set_option genInjectivity false
def av:V->Value->Prop
 | .non,u=>u=Value.none
 | .bl b,u=>u=Value.bool b
 | .int i,u=>∃ t,u=Value.int i t
 | .str x,u=>∃ t,u=Value.str x t
 | .byt b,u=>∃ t,u=Value.bytes b t
 | .flt b,u=>∃ t,u=Value.float b t
 | .ref a,u=>u=Value.ref a
 | .ty n,u=>u=Value.type n
abbrev aw:List V->List Value->Prop:=Paired av
theorem aw.length {xs:List V}{us:List Value} (r:aw xs us):xs.length=us.length:=Paired.length r
theorem aw.get:∀ {xs:List V}{us:List Value}{i:Nat}{x:V},aw xs us->xs[i]?=some x->∃ u,us[i]?=some u/\av x u
 | _,_,_,_,.nil,e=>by simp at e
 | _,_,0,_,.cons r _,e=>by simp at e;subst e;exact⟨_,rfl,r⟩
 | _,_,i + 1,x,.cons _ t,e=>by
  obtain⟨u,h1,h2⟩:=aw.get (i:=i) (x:=x) t (by simpa using e);exact⟨u,by simpa using h1,h2⟩
theorem aw.set {x:V}{u:Value} (r:av x u):∀ {xs:List V}{us:List Value} (i:Nat),aw xs us->aw (xs.set i x) (us.set i u)
 | _,_,_,.nil=>.nil
 | _,_,0,.cons _ t=>.cons r t
 | _,_,i + 1,.cons q t=>.cons q (aw.set r i t)
theorem aw.append:∀ {xs ys:List V}{us ws:List Value},aw xs us->aw ys ws->aw (xs++ys) (us++ws)
 | _,_,_,_,.nil,s=>s
 | _,_,_,_,.cons r t,s=>.cons r (aw.append t s)
theorem aw.take:∀ {xs:List V}{us:List Value} (n:Nat),aw xs us->aw (xs.take n) (us.take n)
 | _,_,0,_=>.nil
 | _,_,_ + 1,.nil=>.nil
 | _,_,n + 1,.cons r t=>.cons r (aw.take n t)
theorem aw.drop:∀ {xs:List V}{us:List Value} (n:Nat),aw xs us->aw (xs.drop n) (us.drop n)
 | _,_,0,r=>r
 | _,_,_ + 1,.nil=>.nil
 | _,_,n + 1,.cons _ t=>aw.drop n t
def dJ:Option V->Option Value->Prop
 | some v,some u=>av v u
 | none,none=>True
 | _,_=>False
def KV {κ:Type}:List (κ×V)->List (κ×Value)->Prop:=Paired fun(p:κ×V) (q:κ×Value)=>p.1=q.1/\av p.2 q.2
def kV:Key->V
 | .inl i=>.int i
 | .inr x=>.str x
inductive HO where
 | lst (xs:List V)
 | tup (xs:List V)
 | dK (kvs:List (Key×V)) | dT (kvs:List (List Key×V))
 | set (S:Int->Bool) (n:Nat)
 | ins (C dx:Addr) (fs:List (Str×V))
 | own (x:Addr)
 | xd (fs:List (Str×V))
 | met (f x:Addr)
 | rng (lo hi:Int)
 | frz (o:Obj) (u:HO)
 | tbl (pos:Pos) (qual:Str)
 | ext (φ:Heap->Prop)
abbrev Hp:=Addr->Option HO
def upd (H:Hp) (a:Addr) (o:HO):Hp:=fun b=>if b=a then some o else H b
theorem af {H:Hp}{a:Addr}{o:HO}:upd H a o a=some o:=by unfold upd;rw[if_pos rfl]
theorem aj {H:Hp}{a b:Addr}{o:HO} (h:b≠a):upd H a o b=H b:=by unfold upd;rw[if_neg h]
theorem pS {H:Hp}{a b:Addr}{o u:HO} (h:H a=some o) (h':H b=some u) (d:o≠u):a≠b:=by
 intro e;subst e;rw[h] at h';exact d (Option.some.inj h')
theorem ap {H:Hp}{a b:Addr}{o:HO} (h:H a=some o) (h':H b=none):a≠b:=by
 intro e;subst e;rw[h] at h';cases h'
section
variable (P:Program) (w:World)
def cY (H:Hp) (h:Heap) (a:Addr):HO->Prop
 | .lst xs=>xs.length<=sizeLine/\∃ (its:List Value) (n:Nat),aw xs its/\h.get? a=some { cls:=.type "list",data:=.seq its.toArray n }
 | .tup xs=>xs.length<=sizeLine/\∃ its:List Value,aw xs its/\IsTup h a its.toArray
 | .dK kvs=>kvs.length<=sizeLine/\(a == sysModules)=false/\∃ vs,KV kvs vs/\h.DictOf (cr P w) a vs
 | .dT kvs=>kvs.length<=sizeLine/\(a == sysModules)=false/\∃ xs:List (List Key×Addr×Value),
   Paired (fun(p:List Key×V) (q:List Key×Addr×Value)=>p.1=q.1/\H q.2.1=some (.tup (p.1.map kV))/\av p.2 q.2.2) kvs xs /\
   ∃ o es ep,h.get? a=some o/\o.ExactDict/\o.data=.dict es ep/\es.toList=xs.map (entryOfKey (tupleKind (cr P w)))/\(xs.map (·.1)).Nodup
 | .set S n=>h.SetOf (intKind P w) a S n
 | .ins C dx fs=>H dx=some (.own a)/\fs.length<=1000/\dx≠a/\h.get? a=some (PySem.W.instObj C dx) /\
   ∃ mA,h.Ns1 dx mA/\(∀ f,dJ (fs.lookup f) (mA f))/\PySem.Within mA (fs.map (·.1))
 | .own _=>∃ o,h.get? a=some o
 | .xd fs=>∃ mA,h.Ns1 a mA/\∀ f,dJ (fs.lookup f) (mA f)
 | .rng lo hi=>∃ t u v,h.get? a=some { cls:=.type "range",data:=.fields #[.int lo t,.int hi u,.int 1 v] }
 | .frz o u=>h.get? a=some o/\cY H h a u
 | .tbl pos qual=>h.get? a=some { cls:=.none,data:=.fields #[] }\/∃ c oc vs t,H c=some (.frz oc (.own a))/\oc.data=.fields vs/\vs[1]?=some (.str qual t)/\h.get? a=some { cls:=.none,data:=.fields #[rawInt pos.line,rawInt pos.col,.ref c] }
 | .met f x=>h.get? a=some (PySem.W.methodObj (.ref f) (.ref x))
 | .ext φ=>φ h/\(∃ o,h.get? a=some o)/\∀ h1 h2:Heap,φ h1->(∀ o,h1.get? a=some o->h2.get? a=some o)->φ h2
def HOk (H:Hp) (h:Heap):Prop:=∀ a o,H a=some o->cY P w H h a o
end
section
variable {P:Program}{w:World}{H H':Hp}{h h':Heap}{a:Addr}{o:HO}
theorem cY.lt (x:cY P w H h a o):a<h.objs.size:=by
 cases o with
 | lst xs=>obtain⟨_,_,_,_,e⟩:=x;exact Vk e
 | tup xs=>obtain⟨_,_,_,p⟩:=x;exact p.lt
 | dK kvs=>obtain⟨_,_,_,_,o,_,_,e,_⟩:=x;exact Vk e
 | dT kvs=>obtain⟨_,_,_,_,o,_,_,e,_⟩:=x;exact Vk e
 | set S n=>obtain⟨o,_,_,_,e,_⟩:=x;exact Vk e
 | ins C dx fs=>obtain⟨_,_,_,e,_⟩:=x;exact Vk e
 | own y=>obtain⟨_,e⟩:=x;exact Vk e
 | xd fs=>obtain⟨_,⟨_,_,_,e,_⟩,_⟩:=x;exact Vk e
 | rng lo hi=>obtain⟨_,_,_,e⟩:=x;exact Vk e
 | frz ob u=>obtain⟨e,_⟩:=x;exact Vk e
 | tbl pos qual=>
  rcases x with e|⟨_,_,_,_,_,_,_,e⟩
  ·exact Vk e
  ·exact Vk e
 | met f y=>exact Vk (show h.get? a=some _ from x)
 | ext φ=>obtain⟨_,⟨_,e⟩,_⟩:=x;exact Vk e
theorem Paired.mapP {α β:Type}{F G:α->β->Prop}:∀ {l₁:List α}{l₂:List β},Paired F l₁ l₂->(∀ a b,F a b->G a b)->Paired G l₁ l₂
 | _,_,.nil,_=>.nil
 | _,_,.cons r t,f=>.cons (f _ _ r) (Paired.mapP t f)
theorem cY.stay (x:cY P w H h a o) (k:∀ b u,(b=a\/H b=some (.own a))->h.get? b=some u->h'.get? b=some u)
  (ho:∀ b,H b=some (.own a)->H' b=some (.own a)) (ht:∀ b xs,H b=some (.tup xs)->H' b=some (.tup xs)) (hf:∀ b ob,H b=some (.frz ob (.own a))->H' b=some (.frz ob (.own a)):=by exact fun _ _ q=>q):cY P w H' h' a o:=by
 induction o with
 | lst xs=>obtain⟨z,its,n,r,e⟩:=x;exact⟨z,its,n,r,k _ _ (.inl rfl) e⟩
 | tup xs=>obtain⟨z,its,r,ob,e,c⟩:=x;exact⟨z,its,r,ob,k _ _ (.inl rfl) e,c⟩
 | dK kvs=>obtain⟨z,y,vs,r,ob,es,ep,e,c⟩:=x;exact⟨z,y,vs,r,ob,es,ep,k _ _ (.inl rfl) e,c⟩
 | dT kvs=>
  obtain⟨z,y,xs,r,ob,es,ep,e,c⟩:=x;exact⟨z,y,xs,Paired.mapP r fun p q z=>⟨z.1,ht _ _ z.2.1,z.2.2⟩,ob,es,ep,k _ _ (.inl rfl) e,c⟩
 | set S n=>obtain⟨ob,es,ep,t,e,c⟩:=x;exact⟨ob,es,ep,t,k _ _ (.inl rfl) e,c⟩
 | ins C dx fs=>
  obtain⟨d,z,ne,e,mA,⟨od,es,ep,e2,c⟩,r⟩:=x;exact⟨ho _ d,z,ne,k _ _ (.inl rfl) e,mA,⟨od,es,ep,k _ _ (.inr d) e2,c⟩,r⟩
 | own y=>obtain⟨ob,e⟩:=x;exact⟨ob,k _ _ (.inl rfl) e⟩
 | xd fs=>obtain⟨mA,⟨od,es,ep,e,c⟩,r⟩:=x;exact⟨mA,⟨od,es,ep,k _ _ (.inl rfl) e,c⟩,r⟩
 | rng lo hi=>obtain⟨t,u,v,e⟩:=x;exact⟨t,u,v,k _ _ (.inl rfl) e⟩
 | frz ob u ih=>obtain⟨e,q⟩:=x;exact⟨k _ _ (.inl rfl) e,ih q⟩
 | tbl pos qual=>
  rcases x with e|⟨c,oc,vs,t,e1,e2,e3,e⟩
  ·exact .inl (k a _ (.inl rfl) e)
  ·exact .inr ⟨c,oc,vs,t,hf c oc e1,e2,e3,k a _ (.inl rfl) e⟩
 | met f y=>
  have e:h.get? a=some (PySem.W.methodObj (.ref f) (.ref y)):=x;show h'.get? a=some (PySem.W.methodObj (.ref f) (.ref y));exact k a _ (.inl rfl) e
 | ext φ=>obtain⟨p,⟨o,e⟩,st⟩:=x;exact⟨st _ _ p fun o q=>k _ _ (.inl rfl) q,⟨o,k _ _ (.inl rfl) e⟩,st⟩
theorem HOk.lt (x:HOk P w H h) (e:H a=some o):a<h.objs.size:=(x a o e).lt
theorem HOk.fresh (x:HOk P w H h) (e:h.objs.size<=a):H a=none:=by
 cases q:H a with
 | none=>rfl
 | some u=>exact absurd (Vy (x.lt q) e) (VE _)
theorem HOk.kept (x:HOk P w H h) (k:∀ b u,h.get? b=some u->h'.get? b=some u):HOk P w H h':=fun a o e=>
 (x a o e).stay (fun b u _ q=>k b u q) (fun _ q=>q) fun _ _ q=>q
theorem HOk.laid (x:HOk P w H h) (k:∀ b u,h.get? b=some u->h'.get? b=some u) (hp:h.objs.size<=a) (new:cY P w (upd H a o) h' a o):HOk P w (upd H a o) h':=fun b u e=>by
 have hn:=x.fresh hp;by_cases hb:b=a
 ·subst hb;rw[af] at e;cases e;exact new
 ·rw[aj hb] at e
  exact(x b u e).stay (fun c v _ q=>k c v q) (fun c q=>by rw[aj (ap q hn)];exact q) (fun c xs q=>by rw[aj (ap q hn)];exact q) fun c ob q=>by rw[aj (ap q hn)];exact q
end
def Rd (H:Hp) (a:Addr) (u:HO):Prop:=H a=some u\/∃ o,H a=some (.frz o u)
theorem Rd.ok {P:Program}{w:World}{H:Hp}{h:Heap}{a:Addr}{u:HO} (r:Rd H a u) (x:HOk P w H h):cY P w H h a u:=by
 rcases r with r|⟨o,r⟩
 ·exact x a u r
 ·obtain⟨_,q⟩:=x a _ r
  exact q
def Mut:Option HO->Prop
 | some (.lst _)=>True
 | some (.dK _)=>True
 | some (.dT _)=>True
 | some (.set _ _)=>True
 | some (.ins _ _ _)=>True
 | some (.ext _)=>True
 | _=>False
section
variable {P:Program}{w:World}{H:Hp}{h h':Heap}{x e:Addr}{o':HO}
theorem HOk.write (ok:HOk P w H h) (mu:Mut (H x)) (he:e=x\/H e=some (.own x)) (k:∀ b u,b≠e->h.get? b=some u->h'.get? b=some u) (qL:∃ u,h'.get? e=some u)
  (new:cY P w (upd H x o') h' x o'):HOk P w (upd H x o') h':=fun b u q=>by
 have sx:∀ c y,H c=some (.own y)->c≠x:=fun c y r z=>by subst z;rw[r] at mu;exact mu
 have CD:∀ c xs,H c=some (.tup xs)->c≠x:=fun c xs r z=>by subst z;rw[r] at mu;exact mu
 by_cases hb:b=x
 ·subst hb;rw[af] at q;cases q;exact new
 ·rw[aj hb] at q
  by_cases ki:b=e
  ·have q':H b=some (.own x):=by
    rcases he with z|z
    ·exact absurd (ki.trans z) hb
    ·rw[ki];exact z
   rw[q] at q';cases q'
   obtain⟨v,hv⟩:=qL;exact⟨v,by rw[ki];exact hv⟩
  ·refine(ok b u q).stay (fun c v hc r=>k c v ?_ r) (fun c r=>by rw[aj (sx c b r)];exact r) (fun c xs r=>by rw[aj (CD c xs r)];exact r) fun c ob r=>by rw[aj (fun z=>by subst z;rw[r] at mu;exact mu)];exact r
   rcases hc with rfl|hc
   ·exact ki
   ·rintro rfl
    rcases he with z|z
    ·exact sx c b hc z
    ·rw[hc] at z;cases z;exact hb rfl
end
structure Un (fs ex:List Addr) (H H':Hp) (h h':Heap):Prop where
 keep:∀ b o,h.get? b=some o->H b=none->b∉fs->b∉ex->h'.get? b=some o
 slot:∀ b o,h.get? b=some o->H b=none->b∈fs->b∉ex->∃ sl,h'.get? b=some { o with slots:=sl }
 free:∀ b o,h.get? b=some o->H b=none->b∉ex->H' b=none
 there:∀ b o,h.get? b=some o->b∉ex->∃ o',h'.get? b=some o'
 tups:∀ b xs,H b=some (.tup xs)->H' b=some (.tup xs)
 frzs:∀ b o u,H b=some (.frz o u)->H' b=some (.frz o u)
 tbls:∀ b p q,H b=some (.tbl p q)->H' b=some (.tbl p q)
section
variable {fs PD ex Gv:List Addr}{H H1 H2:Hp}{h h1 h2 h':Heap}{a x e:Addr}{o:HO}
theorem Un.any (u:Un fs ex H H1 h h1){b:Addr}{ob:Obj} (q:h.get? b=some ob) (n:H b=none) (hx:b∉ex):∃ sl,h1.get? b=some { ob with slots:=sl }:=by
 by_cases hb:b∈fs
 ·exact u.slot b ob q n hb hx
 ·exact⟨ob.slots,u.keep b ob q n hb hx⟩
theorem Un.trans (a:Un fs ex H H1 h h1) (b:Un fs ex H1 H2 h1 h2):Un fs ex H H2 h h2 where
 keep:=fun c ob q n hc hx=>b.keep c ob (a.keep c ob q n hc hx) (a.free c ob q n hx) hc hx
 slot:=fun c ob q n hc hx=>by
  obtain⟨sl,e1⟩:=a.slot c ob q n hc hx;obtain⟨DV,e2⟩:=b.slot c _ e1 (a.free c ob q n hx) hc hx;exact⟨DV,e2⟩
 free:=fun c ob q n hx=>by
  obtain⟨o',e1⟩:=a.there c ob q hx;exact b.free c o' e1 (a.free c ob q n hx) hx
 there:=fun c ob q hx=>by
  obtain⟨o',e1⟩:=a.there c ob q hx;exact b.there c o' e1 hx
 tups:=fun c xs q=>b.tups c xs (a.tups c xs q)
 frzs:=fun c ob xs q=>b.frzs c ob xs (a.frzs c ob xs q)
 tbls:=fun c p q z=>b.tbls c p q (a.tbls c p q z)
theorem Un.kept (k:∀ b u,h.get? b=some u->h'.get? b=some u):Un fs ex H H h h':=
 ⟨fun b ob q _ _ _=>k b ob q,fun b ob q _ _ _=>⟨ob.slots,k b ob q⟩,fun _ _ _ n _=>n,fun b ob q _=>⟨ob,k b ob q⟩,fun _ _ q=>q,fun _ _ _ q=>q,fun _ _ _ q=>q⟩
theorem Un.refl:Un fs ex H H h h:=Un.kept fun _ _ q=>q
theorem Un.laid (k:∀ b u,h.get? b=some u->h'.get? b=some u) (hp:h.objs.size<=a) (hn:H a=none):Un fs ex H (upd H a o) h h' where
 keep:=fun b u q _ _ _=>k b u q
 slot:=fun b u q _ _ _=>⟨u.slots,k b u q⟩
 free:=fun b u q n _=>by rw[aj (Vq (Vy (Vk q) hp))];exact n
 there:=fun b u q _=>⟨u,k b u q⟩
 tups:=fun b xs q=>by rw[aj (ap q hn)];exact q
 frzs:=fun b u xs q=>by rw[aj (ap q hn)];exact q
 tbls:=fun b p r q=>by rw[aj (ap q hn)];exact q
theorem Un.write (mu:Mut (H x)) (he:e=x\/H e=some (.own x)) (k:∀ b u,b≠e->h.get? b=some u->h'.get? b=some u) (qL:∃ u,h'.get? e=some u):Un fs ex H (upd H x o) h h':=by
 have hx:∀ b,H b=none->b≠x:=fun b n z=>by subst z;rw[n] at mu;exact mu
 have hb:∀ b,H b=none->b≠e:=fun b n z=>by
  subst z;rcases he with r|r
  ·exact hx b n r
  ·rw[n] at r;cases r
 have hm:∀ b u,H b=some u->¬ Mut (some u)->b≠x:=fun b u q nm z=>by subst z;rw[q] at mu;exact nm mu
 refine⟨fun b u q n _ _=>k b u (hb b n) q,fun b u q n _ _=>⟨u.slots,k b u (hb b n) q⟩,fun b u q n _=>by rw[aj (hx b n)];exact n,fun b u q _=>?_,
  fun b xs q=>by rw[aj (hm b _ q fun z=>z)];exact q,fun b u xs q=>by rw[aj (hm b _ q fun z=>z)];exact q,fun b p r q=>by rw[aj (hm b _ q fun z=>z)];exact q⟩
 by_cases ki:b=e
 ·subst ki;exact qL
 ·exact⟨u,k b u ki q⟩
end
def trk (h:Heap) (H:Hp):List Addr:=(List.range h.objs.size).filter fun a=>(H a).isSome
def nk (h:Heap) (H:Hp):Heap:=PySem.W.hideAll h (trk h H)
theorem Qa (h:Heap) (H:Hp):(nk h H).objs.size=h.objs.size:=PySem.W.hideAll_size _ _
theorem Fr {h:Heap}{H:Hp}{b:Addr}{o:Obj} (e:h.get? b=some o) (n:H b=none):(nk h H).get? b=some o:=
 PySem.W.hideAll_get _ e fun hm=>by
  have q:(H b).isSome=true:=(List.mem_filter.mp hm).2;rw[n] at q;simp at q
theorem QK {h:Heap}{H:Hp}{b:Addr}{o:Obj} (e:(nk h H).get? b=some o):h.get? b=some o/\H b=none:=by
 have e':h.get? b=some o:=PySem.W.of_hideAll (trk h H) e;refine⟨e',?_⟩;cases q:H b with
 | none=>rfl
 | some x=>
  have hm:b∈trk h H:=List.mem_filter.mpr ⟨List.mem_range.mpr (Vk e'),by simp[q]⟩;have z:(nk h H).get? b=none:=PySem.W.hideAll_none (trk h H) hm;rw[z] at e;cases e
def Qn (g h:Heap) (L:Addr):List (Addr×Obj):=(List.range h.objs.size).filterMap fun a=>if a=L\/(g.get? a).isSome=true then none else(h.get? a).map fun o=>(a,o)
def aP (g h:Heap) (L d:Addr):List (Addr×Obj):=(Qn g h L).filter fun p=>decide (p.1≠d)
end L2
namespace L2
open PySem PySem.Spec PyProof.Rows
structure Mod (K:PySem.W.Frag) (mg:Str->Option Value) (base:Heap):Prop where
 kin:K.In base
 glob:base.Ns mainGlobals mg
 blt:∃ mb,base.Ns builtinsNs mb/\∀ x:Str,x≠"__name__"->mb x=bootBuiltins x
 nolimit:base.NoLimit
 bmain:∃ bm ob,mg "__builtins__"=some (.ref bm)/\bm≠builtinsNs/\base.get? bm=some ob/\ob.cls=.type "module"/\ob.dict=some builtinsNs/\ob.data=.plain
structure Cx where
 prog:Program
 w:World
 K:PySem.W.Frag
 mg:Str->Option Value
 base:Heap
 A:Around
 N:List Str
 s₀:Shared
 H₀:Hp
 env:Env
 outer:List Env
 stack:List Env
 ex:List Addr
 fn:Str->Bool
 calm:Bool
 pn:List (Addr×Obj)
 xe:Value->Shared->Prop
def frs (l:List Env):List Addr:=l.filterMap (·.frame)
abbrev Cx.fs (X:Cx):List Addr:=frs X.outer
def Vis (sc:Scope) (x:Str):Prop:=sc.names.lookup x=some .local\/sc.names.lookup x=some .cell\/sc.names.lookup x=some .free
def Loc (sc:Scope) (x:Str):Prop:=sc.names.lookup x=some .local\/sc.names.lookup x=some .cell
def Look (env:Env) (h:Heap) (m:Str->Option Value) (x:Str) (u:Value):Prop:=
 (env.kindOf x=some .local/\m x=some u)\/((env.kindOf x=some .cell\/env.kindOf x=some .free)/\∃ c,env.cells.lookup x=some c/\h.IsCell c (some u))
def jF (H:Hp) (cs:List Addr):Prop:=cs.Nodup/\∀ j a,cs[j]?=some a->∃ o u vs,H a=some (.frz o u)/\o.data=.fields vs/\vs[2]?=some (nxt cs (j + 1))
def iB (A:Around) (H:Hp):Prop:=A.handled=none\/∃ a cs,A.handled=some (.ref a)/\jF H (a::cs)
structure Cx.Ok (X:Cx):Prop where
 mod:Mod X.K X.mg X.base
 kind:X.env.scope.kind=.function
 glob:X.env.globals=mainGlobals
 blt:X.env.builtins=builtinsNs
 above:X.s₀.heap.objs.size<=X.env.locals
 inj:∀ x y c,X.env.cells.lookup x=some c->X.env.cells.lookup y=some c->x=y
 has:∀ x,(X.env.kindOf x=some .cell\/X.env.kindOf x=some .free)->∃ c,X.env.cells.lookup x=some c
 cab:∀ x c,X.fn x=true->X.env.cells.lookup x=some c->X.s₀.heap.objs.size<=c
 hd:iB X.A X.H₀
 frames:X.A.frames=some X.stack
 stk:X.stack=X.outer\/(X.stack=X.env::X.outer/\X.env.frame=some X.env.locals)
 exf:∀ b∈X.ex,b≠X.env.locals/\∀ x c,X.env.cells.lookup x=some c->c≠b
 bs:∀ b o,X.base.get? b=some o->X.s₀.heap.get? b=some o/\X.H₀ b=none
 bsz:X.base.objs.size<=X.s₀.heap.objs.size
 noex:∀ b o,X.base.get? b=some o->b∉X.ex
 exfs:∀ b∈X.ex,b∉X.fs
 funs:X.s₀.heap.FunFrames X.base X.outer
 frf:∀ b∈X.fs,X.H₀ b=none
structure Inv (X:Cx) (aa:List (Addr×Obj)) (σ:List (Option V)) (H:Hp) (s:Shared):Prop where
 ok:X.Ok
 os:s.os=X.s₀.os
 bare:AllBare s.gens
 base:Un X.fs X.ex X.H₀ H X.s₀.heap s.heap
 loc:∃ m,s.heap.Ns X.env.locals m/\∀ (i:Nat) (x:Str) (v:V),X.N[i]?=some x->σ[i]?=some (some v)->Vis X.env.scope x->∃ u,av v u/\Look X.env s.heap m x u
 cell:∀ x c,X.env.cells.lookup x=some c->∃ v,s.heap.IsCell c v
 free:H X.env.locals=none
 freeC:∀ x c,X.env.cells.lookup x=some c->H c=none
 pin:∀ p∈X.pn++aa,s.heap.get? p.1=some p.2/\H p.1=none/\p.1≠X.env.locals/\p.1∉X.fs/\∀ v,p.2.data≠.cell v
 hok:HOk X.prog X.w H s.heap
 len:σ.length=X.N.length
section
variable {X:Cx}{aa:List (Addr×Obj)}{σ:List (Option V)}{H H':Hp}{s:Shared}{h':Heap}
theorem Cx.Ok.nofr (ok:X.Ok){b:Addr}{o:Obj} (e:X.base.get? b=some o):b∉X.fs:=fun hb=>by
 have:=(ok.funs.mem hb).1;rw[e] at this;cases this
theorem Inv.bs (I:Inv X aa σ H s):∀ b o,X.base.get? b=some o->s.heap.get? b=some o/\H b=none:=fun b o e=>
 ⟨I.base.keep b o (I.ok.bs b o e).1 (I.ok.bs b o e).2 (I.ok.nofr e) (I.ok.noex b o e),I.base.free b o (I.ok.bs b o e).1 (I.ok.bs b o e).2 (I.ok.noex b o e)⟩
theorem Inv.bk (I:Inv X aa σ H s):∀ b o,X.base.get? b=some o->s.heap.get? b=some o:=fun b o e=>(I.bs b o e).1
theorem Inv.mod (I:Inv X aa σ H s):Mod X.K X.mg X.base:=I.ok.mod
theorem Inv.kIn (I:Inv X aa σ H s):X.K.In s.heap:=I.ok.mod.kin.keeps I.bk
theorem jF.mono {cs:List Addr} (c:jF H cs) (k:∀ b o u,H b=some (.frz o u)->H' b=some (.frz o u)):jF H' cs:=⟨c.1,fun j a hj=>by
 obtain⟨o,u,vs,h,r⟩:=c.2 j a hj;exact⟨o,u,vs,k a o u h,r⟩⟩
theorem jF.chn {cs:List Addr}{P:Program}{w:World}{h:Heap} (c:jF H cs) (k:HOk P w H h):Chn h cs:=⟨c.1,fun j a hj=>by
 obtain⟨o,u,vs,q,r⟩:=c.2 j a hj;obtain⟨z,_⟩:=k a _ q;exact⟨o,vs,z,r⟩⟩
theorem jF.not_mem {cs:List Addr}{b:Addr} (c:jF H cs) (hb:H b=none):b∉cs:=fun z=>by
 obtain⟨j,hj⟩:=List.mem_iff_getElem?.mp z;obtain⟨o,u,vs,q,_⟩:=c.2 j b hj;rw[hb] at q;cases q
theorem iB.mono {A:Around} (x:iB A H) (k:∀ b o u,H b=some (.frz o u)->H' b=some (.frz o u)):iB A H':=by
 rcases x with e|⟨a,cs,e,c⟩
 ·exact .inl e
 ·exact .inr ⟨a,cs,e,c.mono k⟩
theorem Inv.hdAt (I:Inv X aa σ H s):iB X.A H:=I.ok.hd.mono I.base.frzs
theorem iB.hd {A:Around}{P:Program}{w:World}{h:Heap} (x:iB A H) (k:HOk P w H h):Hd A h:=by
 rcases x with e|⟨a,cs,e,c⟩
 ·exact .inl e
 ·exact .inr ⟨a,cs,e,c.chn k⟩
theorem iB.new {A:Around}{p:Addr}{u:HO} (x:iB A H) (hn:H p=none):iB A (upd H p u):=x.mono fun b o v q=>by rw[aj (ap q hn)];exact q
theorem Inv.hd (I:Inv X aa σ H s):Hd X.A s.heap:=I.hdAt.hd I.hok
theorem Inv.lt (I:Inv X aa σ H s):X.env.locals<s.heap.objs.size:=let ⟨_,hn,_⟩:=I.loc;hn.lt
theorem Inv.sz (I:Inv X aa σ H s):X.s₀.heap.objs.size<=s.heap.objs.size:=VL I.ok.above (Xg I.lt)
theorem Inv.nofs (I:Inv X aa σ H s){a:Addr} (h:s.heap.objs.size<=a):a∉X.fs:=fun hb=>by
 obtain⟨_,o,ho,_⟩:=I.ok.funs.mem hb;exact absurd (Vy (Vk ho) (VL I.sz h)) (VE _)
theorem Inv.cne (I:Inv X aa σ H s):∀ x c,X.env.cells.lookup x=some c->c≠X.env.locals:=fun x c e z=>by
 obtain⟨v,o,ho,hd⟩:=I.cell x c e;obtain⟨m,⟨o',es,ep,ib,cH,_⟩,_⟩:=I.loc;rw[z,ib] at ho;cases ho;rw[cH] at hd;cases hd
theorem Inv.funs (I:Inv X aa σ H s):s.heap.FunFrames X.base X.outer:=by
 have all:∀ (l:List Env),(∀ b∈frs l,b∈X.fs)->X.s₀.heap.FunFrames X.base l->s.heap.FunFrames X.base l:=by
  intro l
  induction l with
  | nil=>intro _ _;trivial
  | cons env r ih=>
   intro hs hl;obtain⟨hk,⟨L,o,hf,hn,ho,hd⟩,hr⟩:=hl;have hL:L∈X.fs:=hs L (by unfold frs;rw[Xu,hf];exact Vz);obtain⟨sl,e⟩:=I.base.slot L o ho (I.ok.frf L hL) hL fun z=>I.ok.exfs L z hL
   exact⟨hk,⟨L,_,hf,hn,e,hd⟩,ih (fun b hb=>hs b (by unfold frs;rw[Xu,hf];exact Vt _ hb)) hr⟩
 exact all X.outer (fun _ hb=>hb) I.ok.funs
theorem Inv.stack (I:Inv X aa σ H s):s.heap.FunFrames X.base X.stack:=by
 rcases I.ok.stk with e|⟨e,hf⟩
 ·rw[e];exact I.funs
 ·rw[e]
  obtain⟨m,hn,_⟩:=I.loc;refine .cons (by rw[I.ok.kind];decide) hf hn ?_ I.funs;exact Heap.get?_none_of_le (VL I.ok.bsz I.ok.above)
theorem Inv.stkSub (I:Inv X aa σ H s):∀ b∈frs X.stack,b∈X.env.locals::X.fs:=fun b hb=>by
 rcases I.ok.stk with e|⟨e,hf⟩
 ·rw[e] at hb;exact Vt _ hb
 ·rw[e] at hb
  unfold frs at hb;rw[Xu,hf] at hb;exact hb
theorem Inv.stkFree (I:Inv X aa σ H s):∀ b∈frs X.stack,H b=none:=fun b hb=>by
 rcases VH.mp (I.stkSub b hb) with e|hb
 ·rw[e];exact I.free
 ·obtain⟨_,o,ho,_⟩:=I.ok.funs.mem hb
  exact I.base.free b o ho (I.ok.frf b hb) fun z=>I.ok.exfs b z hb
theorem Inv.step {g':Array GenState}{t':Nat}{d':Drawn}{ch:List Addr} (I:Inv X aa σ H s)
  (eZ:∀ b∈ch,(b∈X.ex\/X.s₀.heap.objs.size<=b)/\b≠X.env.locals/\(∀ x c,X.env.cells.lookup x=some c->c≠b)/\∀ p∈X.pn++aa,p.1≠b)
  (keep:∀ b o,b≠X.env.locals->b∉X.fs->b∉ch->s.heap.get? b=some o->H b=none->h'.get? b=some o)
  (slot:∀ b o,b≠X.env.locals->b∈X.fs->b∉ch->s.heap.get? b=some o->H b=none->∃ sl,h'.get? b=some { o with slots:=sl }) (free:∀ b o,b∉ch->s.heap.get? b=some o->H b=none->H' b=none)
  (there:∀ b o,b∉ch->s.heap.get? b=some o->∃ o',h'.get? b=some o')
  (tups:∀ b xs,H b=some (.tup xs)->H' b=some (.tup xs)) (frzs:∀ b o u,H b=some (.frz o u)->H' b=some (.frz o u)) (tbls:∀ b p q,H b=some (.tbl p q)->H' b=some (.tbl p q))
  (ns:∀ m,s.heap.Ns X.env.locals m->h'.Ns X.env.locals m) (hok:HOk X.prog X.w H' h') (hg:AllBare g') :
  Inv X aa σ H' { s with heap:=h',gens:=g',drawn:=d',toks:=t' }:=by
 have HN:∀ b o,X.s₀.heap.get? b=some o->b≠X.env.locals:=fun b o e=>Vq (Vy (Vk e) I.ok.above)
 have z8:∀ b o,X.s₀.heap.get? b=some o->b∉X.ex->b∉ch:=fun b o e hx hb=>by
  rcases(eZ b hb).1 with z|z
  ·exact hx z
  ·exact absurd (Vy (Vk e) z) (VE _)
 have mS:∀ x c,X.env.cells.lookup x=some c->∀ v,s.heap.IsCell c v->h'.IsCell c v:=fun x c e v ⟨o,ho,hd⟩=>by
  have vf:c∉ch:=fun z=>(eZ c z).2.2.1 x c e rfl
  by_cases hc:c∈X.fs
  ·obtain⟨sl,q⟩:=slot c o (I.cne x c e) hc vf ho (I.freeC x c e)
   exact⟨_,q,hd⟩
  ·exact⟨o,keep c o (I.cne x c e) hc vf ho (I.freeC x c e),hd⟩
 refine⟨I.ok,I.os,hg,⟨fun b o e n hb hx=>?_,fun b o e n hb hx=>?_,fun b o e n hx=>?_,fun b o e hx=>?_,fun b xs e=>tups b xs (I.base.tups b xs e),fun b o xs e=>frzs b o xs (I.base.frzs b o xs e),fun b p q e=>tbls b p q (I.base.tbls b p q e)⟩,?_,fun x c e=>?_,?_,fun x c e=>?_,fun p hp=>?_,hok,I.len⟩
 ·exact keep b o (HN b o e) hb (z8 b o e hx) (I.base.keep b o e n hb hx) (I.base.free b o e n hx)
 ·obtain⟨sl,e1⟩:=I.base.slot b o e n hb hx
  obtain⟨DV,e2⟩:=slot b _ (HN b o e) hb (z8 b o e hx) e1 (I.base.free b o e n hx);exact⟨DV,e2⟩
 ·obtain⟨o',e1⟩:=I.base.there b o e hx
  exact free b o' (z8 b o e hx) e1 (I.base.free b o e n hx)
 ·obtain⟨o',e1⟩:=I.base.there b o e hx
  exact there b o' (z8 b o e hx) e1
 ·obtain⟨m,hn,hl⟩:=I.loc
  refine⟨m,ns m hn,fun i x v e1 e2 e3=>?_⟩;obtain⟨u,r,l⟩:=hl i x v e1 e2 e3;refine⟨u,r,?_⟩;rcases l with l|⟨k,c,e,z⟩
  ·exact .inl l
  ·exact .inr ⟨k,c,e,mS x c e _ z⟩
 ·obtain⟨v,z⟩:=I.cell x c e
  exact⟨v,mS x c e v z⟩
 ·obtain⟨m,⟨o,_,_,ho,_⟩,_⟩:=I.loc
  exact free _ o (fun z=>(eZ _ z).2.1 rfl) ho I.free
 ·obtain⟨v,o,ho,hd⟩:=I.cell x c e
  exact free c o (fun z=>(eZ c z).2.2.1 x c e rfl) ho (I.freeC x c e)
 ·obtain⟨e,n,ne,nf,d⟩:=I.pin p hp
  have vf:p.1∉ch:=fun z=>(eZ p.1 z).2.2.2 p hp rfl
  exact⟨keep p.1 p.2 ne nf vf e n,free p.1 p.2 vf e n,ne,nf,d⟩
theorem Inv.un {t':Nat} (I:Inv X aa σ H s) (u:Un X.fs [] H H' s.heap h') (hok:HOk X.prog X.w H' h'):Inv X aa σ H' { s with heap:=h',toks:=t' }:=by
 obtain⟨m,⟨o,es,ep,ho,r⟩,_⟩:=id I.loc;obtain⟨sl,hL⟩:=u.any ho I.free (by simp);exact I.step (g':=s.gens) (d':=s.drawn) (ch:=[]) (fun _ z=>nomatch z) (fun b o _ hb _ e n=>u.keep b o e n hb (by simp)) (fun b o _ hb _ e n=>u.slot b o e n hb (by simp)) (fun b o _ e n=>u.free b o e n (by simp)) (fun b o _ e=>u.there b o e (by simp)) u.tups u.frzs u.tbls (fun m' hm=>by
  obtain⟨o',gr,CI,ib,r'⟩:=hm;rw[ho] at ib;cases ib
  exact⟨_,gr,CI,hL,r'⟩) hok I.bare
theorem Inv.call {g':Array GenState}{t':Nat}{d':Drawn}{ch:List Addr} (I:Inv X aa σ H s) (u:Un (frs X.stack) ch H H' s.heap h') (hok:HOk X.prog X.w H' h') (hg:AllBare g')
  (eZ:∀ b∈ch,(b∈X.ex\/X.s₀.heap.objs.size<=b)/\b≠X.env.locals/\(∀ x c,X.env.cells.lookup x=some c->c≠b)/\∀ p∈X.pn++aa,p.1≠b) :
  Inv X aa σ H' { s with heap:=h',gens:=g',drawn:=d',toks:=t' }:=by
 obtain⟨m,⟨o,es,ep,ho,r⟩,_⟩:=id I.loc;obtain⟨sl,hL⟩:=u.any ho I.free fun z=>(eZ _ z).2.1 rfl
 exact I.step (ch:=ch) eZ (fun b o hL hb hc e n=>u.keep b o e n (fun z=>(VH.mp (I.stkSub b z)).elim hL hb) hc) (fun b o _ _ hc e n=>u.any e n hc) (fun b o hc e n=>u.free b o e n hc) (fun b o hc e=>u.there b o e hc) u.tups u.frzs u.tbls (fun m' hm=>by
  obtain⟨o',gr,CI,ib,r'⟩:=hm;rw[ho] at ib;cases ib
  exact⟨_,gr,CI,hL,r'⟩) hok hg
theorem Inv.turned {t':Nat}{it:Addr} (I:Inv X aa σ H s) (k:∀ b o,b≠it->s.heap.get? b=some o->h'.get? b=some o) (hn:H it=none) (hL:it≠X.env.locals)
  (h1:it∈X.ex\/X.s₀.heap.objs.size<=it) (h2:∀ x c,X.env.cells.lookup x=some c->c≠it) (h3:∀ p∈X.pn++aa,p.1≠it):Inv X aa σ H { s with heap:=h',toks:=t' }:=by
 have Gz:∀ b u,H b=some u->b≠it:=fun b u e z=>by rw[z,hn] at e;cases e
 refine I.step (g':=s.gens) (d':=s.drawn) (ch:=[it]) (fun b hb=>?_) (fun b o _ _ hc e _=>k b o (fun z=>hc (by simp[z])) e) (fun b o _ _ hc e _=>⟨o.slots,k b o (fun z=>hc (by simp[z])) e⟩) (fun _ _ _ _ n=>n)
  (fun b o hc e=>⟨o,k b o (fun z=>hc (by simp[z])) e⟩) (fun _ _ e=>e) (fun _ _ _ e=>e) (fun _ _ _ e=>e) (fun m hm=>?_) (fun b u e=>?_) I.bare
 ·have e:b=it:=by simpa using hb
  subst e;exact⟨h1,hL,h2,h3⟩
 ·obtain⟨o,es,ep,ho,r⟩:=hm
  exact⟨o,es,ep,k _ o (Ne.symm hL) ho,r⟩
 ·refine(I.hok b u e).stay (fun c v hc q=>k c v ?_ q) (fun _ q=>q) fun _ _ q=>q
  rcases hc with z|z
  ·rw[z];exact Gz b u e
  ·exact Gz c _ z
theorem Inv.tok (I:Inv X aa σ H s) (t:Nat):Inv X aa σ H { s with toks:=t }:=I.un (h':=s.heap) (t':=t) Un.refl I.hok
theorem Inv.kept {t':Nat} (I:Inv X aa σ H s) (k:∀ b u,s.heap.get? b=some u->h'.get? b=some u):Inv X aa σ H { s with heap:=h',toks:=t' }:=I.un (Un.kept k) (I.hok.kept k)
theorem Inv.laid {a:Addr}{o:HO}{t':Nat} (I:Inv X aa σ H s) (k:∀ b u,s.heap.get? b=some u->h'.get? b=some u) (hp:s.heap.objs.size<=a) (new:cY X.prog X.w (upd H a o) h' a o) :
  Inv X aa σ (upd H a o) { s with heap:=h',toks:=t' }:=I.un (Un.laid k hp (I.hok.fresh hp)) (I.hok.laid k hp new)
theorem Inv.write {x e:Addr}{o:HO}{t':Nat} (I:Inv X aa σ H s) (mu:Mut (H x)) (he:e=x\/H e=some (.own x)) (k:∀ b u,b≠e->s.heap.get? b=some u->h'.get? b=some u) (qL:∃ u,h'.get? e=some u)
  (new:cY X.prog X.w (upd H x o) h' x o):Inv X aa σ (upd H x o) { s with heap:=h',toks:=t' }:=I.un (Un.write mu he k qL) (I.hok.write mu he k qL new)
theorem Inv.pins_of {iL:List (Addr×Obj)} (I:Inv X aa σ H s) (h:∀ p∈iL,s.heap.get? p.1=some p.2/\H p.1=none/\p.1≠X.env.locals/\p.1∉X.fs/\∀ v,p.2.data≠.cell v):Inv X iL σ H s:=
 ⟨I.ok,I.os,I.bare,I.base,I.loc,I.cell,I.free,I.freeC,fun p hp=>(XW.mp hp).elim (fun z=>I.pin p (VN _ z)) (h p),I.hok,I.len⟩
theorem KK {N:List Str} (hN:N.Nodup){i j:Nat}{x:Str} (a:N[i]?=some x) (b:N[j]?=some x):i=j:=by
 obtain⟨h1,e1⟩:=List.getElem?_eq_some_iff.mp a;obtain⟨h2,e2⟩:=List.getElem?_eq_some_iff.mp b;exact(List.getElem_inj hN).mp (e1.trans e2.symm)
theorem Kj {M:Model}{A:Around}{E:Value->Shared->Prop}{i:Nat}{x:Str}{v:V}{u:Value}{Q:Unit->Shared->Prop} (I:Inv X aa σ H s) (hN:X.N.Nodup) (hi:X.N[i]?=some x) (hx:Loc X.env.scope x) (r:av v u)
  (h:∀ s',Inv X aa (σ.set i (some v)) H s'->(∃ a,Heap.SameBut a s.heap s'.heap/\(a=X.env.locals\/X.env.cells.lookup x=some a))->Q () s') (hf:X.fn x=true\/X.env.scope.names.lookup x=some .local:=by first|exact .inl rfl|exact .inr rfl|assumption):wpAny M A (storeName X.env x u) Q E s:=by
 obtain⟨m,hn,hl⟩:=id I.loc;have Cs:(X.env.scope.kind == .class || (X.env.scope.kind == .module && X.env.locals != X.env.globals))=false:=by rw[I.ok.kind];rfl
 have Ht:i<σ.length:=by rw[I.len];exact(List.getElem?_eq_some_iff.mp hi).1
 have cne:=I.cne;have gg:∀ {a:Addr}{h':Heap},(∃ o,s.heap.get? a=some o/\H a=none)->Heap.SameBut a s.heap h'->HOk X.prog X.w H h':=fun {a h'} ha hs b ob e=>by
  obtain⟨_,_,mD⟩:=ha;refine(I.hok b ob e).stay (fun c w' hc q=>(hs.2 c ?_).trans q) (fun _ q=>q) fun _ _ q=>q
  rintro rfl
  rcases hc with rfl|hc
  ·rw[mD] at e;cases e
  ·rw[mD] at hc;cases hc
 rcases hx with hk|hk
 ·refine wpAny_storeName_local hk hn (fun h' pj hs=>?_) Cs
  obtain⟨oL,_,_,MC,_⟩:=id hn;refine h _ ⟨I.ok,I.os,I.bare,⟨fun b o e n hb hx=>?_,fun b o e n hb hx=>?_,I.base.free,fun b o e hx=>?_,I.base.tups,I.base.frzs,I.base.tbls⟩,⟨_,pj,fun j y v' e1 e2 e3=>?_⟩,fun y c e=>?_,I.free,I.freeC,fun p hp=>?_,gg ⟨oL,MC,I.free⟩ hs,by simpa using I.len⟩ ⟨_,hs,.inl rfl⟩
  ·exact(hs.2 b (Vq (Vy (Vk e) I.ok.above))).trans (I.base.keep b o e n hb hx)
  ·obtain⟨sl,e1⟩:=I.base.slot b o e n hb hx
   exact⟨sl,(hs.2 b (Vq (Vy (Vk e) I.ok.above))).trans e1⟩
  ·obtain⟨o',e1⟩:=I.base.there b o e hx
   exact⟨o',(hs.2 b (Vq (Vy (Vk e) I.ok.above))).trans e1⟩
  ·by_cases hj:j=i
   ·subst hj
    rw[hi] at e1;cases e1
    rw[Xb Ht] at e2;cases e2
    exact⟨u,r,.inl ⟨hk,by simp⟩⟩
   ·rw[Xh (Ne.symm hj)] at e2
    obtain⟨u',r',q⟩:=hl j y v' e1 e2 e3;refine⟨u',r',?_⟩;rcases q with⟨k,e⟩|⟨k,c,e,z⟩
    ·refine .inl ⟨k,?_⟩
     have:y≠x:=fun e=>hj (KK hN e1 (e ▸ hi))
     simp[this,e]
    ·exact .inr ⟨k,c,e,z.sameBut hs (cne y c e)⟩
  ·obtain⟨w',z⟩:=I.cell y c e
   exact⟨w',z.sameBut hs (cne y c e)⟩
  ·obtain⟨e,n,ne,nf,d⟩:=I.pin p hp
   exact⟨(hs.2 p.1 ne).trans e,n,ne,nf,d⟩
 ·have BV:X.fn x=true:=by
   rcases hf with z|z
   ·exact z
   ·rw[z] at hk;cases hk
  obtain⟨c,hc⟩:=I.ok.has x (.inl hk);obtain⟨w',z⟩:=I.cell x c hc;refine wpAny_storeName_cell I.ok.kind hk hc z (fun h' kB hs=>?_);obtain⟨oc,ug,Ca⟩:=id z;refine h { s with heap:=h' } ⟨I.ok,I.os,I.bare,⟨fun b o e n hb hx=>?_,fun b o e n hb hx=>?_,I.base.free,fun b o e hx=>?_,I.base.tups,I.base.frzs,I.base.tbls⟩,⟨m,hn.sameBut hs (Ne.symm (cne x c hc)),fun j y v' e1 e2 e3=>?_⟩,fun y c' e=>?_,I.free,I.freeC,fun p hp=>?_,gg ⟨oc,ug,I.freeC x c hc⟩ hs,by simpa using I.len⟩ ⟨c,hs,.inr hc⟩
  ·exact(hs.2 b (Vq (Vy (Vk e) (I.ok.cab x c BV hc)))).trans (I.base.keep b o e n hb hx)
  ·obtain⟨sl,e1⟩:=I.base.slot b o e n hb hx
   exact⟨sl,(hs.2 b (Vq (Vy (Vk e) (I.ok.cab x c BV hc)))).trans e1⟩
  ·obtain⟨o',e1⟩:=I.base.there b o e hx
   exact⟨o',(hs.2 b (Vq (Vy (Vk e) (I.ok.cab x c BV hc)))).trans e1⟩
  ·by_cases hj:j=i
   ·subst hj
    rw[hi] at e1;cases e1
    rw[Xb Ht] at e2;cases e2
    exact⟨u,r,.inr ⟨.inl hk,c,hc,kB⟩⟩
   ·rw[Xh (Ne.symm hj)] at e2
    obtain⟨u',r',q⟩:=hl j y v' e1 e2 e3;refine⟨u',r',?_⟩;rcases q with q|⟨k,c',e,z'⟩
    ·exact .inl q
    ·refine .inr ⟨k,c',e,z'.sameBut hs ?_⟩
     rintro rfl
     exact hj (KK hN e1 (I.ok.inj _ _ _ e hc ▸ hi))
  ·by_cases IA:c'=c
   ·subst IA;exact⟨_,kB⟩
   ·obtain⟨w2,z2⟩:=I.cell y c' e
    exact⟨w2,z2.sameBut hs IA⟩
  ·obtain⟨e,n,ne,nf,d⟩:=I.pin p hp
   refine⟨(hs.2 p.1 ?_).trans e,n,ne,nf,d⟩;intro q;rw[q,ug] at e;have q':oc=p.2:=Option.some.inj e;exact d w' (by rw[<- q'];exact Ca)
theorem L7 {M:Model}{A:Around}{E:Value->Shared->Prop}{i:Nat}{x:Str}{v:V}{u:Value}{Q:Unit->Shared->Prop} (I:Inv X aa σ H s) (hN:X.N.Nodup) (hi:X.N[i]?=some x) (hx:Loc X.env.scope x) (r:av v u)
  (h:∀ s',Inv X aa (σ.set i (some v)) H s'->Q () s') (hf:X.fn x=true\/X.env.scope.names.lookup x=some .local:=by first|exact .inl rfl|exact .inr rfl|assumption):wpAny M A (storeName X.env x u) Q E s:=
 Kj I hN hi hx r (fun s' I' _=>h s' I') hf
theorem Inv.call' {s':Shared}{ch:List Addr} (I:Inv X aa σ H s) (ho:s'.os=s.os) (u:Un (frs X.stack) ch H H' s.heap s'.heap) (hok:HOk X.prog X.w H' s'.heap) (hg:AllBare s'.gens)
  (eZ:∀ b∈ch,(b∈X.ex\/X.s₀.heap.objs.size<=b)/\b≠X.env.locals/\(∀ x c,X.env.cells.lookup x=some c->c≠b)/\∀ p∈X.pn++aa,p.1≠b):Inv X aa σ H' s':=by
 obtain⟨h',g',d',t',o'⟩:=s';have e:o'=s.os:=ho;subst e;exact I.call (g':=g') (t':=t') (d':=d') u hok hg eZ
end
abbrev XK:=Value->Option Addr->Hp->Prop
abbrev St:=List (Option V)
abbrev VK:=V->Hp->Prop
abbrev TE:=St->Hp->VK->Prop
abbrev TT:=St->Hp->(Bool->Hp->Prop)->Prop
abbrev TA:=St->Hp->(List V->Hp->Prop)->Prop
structure gL where
 nx:St->Hp->Prop
 rt:VK
 bk:St->Hp->Prop:=fun _ _=>False
 ct:St->Hp->Prop:=fun _ _=>False
abbrev TS:=gL->St->Hp->Prop
def EP (X:Cx) (aa:List (Addr×Obj)) (σ:St) (Q:VK) (u:Value) (s':Shared):Prop:=∃ v H',Inv X aa σ H' s'/\av v u/\Q v H'
def TP (X:Cx) (aa:List (Addr×Obj)) (σ:St) (Q:Bool->Hp->Prop) (b:Bool) (s':Shared):Prop:=∃ H',Inv X aa σ H' s'/\Q b H'
def AP (X:Cx) (aa:List (Addr×Obj)) (σ:St) (Q:List V->Hp->Prop) (us:List Value) (s':Shared):Prop:=∃ vs H',Inv X aa σ H' s'/\aw vs us/\Q vs H'
def SP (X:Cx) (aa:List (Addr×Obj)) (D:gL) (f:Flow) (s':Shared):Prop:=
 match f with
 | .next=>∃ σ' H',Inv X aa σ' H' s'/\D.nx σ' H'
 | .brk=>∃ σ' H',Inv X aa σ' H' s'/\D.bk σ' H'
 | .cont=>∃ σ' H',Inv X aa σ' H' s'/\D.ct σ' H'
 | .ret u=>∃ v σ' H',Inv X aa σ' H' s'/\av v u/\D.rt v H'
def PE (X:Cx) (e:Expr) (t:TE):Prop:=
 ∀ (aa:List (Addr×Obj)) (s:Shared) (σ:St) (H:Hp) (Q:VK),Inv X aa σ H s->t σ H Q->wpAny (model X.prog X.w) X.A (eval e X.env) (EP X aa σ Q) X.xe s
def PT (X:Cx) (e:Expr) (t:TT):Prop:=
 ∀ (aa:List (Addr×Obj)) (s:Shared) (σ:St) (H:Hp) (Q:Bool->Hp->Prop),Inv X aa σ H s->t σ H Q->wpAny (model X.prog X.w) X.A (isTrue e X.env (eval e X.env)) (TP X aa σ Q) X.xe s
def PW (X:Cx) (e:Expr) (t:TT):Prop:=
 ∀ (gq:Sem Value) (aa:List (Addr×Obj)) (s:Shared) (σ:St) (H:Hp) (Q:Bool->Hp->Prop),Inv X aa σ H s->t σ H Q->wpAny (model X.prog X.w) X.A (isTrue e X.env gq) (TP X aa σ Q) X.xe s
theorem PW.pt {X:Cx}{e:Expr}{t:TT} (h:PW X e t):PT X e t:=h _
def PA (X:Cx) (es:List Expr) (t:TA):Prop:=
 ∀ (pos:Pos) (aa:List (Addr×Obj)) (s:Shared) (σ:St) (H:Hp) (Q:List V->Hp->Prop),Inv X aa σ H s->t σ H Q->wpAny (model X.prog X.w) X.A (spliced (backTo pos (starEach es X.env))) (AP X aa σ Q) X.xe s
def PS (X:Cx) (st:Stmt) (t:TS):Prop:=
 ∀ (aa:List (Addr×Obj)) (s:Shared) (σ:St) (H:Hp) (D:gL),Inv X aa σ H s->t D σ H->wpAny (model X.prog X.w) X.A (exec st X.env) (SP X aa D) X.xe s
def PSs (X:Cx) (st:List Stmt) (t:TS):Prop:=
 ∀ (aa:List (Addr×Obj)) (s:Shared) (σ:St) (H:Hp) (D:gL),Inv X aa σ H s->t D σ H->wpAny (model X.prog X.w) X.A (execs st X.env) (SP X aa D) X.xe s
theorem thn {α:Type}{t:Sem α}{Q Q':α->Shared->Prop}{M:Model}{A:Around}{E:Value->Shared->Prop}{s:Shared} (h:wpAny M A t Q E s) (hQ:∀ a s,Q a s->Q' a s):wpAny M A t Q' E s:=V0 h hQ fun _ _ x=>x
end L2
namespace L2
open PySem PySem.Spec PyProof.Rows
section
variable {X:Cx}
def tVar (i:Nat):TE:=fun σ H Q=>∃ v,σ[i]?=some (some v)/\Q v H
def tC (v:V):TE:=fun _ H Q=>Q v H
theorem pe_var {i:Nat}{x:Str}{pos:Pos} (hN:X.N[i]?=some x) (hv:Vis X.env.scope x) (hd:(x == ("__debug__":Str))=false:=by decide) (fk:(x == ("__classdict__":Str))=false:=by decide):PE X (.Name x pos) (tVar i):=by
 intro aa s σ H Q I h;obtain⟨v,e,h⟩:=h;obtain⟨m,hn,hl⟩:=I.loc;obtain⟨u,r,l⟩:=hl i x v hN e hv;have aO:EP X aa σ Q u s:=⟨v,H,I,r,h⟩;rcases l with⟨hk,hm⟩|⟨hk,c,hc,bB⟩
 ·exact Yv (wpAny_loadName_local I.ok.kind hk hn hm aO) hd
 ·rcases hk with hk|hk
  ·exact Yv (wpAny_loadName_cell I.ok.kind hk hc bB aO) hd
  ·exact Yv (wpAny_loadName_free I.ok.kind hk hc bB aO fk) hd
theorem ak {i j pos}:PE X (.Constant (.int i) j pos) (tC (.int i)):=fun _ _ _ H _ I h=>Ye ⟨.int i,H,I.tok _,⟨_,rfl⟩,h⟩
theorem Bd {b j pos}:PE X (.Constant (.bool b) j pos) (tC (.bl b)):=fun _ _ _ H _ I h=>Constant_bool ⟨.bl b,H,I,rfl,h⟩
theorem Jx {j pos}:PE X (.Constant .none j pos) (tC .non):=fun _ _ _ H _ I h=>Constant_none ⟨.non,H,I,rfl,h⟩
theorem pe_str {x j pos}:PE X (.Constant (.str x) j pos) (tC (.str x)):=fun _ _ _ H _ I h=>Calls.Constant_str ⟨.str x,H,I.tok _,⟨_,rfl⟩,h⟩
def Gl (X:Cx) (x:Str):Prop:=X.env.kindOf x=some .globalImplicit
theorem rL {E:Value->Shared->Prop}{aa:List (Addr×Obj)}{s:Shared}{σ:St}{H:Hp}{x:Str}{u:Value}{pos:Pos}{Q:Value->Shared->Prop} (I:Inv X aa σ H s) (hg:Gl X x) (hm:X.mg x=some u) (h:Q u s)
  (hd:(x == ("__debug__":Str))=false:=by decide):wpAny (model X.prog X.w) X.A (eval (.Name x pos) X.env) Q E s:=
 Calls.Name_function_global I.ok.kind hg (Calls.loadGlobal_global (by rw[I.ok.glob];exact I.mod.glob.keeps I.bk) hm h) hd
theorem iD {E:Value->Shared->Prop}{aa:List (Addr×Obj)}{s:Shared}{σ:St}{H:Hp}{x:Str}{u:Value}{pos:Pos}{Q:Value->Shared->Prop} (I:Inv X aa σ H s) (hg:Gl X x) (hm:X.mg x=none) (hv:bootBuiltins x=some u) (h:Q u s)
  (hn:x≠"__name__":=by decide) (hd:(x == ("__debug__":Str))=false:=by decide):wpAny (model X.prog X.w) X.A (eval (.Name x pos) X.env) Q E s:=by
 obtain⟨mb,h1,h2⟩:=I.mod.blt;exact Calls.Name_function_global I.ok.kind hg (Calls.loadGlobal_builtin (by rw[I.ok.glob];exact I.mod.glob.keeps I.bk) hm (by rw[I.ok.blt];exact h1.keeps I.bk) ((h2 x hn).trans hv) h) hd
theorem P6 {x:Str}{v:V}{u:Value}{pos:Pos} (hg:Gl X x) (hm:X.mg x=some u) (r:av v u) (hd:(x == ("__debug__":Str))=false:=by decide):PE X (.Name x pos) (tC v):=
 fun _ _ _ H _ I h=>rL I hg hm ⟨v,H,I,r,h⟩ hd
variable {a b:Expr}{ta tb:TE}{pos:Pos}
def PC (X:Cx) (op:CmpOp) (a b:Expr) (t:TE):Prop:=
 ∀ (aa:List (Addr×Obj)) (s:Shared) (σ:St) (H:Hp) (Q:VK),Inv X aa σ H s->t σ H Q ->
  wpAny (model X.prog X.w) X.A (eval a X.env) (fun v s₁=>wpAny (model X.prog X.w) X.A (eval b X.env) (fun u s₂=>wpAny (model X.prog X.w) X.A (compareOp op v u) (EP X aa σ Q) X.xe s₂) X.xe s₁) X.xe s
theorem P3 (b:Expr){op:CmpOp} (h:op≠.In) (h2:op≠.NotIn):behindInMarks op b=false:=by
 have e1:(op == CmpOp.In)=false:=by cases op <;> first|rfl|exact absurd rfl h
 have e2:(op == CmpOp.NotIn)=false:=by cases op <;> first|rfl|exact absurd rfl h2
 cases b <;> simp[behindInMarks,e1,e2]
def tIsN (ta:TE):TE:=fun σ H Q=>ta σ H fun x H1=>Q (.bl (decide (x=.non))) H1
def tNotN (ta:TE):TE:=fun σ H Q=>ta σ H fun x H1=>Q (.bl (!decide (x=.non))) H1
theorem av.none_iff {x:V}{v:Value} (r:av x v):(v == Value.none)=decide (x=.non):=by
 cases x with
 | non=>cases r;rfl
 | bl _=>cases r;rfl
 | int _=>obtain⟨t,rfl⟩:=r;rfl
 | str _=>obtain⟨t,rfl⟩:=r;rfl
 | byt _=>obtain⟨t,rfl⟩:=r;rfl
 | flt _=>obtain⟨t,rfl⟩:=r;rfl
 | ref _=>cases r;rfl
 | ty _=>cases r;rfl
theorem pc_isN {j aW} (ha:PE X a ta):PC X .Is a (.Constant .none j aW) (tIsN ta):=by
 intro aa s σ H Q I h;refine thn (ha aa s σ H _ I h) fun v s1=>L2.ex5 fun x H1 I1 r1 q1=>?_
 exact Constant_none (is_none_gen ⟨.bl _,H1,I1,by rw[r1.none_iff];rfl,q1⟩)
theorem P4 {j aW} (ha:PE X a ta):PC X .IsNot a (.Constant .none j aW) (tNotN ta):=by
 intro aa s σ H Q I h;refine thn (ha aa s σ H _ I h) fun v s1=>L2.ex5 fun x H1 I1 r1 q1=>?_
 exact Constant_none (isnot_none_gen ⟨.bl _,H1,I1,by rw[r1.none_iff];rfl,q1⟩)
def tB (t:TE):TT:=fun σ H Q=>t σ H fun x H1=>∃ c,x=.bl c/\Q c H1
theorem zB {op:CmpOp}{t:TE} (h:PC X op a b t) (h1:behindInMarks op b=false:=by first|exact P3 _ (by decide) (by decide)|rfl):PT X (.Compare a [op] [b] pos) (tB t):=by
 intro aa s σ H Q I hw;refine X1 (thn (h aa s σ H _ I hw) fun v s1 h1=>thn h1 fun u s2 h2=>thn h2 fun c s3=>L2.ex5 fun x H1 I1 r1 q1=>?_) h1;obtain⟨d,rfl,q⟩:=q1;cases r1
 exact Ws ⟨H1,I1,q⟩
theorem zr {e:Expr}{t:TE} (h:PE X e t) (he:∀ gq,isTrue e X.env gq=(do let v <- gq;standAt e.pos;holding [v] (truthy v)):=by intro _;rfl):PT X e (tB t):=by
 intro aa s σ H Q I hw;refine isTrue_plain (thn (h aa s σ H _ I hw) fun v s1=>L2.ex5 fun x H1 I1 r1 q1=>?_) (he _);obtain⟨d,rfl,q⟩:=q1;cases r1
 exact Ws ⟨H1,I1,q⟩
variable {tA Aw:TT}{aP:List Expr}
def tAnd (t u:TT):TT:=fun σ H Q=>t σ H fun c H1=>if c=true then u σ H1 Q else Q false H1
def tOr (t u:TT):TT:=fun σ H Q=>t σ H fun c H1=>if c=true then Q true H1 else u σ H1 Q
theorem Tn (ha:PT X a tA):PW X (.BoolOp .And [a] pos) tA:=by
 intro wh aa s σ H Q I h;refine isTrue_and (thn (ha aa s σ H Q I h) fun c s1 e=>?_);cases c with
 | true=>exact isTrue_and_nil e
 | false=>exact e
theorem FN (ha:PT X a tA):PW X (.BoolOp .Or [a] pos) tA:=by
 intro wh aa s σ H Q I h;refine isTrue_or (thn (ha aa s σ H Q I h) fun c s1 e=>?_);cases c with
 | false=>exact isTrue_or_nil e
 | true=>exact e
theorem pw_and (ha:PT X a tA) (hb:PW X (.BoolOp .And (b::aP) pos) Aw):PW X (.BoolOp .And (a::b::aP) pos) (tAnd tA Aw):=by
 intro wh aa s σ H Q I h;refine isTrue_and (thn (ha aa s σ H _ I h) fun c s1=>L2.ex3 fun H1 I1 q1=>?_);cases c with
 | true=>exact hb wh aa s1 σ H1 Q I1 q1
 | false=>exact⟨H1,I1,q1⟩
theorem Fv (ha:PT X a tA) (hb:PW X (.BoolOp .Or (b::aP) pos) Aw):PW X (.BoolOp .Or (a::b::aP) pos) (tOr tA Aw):=by
 intro wh aa s σ H Q I h;refine isTrue_or (thn (ha aa s σ H _ I h) fun c s1=>L2.ex3 fun H1 I1 q1=>?_);cases c with
 | true=>exact⟨H1,I1,q1⟩
 | false=>exact hb wh aa s1 σ H1 Q I1 q1
def tAndV (ta tb:TE):TE:=fun σ H Q=>ta σ H fun x H1=>∃ c,x=.bl c/\if c=true then tb σ H1 Q else Q (.bl false) H1
def tOrV (ta tb:TE):TE:=fun σ H Q=>ta σ H fun x H1=>∃ c,x=.bl c/\if c=true then Q (.bl true) H1 else tb σ H1 Q
theorem KC {op}{t:TE} (h:PE X a t):PE X (.BoolOp op [a] pos) t:=fun aa s σ H Q I hw=>BoolOp_one (h aa s σ H Q I hw)
theorem pe_and (ha:PE X a ta) (hb:PE X (.BoolOp .And (b::aP) pos) tb):PE X (.BoolOp .And (a::b::aP) pos) (tAndV ta tb):=by
 intro aa s σ H Q I h;refine BoolOp_and (thn (ha aa s σ H _ I h) fun v s1=>L2.ex5 fun x H1 I1 r1 q1=>?_);obtain⟨c,rfl,q1⟩:=q1;cases r1
 refine Ws ?_;cases c with
 | true=>exact hb aa s1 σ H1 Q I1 q1
 | false=>exact⟨.bl false,H1,I1,rfl,q1⟩
theorem pe_or (ha:PE X a ta) (hb:PE X (.BoolOp .Or (b::aP) pos) tb):PE X (.BoolOp .Or (a::b::aP) pos) (tOrV ta tb):=by
 intro aa s σ H Q I h;refine BoolOp_or (thn (ha aa s σ H _ I h) fun v s1=>L2.ex5 fun x H1 I1 r1 q1=>?_);obtain⟨c,rfl,q1⟩:=q1;cases r1
 refine Ws ?_;cases c with
 | false=>exact hb aa s1 σ H1 Q I1 q1
 | true=>exact⟨.bl true,H1,I1,rfl,q1⟩
def tIf (t:TT) (ta tb:TE):TE:=fun σ H Q=>t σ H fun c H1=>if c=true then ta σ H1 Q else tb σ H1 Q
theorem Gr {c:Expr} (hc:PT X c tA) (ha:PE X a ta) (hb:PE X b tb):PE X (.IfExp c a b pos) (tIf tA ta tb):=by
 intro aa s σ H Q I h;refine wpAny_IfExp (thn (hc aa s σ H _ I h) fun d s1=>L2.ex3 fun H1 I1 q1=>?_);cases d with
 | true=>exact ha aa s1 σ H1 Q I1 q1
 | false=>exact hb aa s1 σ H1 Q I1 q1
end
end L2
namespace L2
open PySem PySem.Spec PyProof.Rows
def SqL (K:PySem.W.Frag) (H:Hp) (a:Addr) (xs:List V):Prop:=
 Rd H a (.lst xs) \/
  ∃ (o:Obj) (its:Array Value) (n:Nat),K.lookup a=some o/\o.cls=.type "list"/\o.dict=none/\o.data=.seq its n/\its.size<=sizeLine/\aw xs its.toList
def SqT (K:PySem.W.Frag) (H:Hp) (a:Addr) (xs:List V):Prop:=
 Rd H a (.tup xs) \/
  ∃ (o:Obj) (its:Array Value) (n:Nat),K.lookup a=some o/\o.cls=.type "tuple"/\o.data=.seq its n/\its.size<=sizeLine/\aw xs its.toList
def absV:Value->Option V
 | .none=>some .non
 | .bool b=>some (.bl b)
 | .int i _=>some (.int i)
 | .str x _=>some (.str x)
 | .bytes b _=>some (.byt b)
 | .float b _=>some (.flt b)
 | .ref a=>some (.ref a)
 | .type n=>some (.ty n)
 | _=>none
theorem av.abs {x:V}{u:Value} (r:av x u):absV u=some x:=by
 cases x with
 | non=>cases r;rfl
 | bl _=>cases r;rfl
 | int _=>obtain⟨t,rfl⟩:=r;rfl
 | str _=>obtain⟨t,rfl⟩:=r;rfl
 | byt _=>obtain⟨t,rfl⟩:=r;rfl
 | flt _=>obtain⟨t,rfl⟩:=r;rfl
 | ref _=>cases r;rfl
 | ty _=>cases r;rfl
theorem av.inj {x y:V}{u:Value} (r:av x u) (q:av y u):x=y:=Option.some.inj (r.abs.symm.trans q.abs)
theorem aw.inj:∀ {xs ys:List V}{us:List Value},aw xs us->aw ys us->xs=ys
 | _,_,_,.nil,.nil=>rfl
 | _,_,_,.cons r t,.cons r' t'=>by rw[r.inj r',aw.inj t t']
section
variable {X:Cx}{aa:List (Addr×Obj)}{σ:St}{H:Hp}{s:Shared}{a:Addr}{xs ys:List V}
theorem SqL.of {K:PySem.W.Frag} (h:H a=some (.lst xs)):SqL K H a xs:=.inl (.inl h)
theorem SqT.of {K:PySem.W.Frag} (h:H a=some (.tup xs)):SqT K H a xs:=.inl (.inl h)
theorem Inv.list (I:Inv X aa σ H s) (h:SqL X.K H a xs):∃ its:List Value,aw xs its/\PlainL s.heap a its.toArray/\xs.length<=sizeLine:=by
 rcases h with h|⟨o,its,n,hk,hc,hd,hs,hz,r⟩
 ·obtain⟨z,its,n,r,e⟩:=h.ok I.hok
  exact⟨its,r,⟨_,n,e,rfl,rfl,rfl⟩,z⟩
 ·refine⟨its.toList,r,⟨o,n,I.kIn a o hk,hc,hd,by simpa using hs⟩,?_⟩
  have e:=r.length;simp only[Xv] at e
  omega
theorem Inv.tuple (I:Inv X aa σ H s) (h:SqT X.K H a xs):∃ its:List Value,aw xs its/\IsTup s.heap a its.toArray/\xs.length<=sizeLine:=by
 rcases h with h|⟨o,its,n,hk,hc,hs,hz,r⟩
 ·obtain⟨z,its,r,p⟩:=h.ok I.hok
  exact⟨its,r,p,z⟩
 ·refine⟨its.toList,r,⟨o,I.kIn a o hk,hc,n,by simpa using hs⟩,?_⟩
  have e:=r.length;simp only[Xv] at e
  omega
theorem Inv.list_inj (I:Inv X aa σ H s) (h:SqL X.K H a xs) (h':SqL X.K H a ys):xs=ys:=by
 obtain⟨its,r,⟨o,n,e,_,_,d⟩,_⟩:=I.list h;obtain⟨its',r',⟨o',n',e',_,_,d'⟩,_⟩:=I.list h';rw[e] at e';cases e'
 rw[d] at d';injection d' with d1 _
 have:its=its':=by simpa using congrArg Array.toList d1
 subst this;exact r.inj r'
theorem Inv.tuple_inj (I:Inv X aa σ H s) (h:SqT X.K H a xs) (h':SqT X.K H a ys):xs=ys:=by
 obtain⟨its,r,⟨o,e,_,n,d⟩,_⟩:=I.tuple h;obtain⟨its',r',⟨o',e',_,n',d'⟩,_⟩:=I.tuple h';rw[e] at e';cases e'
 rw[d] at d';injection d' with d1 _
 have:its=its':=by simpa using congrArg Array.toList d1
 subst this;exact r.inj r'
end
abbrev Cx.wish (X:Cx) (E:Value->Shared->Prop):Cx:={ X with xe:=E }
abbrev Cx.nox (X:Cx):Cx:=X.wish fun _ _=>False
theorem Cx.Ok.wish {X:Cx} (ok:X.Ok) (E:Value->Shared->Prop):(X.wish E).Ok:=
 ⟨ok.mod,ok.kind,ok.glob,ok.blt,ok.above,ok.inj,ok.has,ok.cab,ok.hd,ok.frames,ok.stk,ok.exf,ok.bs,ok.bsz,ok.noex,ok.exfs,ok.funs,ok.frf⟩
theorem Cx.Ok.unwish {X:Cx}{E:Value->Shared->Prop} (ok:(X.wish E).Ok):X.Ok:=
 ⟨ok.mod,ok.kind,ok.glob,ok.blt,ok.above,ok.inj,ok.has,ok.cab,ok.hd,ok.frames,ok.stk,ok.exf,ok.bs,ok.bsz,ok.noex,ok.exfs,ok.funs,ok.frf⟩
section
variable {X:Cx}{aa:List (Addr×Obj)}{σ:St}{H:Hp}{s:Shared}{E:Value->Shared->Prop}
theorem Inv.wish (I:Inv X aa σ H s) (E:Value->Shared->Prop):Inv (X.wish E) aa σ H s:=⟨I.ok.wish E,I.os,I.bare,I.base,I.loc,I.cell,I.free,I.freeC,I.pin,I.hok,I.len⟩
theorem Inv.unwish (I:Inv (X.wish E) aa σ H s):Inv X aa σ H s:=⟨I.ok.unwish,I.os,I.bare,I.base,I.loc,I.cell,I.free,I.freeC,I.pin,I.hok,I.len⟩
theorem SP.unwish {D:gL}{f:Flow}{s':Shared} (h:SP (X.wish E) aa D f s'):SP X aa D f s':=by
 cases f with
 | next=>obtain⟨σ',H',I,q⟩:=h;exact⟨σ',H',I.unwish,q⟩
 | brk=>obtain⟨σ',H',I,q⟩:=h;exact⟨σ',H',I.unwish,q⟩
 | cont=>obtain⟨σ',H',I,q⟩:=h;exact⟨σ',H',I.unwish,q⟩
 | ret u=>obtain⟨v,σ',H',I,r,q⟩:=h;exact⟨v,σ',H',I.unwish,r,q⟩
theorem PSs.nox {st:List Stmt}{t:TS} (h:PSs X.nox st t):PSs X st t:=fun aa s σ H D I hw=>
 V0 (h aa s σ H D (I.wish _) hw) (fun _ _ q=>q.unwish) fun _ _ z=>False.elim z
end
section
variable {X:Cx}{st:Stmt}{aP:List Stmt}{t u:TS}{e:Expr}{te:TE}{pos:Pos}
def tNext:TS:=fun D σ H=>D.nx σ H
def tSeq (t u:TS):TS:=fun D σ H=>t { D with nx:=u D } σ H
theorem fZ:PSs X [] tNext:=fun _ _ σ H _ I h=>Xi ⟨σ,H,I,h⟩
theorem ao (h1:PS X st t) (h2:PSs X aP u):PSs X (st::aP) (tSeq t u):=by
 intro aa s σ H D I h;refine wpAny_execs_cons (thn (h1 aa s σ H { D with nx:=u D } I h) fun f s1 q=>?_);cases f with
 | next=>
  obtain⟨σ',H',I',q⟩:=q;exact h2 aa s1 σ' H' D I' q
 | ret v=>exact q
 | brk=>exact q
 | cont=>exact q
theorem aA (h1:PS X st t):PSs X [st] t:=by
 intro aa s σ H D I h;refine wpAny_execs_cons (thn (h1 aa s σ H D I h) fun f s1 q=>?_);cases f with
 | next=>exact Xi q
 | ret v=>exact q
 | brk=>exact q
 | cont=>exact q
theorem Inv.quiet {aa:List (Addr×Obj)}{σ:St}{H:Hp}{s:Shared} (I:Inv X aa σ H s):interactive X.env=false:=by simp[interactive,I.ok.kind]
def tDrop (te:TE):TS:=fun D σ H=>te σ H fun _ H1=>D.nx σ H1
theorem fw (he:PE X e te) (hs:swapsWith e none pos.line X.env=pure false:=by rfl):PS X (.Expr e pos) (tDrop te):=by
 intro aa s σ H D I h;exact wpAny_Expr_any (thn (he aa s σ H _ I h) fun v s1=>L2.ex5 fun x H1 I1 r1 q1=>⟨σ,H1,I1,q1⟩) I.quiet hs
def tRet (te:TE):TS:=fun D σ H=>te σ H D.rt
theorem bM (he:PE X e te):PS X (.Return (some e) pos) (tRet te):=by
 intro aa s σ H D I h;exact wpAny_Return_some (thn (he aa s σ H _ I h) fun v s1=>L2.ex5 fun x H1 I1 r1 q1=>⟨x,σ,H1,I1,r1,q1⟩)
def tRetN:TS:=fun D _ H=>D.rt .non H
theorem T3:PS X (.Return none pos) tRetN:=fun _ _ σ H _ I h=>wpAny_Return_none ⟨.non,σ,H,I,rfl,h⟩
def tIfS (c:TT) (t u:TS):TS:=fun D σ H=>c σ H fun b H1=>if b=true then t D σ H1 else u D σ H1
theorem fu {c:Expr}{a b:List Stmt}{tc:TT} (hc:PT X c tc) (ha:PSs X a t) (hb:PSs X b u):PS X (.If c a b pos) (tIfS tc t u):=by
 intro aa s σ H D I h;refine wpAny_If (thn (hc aa s σ H _ I h) fun d s1=>L2.ex3 fun H1 I1 q1=>?_);cases d with
 | true=>exact ha aa s1 σ H1 D I1 q1
 | false=>exact hb aa s1 σ H1 D I1 q1
end
abbrev TG:=V->St->Hp->(St->Hp->Prop)->Prop
abbrev TGs:=List V->St->Hp->(St->Hp->Prop)->Prop
def PG (X:Cx) (bV:Expr) (t:TG):Prop:=
 ∀ (aa:List (Addr×Obj)) (s:Shared) (σ:St) (H:Hp) (v:V) (u:Value) (Q:St->Hp->Prop),Inv X aa σ H s->av v u->t v σ H Q ->
  wpAny (model X.prog X.w) X.A (assign bV X.env u) (fun _ s'=>∃ σ' H',Inv X aa σ' H' s'/\Q σ' H') X.xe s
def PGs (X:Cx) (ts:List Expr) (t:TGs):Prop:=
 ∀ (aa:List (Addr×Obj)) (s:Shared) (σ:St) (H:Hp) (vs:List V) (us:List Value) (Q:St->Hp->Prop),Inv X aa σ H s->aw vs us->t vs σ H Q ->
  wpAny (model X.prog X.w) X.A (assignInOrder ((assignEach ts X.env).map (·.2)) us) (fun _ s'=>∃ σ' H',Inv X aa σ' H' s'/\Q σ' H') X.xe s
abbrev TSet:=V->V->V->Hp->(Hp->Prop)->Prop
def PSet (X:Cx) (t:TSet):Prop:=
 ∀ (aa:List (Addr×Obj)) (s:Shared) (σ:St) (H:Hp) (o i v:V) (ov iv u:Value) (Q:Hp->Prop),Inv X aa σ H s->av o ov->av i iv->av v u->t o i v H Q ->
  wpAny (model X.prog X.w) X.A (setItem ov iv u) (fun _ s'=>∃ H',Inv X aa σ H' s'/\Q H') X.xe s
abbrev TIp:=V->V->Hp->VK->Prop
def PIp (X:Cx) (op:Operator) (t:TIp):Prop:=
 ∀ (aa:List (Addr×Obj)) (s:Shared) (σ:St) (H:Hp) (x y:V) (v u:Value) (Q:VK),Inv X aa σ H s->av x v->av y u->t x y H Q ->
  wpAny (model X.prog X.w) X.A (inplaceOp op v u) (EP X aa σ Q) X.xe s
section
variable {X:Cx}{pos:Pos}
def bJ (i:Nat):TG:=fun v σ H Q=>Q (σ.set i (some v)) H
theorem aB {i:Nat}{x:Str} (hN:X.N.Nodup) (hi:X.N[i]?=some x) (hx:Loc X.env.scope x) (hf:X.fn x=true\/X.env.scope.names.lookup x=some .local:=by first|exact .inl rfl|exact .inr rfl|assumption):PG X (.Name x pos) (bJ i):=by
 intro aa s σ H v u Q I r h;exact Yl (L7 I hN hi hx r (fun s' I'=>⟨_,H,I',h⟩) hf)
def gNil:TGs:=fun vs σ H Q=>vs=[]/\Q σ H
def gCons (t:TG) (u:TGs):TGs:=fun vs σ H Q=>∃ v r,vs=v::r/\t v σ H fun σ' H'=>u r σ' H' Q
theorem cM:PGs X [] gNil:=by
 intro aa s σ H vs us Q I r h;obtain⟨e,h⟩:=h;subst e;cases r
 exact assignInOrder_nil ⟨σ,H,I,h⟩
theorem aU {e:Expr}{es:List Expr}{t:TG}{u:TGs} (h1:PG X e t) (h2:PGs X es u)
  (hs:(assignEach (e::es) X.env).map (·.2)=assign e X.env::(assignEach es X.env).map (·.2):=by rfl):PGs X (e::es) (gCons t u):=by
 intro aa s σ H vs us Q I r h;obtain⟨v,vr,e1,h⟩:=h;subst e1;cases r with
 | cons r rr=>
  rw[hs];refine assignInOrder_cons (thn (h1 aa s σ H _ _ _ I r h) fun _ s1=>L2.ex4 fun σ1 H1 I1 q1=>?_);exact h2 aa s1 σ1 H1 _ _ Q I1 rr q1
def gTup (K:PySem.W.Frag) (n:Nat) (t:TGs):TG:=fun v σ H Q=>∃ a xs,v=.ref a/\SqT K H a xs/\xs.length=n/\t xs σ H Q
theorem fE {es:List Expr}{k:Nat}{t:TGs}{n:Nat} (hc:X.calm=true) (h:PGs X es t)
  (hn:(assignEach es X.env).length=n:=by rfl) (cJ:(assignEach es X.env).findIdx? (·.1)=none:=by rfl):PG X (.Tuple es k pos) (gTup X.K n t):=by
 intro aa s σ H v u Q I r hw;obtain⟨a,xs,e1,hq,hl,hw⟩:=hw;subst e1;cases r
 obtain⟨its,rv,ht,hz⟩:=I.tuple hq;refine SO I.hd ht (by simp[hn,<- hl,rv.length]) cJ fun h' hx=>?_
 have I1:Inv X aa σ H { s with heap:=h' }:=I.kept (t':=s.toks) fun b o e=>hx b o (Vq (Vk e)) e
 exact h aa _ σ H xs _ Q I1 (by simpa using rv) hw
def tAsg (te:TE) (g:TG):TS:=fun D σ H=>te σ H fun x H1=>g x σ H1 D.nx
theorem FR {tg e:Expr}{te:TE}{g:TG} (he:PE X e te) (hg:PG X tg g) (hs:swapsWithSole [tg] e pos.line X.env=pure false:=by rfl) (hw:swappedStores [tg] e X.env=pure none:=by rfl)
  (h1:(assignEach [tg] X.env).map (·.2)=[assign tg X.env]:=by rfl):PS X (.Assign [tg] e pos) (tAsg te g):=by
 intro aa s σ H D I h;refine wpAny_Assign_stores (thn (he aa s σ H _ I h) fun v s1=>L2.ex5 fun x H1 I1 r1 q1=>?_) hs hw;rw[h1];exact thn (hg aa s1 σ H1 x v _ I1 r1 q1) fun _ s2 q=>q
theorem aR {i:Nat}{x:Str}{e:Expr}{te:TE}{aW:Pos} (hN:X.N.Nodup) (hi:X.N[i]?=some x) (hx:Loc X.env.scope x) (he:PE X e te) (hs:swapsWith e (some (.Name x aW)) pos.line X.env=pure false:=by rfl) (hf:X.fn x=true\/X.env.scope.names.lookup x=some .local:=by first|exact .inl rfl|exact .inr rfl|assumption) :
  PS X (.Assign [.Name x aW] e pos) (tAsg te (bJ i)):=by
 intro aa s σ H D I h;refine wpAny_Assign_Name (thn (he aa s σ H _ I h) fun v s1=>L2.ex5 fun y H1 I1 r1 q1=>?_) hs;exact L7 I1 hN hi hx r1 (fun s2 I2=>⟨_,H1,I2,q1⟩) hf
def tAugS (to ti te:TE) (ke:V->V->Hp->VK->Prop) (Ad:TIp) (kt:TSet):TS:=fun D σ H=>to σ H fun o H1=>ti σ H1 fun i H2=>ke o i H2 fun x H3=>te σ H3 fun y H4=>Ad x y H4 fun z H5=>kt o i z H5 fun H6=>D.nx σ H6
def PGet (X:Cx) (t:V->V->Hp->VK->Prop):Prop:=
 ∀ (aa:List (Addr×Obj)) (s:Shared) (σ:St) (H:Hp) (o i:V) (ov iv:Value) (Q:VK),Inv X aa σ H s->av o ov->av i iv->t o i H Q ->
  wpAny (model X.prog X.w) X.A (getItem ov iv) (EP X aa σ Q) X.xe s
theorem pQ {o i e:Expr}{to ti te:TE}{ke:V->V->Hp->VK->Prop}{Ad:TIp}{kt:TSet}{op:Operator}{tpos:Pos} (ho:PE X o to) (hi:PE X i ti) (hg:PGet X ke) (he:PE X e te) (hp:PIp X op Ad) (hs:PSet X kt)
  (ha:∀ ov iv new,augStore i ov iv new=(do holding [new,ov,iv] (setItem ov iv new);release [new,ov,iv] [];pure .next):=by intros;rfl):PS X (.AugAssign (.Subscript o i tpos) op e pos) (tAugS to ti te ke Ad kt):=by
 intro aa s σ H D I h;refine wpAny_AugAssign_SubscriptAny (thn (ho aa s σ H _ I h) fun ov s1=>L2.ex5 fun x1 H1 I1 r1 q1=>?_) ha;refine thn (hi aa s1 σ H1 _ I1 q1) fun iv s2=>L2.ex5 fun x2 H2 I2 r2 q2=>?_
 refine thn (hg aa s2 σ H2 x1 x2 ov iv _ I2 r1 r2 q2) fun old s3=>L2.ex5 fun x3 H3 I3 r3 q3=>?_
 refine thn (he aa s3 σ H3 _ I3 q3) fun v s4=>L2.ex5 fun x4 H4 I4 r4 q4=>?_
 refine thn (hp aa s4 σ H4 x3 x4 old v _ I4 r3 r4 q4) fun new s5=>L2.ex5 fun x5 H5 I5 r5 q5=>?_
 exact thn (hs aa s5 σ H5 x1 x2 x5 ov iv new _ I5 r1 r2 r5 q5) fun _ s6=>L2.ex3 fun H6 I6 q6=>⟨σ,H6,I6,q6⟩
def ipI (f:Int->Int->Int):TIp:=fun x y H Q=>∃ i j,x=.int i/\y=.int j/\Q (.int (f i j)) H
theorem yW:PIp X .Add (ipI fun i j=>i + j):=by
 intro aa s σ H x y v u Q I r1 r2 h;obtain⟨i,j,e1,e2,q⟩:=h;subst e1;subst e2
 obtain⟨t,rfl⟩:=r1;obtain⟨t',rfl⟩:=r2;exact iadd_int ⟨.int _,H,I.tok _,⟨_,rfl⟩,q⟩
theorem LE:PIp X .Sub (ipI fun i j=>i - j):=by
 intro aa s σ H x y v u Q I r1 r2 h;obtain⟨i,j,e1,e2,q⟩:=h;subst e1;subst e2
 obtain⟨t,rfl⟩:=r1;obtain⟨t',rfl⟩:=r2;exact isub_int ⟨.int _,H,I.tok _,⟨_,rfl⟩,q⟩
end
section
variable {X:Cx}{pos:Pos}
def tWhile (c:TT) (tb:TS):TS:=fun D σ H=>∃ W:Nat->St->Hp->Prop,(∃ m,W m σ H)/\∀ m σ H,W m σ H ->
 c σ H fun b H1=>if b=true then ∃ N:St->Hp->Prop,(∀ σ' H',N σ' H'->∃ m',m'<m/\W m' σ' H')/\tb { D with nx:=N,ct:=N,bk:=D.nx } σ H1 else D.nx σ H1
theorem y8 {c:Expr}{body:List Stmt}{tc:TT}{tb:TS} (hp:PassesOwn (model X.prog X.w) X.A X.env X.xe) (hc:PT X c tc) (hb:PSs X body tb):PS X (.While c body [] pos) (tWhile tc tb):=by
 intro aa s σ H D I h;obtain⟨W,⟨m0,w0⟩,aY⟩:=h;refine wpAny_While (codeAny_whileLoop (fun n s'=>∃ σ' H',Inv X aa σ' H' s'/\W n σ' H') ?_ m0 ⟨σ,H,I,w0⟩);rintro n s1 ⟨σ1,H1,I1,w1⟩
 refine WM hp (thn (hc aa s1 σ1 H1 _ I1 (aY n σ1 H1 w1)) fun b s2=>L2.ex3 fun H2 I2 q2=>?_);cases b with
 | true=>
  obtain⟨N,hN,q2⟩:=q2;rw[if_pos rfl];refine WM hp (thn (hb aa s2 σ1 H2 _ I2 q2) fun f s3 q3=>?_);cases f with
  | next=>
   obtain⟨σ3,H3,I3,n3⟩:=q3;obtain⟨m',hm,w3⟩:=hN σ3 H3 n3;exact⟨m',hm,σ3,H3,I3,w3⟩
  | cont=>
   obtain⟨σ3,H3,I3,n3⟩:=q3;obtain⟨m',hm,w3⟩:=hN σ3 H3 n3;exact⟨m',hm,σ3,H3,I3,w3⟩
  | brk=>exact q3
  | ret v=>exact q3
 | false=>
  rw[if_neg Vu];exact Xi ⟨σ1,H2,I2,q2⟩
end
structure It where
 go:Nat->Hp->Prop
 yld:Nat->Hp->V->Hp->Prop
 stop:Nat->Hp->Prop
def bC (X:Cx) (aa:List (Addr×Obj)) (H:Hp) (b:Addr):Prop:=
 H b=none/\b≠X.env.locals/\b∉X.fs/\(b∈X.ex\/X.s₀.heap.objs.size<=b)/\(∀ x c,X.env.cells.lookup x=some c->c≠b)/\∀ p∈X.pn++aa,p.1≠b
theorem Inv.fpOk {X:Cx}{aa:List (Addr×Obj)}{σ:St}{H H':Hp}{s:Shared}{b:Addr} (I:Inv X aa σ H s) (hb:s.heap.objs.size<=b) (hn:H' b=none):bC X aa H' b:=by
 refine⟨hn,V9 (Vy I.lt hb),I.nofs hb,.inr (VL I.sz hb),fun x c e z=>?_,fun p hp z=>?_⟩
 ·obtain⟨v,q⟩:=I.cell x c e
  exact absurd (Vy q.lt (by rw[z];exact hb)) (VE _)
 ·exact absurd (Vy (Vk (I.pin p hp).1) (by rw[z];exact hb)) (VE _)
structure m5 (P:Program) (w:World) (K:PySem.W.Frag) (tg:Expr) (J:It) (fp:List Addr) (it:Addr) (tn:Nat->Heap->Prop):Prop where
 mem:it∈fp
 obj:∀ i h,tn i h->∀ b∈fp,∃ o,h.get? b=some o/\∀ v,o.data≠.cell v
 keep:∀ i h h',tn i h->(∀ b∈fp,∀ o,h.get? b=some o->h'.get? b=some o)->tn i h'
 item:∀ (X:Cx),X.prog=P->X.w=w->X.K=K->X.calm=true->∀ (i:Nat) (aa:List (Addr×Obj)) (s:Shared) (σ:St) (H:Hp) (E:Value->Shared->Prop),Inv X aa σ H s->(∀ b∈fp,bC X aa H b)->tn i s.heap->J.go i H ->
  wpAny (model P w) X.A (pyNext (.ref it)) (fun r s1=>∃ u,r=some u /\
   wpAny (model P w) X.A (letOwnedTupleGo tg (.ref it) u) (fun _ s2=>∃ x H',Inv X aa σ H' s2/\av x u/\J.yld i H x H'/\tn (i + 1) s2.heap/\∀ b∈fp,H' b=none) E s1) E s
 done:∀ (X:Cx),X.prog=P->X.w=w->X.K=K->X.calm=true->∀ (i:Nat) (aa:List (Addr×Obj)) (s:Shared) (σ:St) (H:Hp) (E:Value->Shared->Prop),Inv X aa σ H s->(∀ b∈fp,bC X aa H b)->tn i s.heap->J.stop i H ->
  wpAny (model P w) X.A (pyNext (.ref it)) (fun r s1=>r=none/\Inv X aa σ H s1) E s
 self:∀ (A:Around) (i:Nat) (s:Shared) (Q:Value->Shared->Prop) (E:Value->Shared->Prop),tn i s.heap->Q (.ref it) s->wpAny (model P w) A (pyIter (.ref it)) Q E s
abbrev TI:=St->Hp->(It->Hp->Prop)->Prop
def PIE (X:Cx) (aa:List (Addr×Obj)) (σ:St) (tg:Expr) (R:It->Hp->Prop) (Av:Value) (s2:Shared):Prop:=
 ∃ (it:Addr) (fp:List Addr) (tn:Nat->Heap->Prop) (J:It) (H':Hp),Av=.ref it/\Inv X aa σ H' s2/\m5 X.prog X.w X.K tg J fp it tn/\tn 0 s2.heap/\(∀ b∈fp,bC X aa H' b)/\R J H'
def PI (X:Cx) (tg iter:Expr) (wi:TI):Prop:=
 ∀ (aa:List (Addr×Obj)) (s:Shared) (σ:St) (H:Hp) (R:It->Hp->Prop),Inv X aa σ H s->wi σ H R ->
  wpAny (model X.prog X.w) X.A (eval iter X.env) (fun v s1=>wpAny (model X.prog X.w) X.A (pyIter v) (PIE X aa σ tg R) X.xe s1) X.xe s
theorem go_of {M:Model}{A:Around}{E:Value->Shared->Prop}{s:Shared}{tg:Expr}{it:Addr}{u:Value}{o:Obj}{n:String}{vs:Array Value}{Q:Unit->Shared->Prop} (ho:s.heap.get? it=some o) (hc:o.cls=.type n) (hd:o.data=.fields vs)
    (hn:["enumerate","zip","dict_itemiterator","dict_reverseitemiterator","odict_iterator","itertools.zip_longest","itertools.pairwise"].contains n=false) (hQ:Q () s):wpAny M A (letOwnedTupleGo tg (.ref it) u) Q E s:=by
  unfold letOwnedTupleGo;cases tg <;> first
    | exact Vi hQ
    | (cases u <;> first
        | exact Vi hQ
        | (refine oW (wpAny_load ho ?_)
           rw[hc,hd];show wpAny M A (if (["enumerate","zip","dict_itemiterator","dict_reverseitemiterator","odict_iterator","itertools.zip_longest","itertools.pairwise"].contains n && vs[0]? == some (rawInt _))=true then _ else _) Q E s;rw[if_neg (by intro h;rw[hn,Bool.false_and] at h;cases h)];exact Vi hQ))
def Itl (K:PySem.W.Frag) (a:Addr):It:=
 ⟨fun i H=>∃ xs x,SqL K H a xs/\xs[i]?=some x,fun i H x H'=>H'=H/\∀ xs,SqL K H a xs->xs[i]?=some x,fun i H=>∃ xs,SqL K H a xs/\xs.length<=i⟩
def Itr (lo:Int) (n:Nat):It:=⟨fun i _=>i<n,fun i H x H'=>H'=H/\x=.int (lo + i),fun i _=>n<=i⟩
theorem QV {P:Program}{w:World}{K:PySem.W.Frag}{tg:Expr} (a it:Addr):m5 P w K tg (Itl K a) [it] it (fun i h=>h.IsListIter it a i) where
 mem:=by simp
 obj:=fun i h st b hb=>by
  have e:b=it:=by simpa using hb
  subst e;obtain⟨o,e,c,d⟩:=st;exact⟨o,e,fun v z=>by rw[d] at z;cases z⟩
 keep:=fun i h h' st k=>st.at fun o e=>k it (by simp) o e
 item:=by
  intro X hP hw hK hc i aa s σ H E I hf st hg;subst hP hw hK;obtain⟨xs,x,hq,hx⟩:=hg;obtain⟨its,rv,p,hz⟩:=I.list hq;obtain⟨u,hu,ru⟩:=rv.get hx;obtain⟨f0,f1,f2,f3,f4,f5⟩:=hf it (by simp);refine XY st p.isList (x:=u) (by simpa using hu) fun h' jP sb=>?_
  have I1:Inv X aa σ H { s with heap:=h' }:=I.turned (t':=s.toks) (fun b o hb e=>(sb.2 b hb).trans e) f0 f1 f3 f4 f5;obtain⟨o,e,c,d⟩:=id jP;exact⟨u,rfl,go_of (s:={ s with heap:=h' }) e c d (by decide) ⟨x,H,I1,ru,⟨rfl,fun ys hy=>by rw[I.list_inj hy hq];exact hx⟩,jP,fun b hb=>(hf b hb).1⟩⟩
 done:=by
  intro X hP hw hK hc i aa s σ H E I hf st hg;subst hP hw hK;obtain⟨xs,hq,hx⟩:=hg;obtain⟨its,rv,p,hz⟩:=I.list hq;obtain⟨f0,f1,f2,f3,f4,f5⟩:=hf it (by simp);have hl:=rv.length;exact KL I.hd st p.isList (by simp;omega) fun h' eb=>⟨rfl,I.turned (t':=s.toks) (fun b o hb e=>eb b o hb e) f0 f1 f3 f4 f5⟩
 self:=fun _ _ _ _ _ st h=>X2 st h
theorem TL {P:Program}{w:World}{K:PySem.W.Frag}{tg:Expr} (it:Addr) (lo:Int) (n:Nat):m5 P w K tg (Itr lo n) [it] it (fun i h=>IsRangeIter h it (lo + (i:Nat) * 1) ((n:Int) - (i:Nat)) 1) where
 mem:=by simp
 obj:=fun i h st b hb=>by
  have e:b=it:=by simpa using hb
  subst e;exact⟨_,st,fun v z=>by
   have z':Data.fields _=Data.cell v:=z;cases z'⟩
 keep:=fun i h h' st k=>k it (by simp) _ st
 item:=by
  intro X hP hw hK hc i aa s σ H E I hf st hg;subst hP hw hK;obtain⟨f0,f1,f2,f3,f4,f5⟩:=hf it (by simp);refine XS st (by have:i<n:=hg;omega) fun h' st0 sb=>?_
  have jP:IsRangeIter h' it (lo + ((i + 1:Nat):Int) * 1) ((n:Int) - ((i + 1:Nat):Int)) 1:=by
   rw[show lo + ((i + 1:Nat):Int) * 1=lo + (i:Int) * 1 + 1 by omega,show(n:Int) - ((i + 1:Nat):Int)=(n:Int) - (i:Int) - 1 by omega];exact st0
  have I1:Inv X aa σ H { s with heap:=h',toks:=s.toks + 1 }:=I.turned (fun b o hb e=>sb.extBut b o hb e) f0 f1 f3 f4 f5;exact⟨_,rfl,go_of (s:={ s with heap:=h',toks:=s.toks + 1 }) (n:="range_iterator") jP rfl rfl (by decide) ⟨.int (lo + i),H,I1,⟨_,by rw[Int.mul_one]⟩,⟨rfl,rfl⟩,jP,fun b hb=>(hf b hb).1⟩⟩
 done:=by
  intro X hP hw hK hc i aa s σ H E I hf st hg;subst hP hw hK;obtain⟨f0,f1,f2,f3,f4,f5⟩:=hf it (by simp);exact LH I.hd st (by have:n<=i:=hg;omega) fun h' eb=>⟨rfl,I.turned (t':=s.toks) (fun b o hb e=>eb b o hb e) f0 f1 f3 f4 f5⟩
 self:=fun _ _ _ _ _ st h=>XZ st h
end L2
namespace L2
open PySem PySem.Spec PyProof.Rows
section
variable {X:Cx}{tg:Expr}
def iList (K:PySem.W.Frag) (tl:TE):TI:=fun σ H R=>tl σ H fun x H1=>∃ a,x=.ref a/\(∃ xs,SqL K H1 a xs)/\R (Itl K a) H1
theorem bU {l:Expr}{tl:TE} (hl:PE X l tl):PI X tg l (iList X.K tl):=by
 intro aa s σ H R I h;refine thn (hl aa s σ H _ I h) fun v s1=>L2.ex5 fun x H1 I1 r1 q1=>?_
 obtain⟨a,e,⟨xs,hq⟩,q⟩:=q1;subst e;cases r1
 obtain⟨its,rv,p,hz⟩:=I1.list hq;refine Wk p.isList ?_;refine⟨s1.heap.objs.size,[s1.heap.objs.size],_,_,H1,rfl,I1.kept (t':=s1.toks) fun b o e=>Ve _ e,QV a _,⟨_,Vm _ rfl,rfl,rfl⟩,fun b hb=>?_,q⟩;have e:b=s1.heap.objs.size:=by simpa using hb
 subst e;exact I1.fpOk (Vh _) (I1.hok.fresh (Vh _))
theorem Sy {aa:List (Addr×Obj)}{σ:St}{H:Hp}{s:Shared}{R:It->Hp->Prop}{E:Value->Shared->Prop}{lo hi:Int}{t u v:Tok}{tk:Nat} (I:Inv X aa σ H s) (h1:-(2 ^ 62)<=lo) (h2:lo<2 ^ 62) (h3:-(2 ^ 62)<=hi) (h4:hi<2 ^ 62)
  (q:R (Itr lo (hi - lo).toNat) H):wpAny (model X.prog X.w) X.A (pyIter (.ref s.heap.objs.size)) (PIE X aa σ tg R) E { s with heap:=s.heap.push { cls:=.type "range",data:=.fields #[.int lo t,.int hi u,.int 1 v] },toks:=tk }:=by
 refine Yf (IsRange.new ..) (small_one h1 h2 h3 h4) ?_;have I1:Inv X aa σ H { s with heap:=s.heap.push { cls:=.type "range",data:=.fields #[.int lo t,.int hi u,.int 1 v] },toks:=tk }:=I.kept fun b o e=>Ve _ e
 refine⟨(s.heap.push { cls:=.type "range",data:=.fields #[.int lo t,.int hi u,.int 1 v] }).objs.size,[(s.heap.push { cls:=.type "range",data:=.fields #[.int lo t,.int hi u,.int 1 v] }).objs.size],_,_,H,rfl,
  I1.kept (t':=tk) fun b o e=>Ve _ e,TL _ lo (hi - lo).toNat,?_,fun b hb=>?_,q⟩
 ·have e1:lo + ((0:Nat):Int) * 1=lo:=by simp
  have e2:(((hi - lo).toNat:Nat):Int) - ((0:Nat):Int)=Builtin.Range.rangeSize lo hi 1:=by rw[rangeSize_one];split <;> omega
  show IsRangeIter _ _ (lo + ((0:Nat):Int) * 1) ((((hi - lo).toNat:Nat):Int) - ((0:Nat):Int)) 1;rw[e1,e2];exact Vm _ rfl
 ·have e:b=(s.heap.push { cls:=.type "range",data:=.fields #[.int lo t,.int hi u,.int 1 v] }).objs.size:=by simpa using hb
  subst e;exact I1.fpOk (Vh _) (I1.hok.fresh (Vh _))
def iRng1 (ta:TA):TI:=fun σ H R=>ta σ H fun vs H1=>∃ j:Int,vs=[.int j]/\-(2 ^ 62)<=j/\j<2 ^ 62/\R (Itr 0 j.toNat) H1
theorem AQ {a:Expr}{ta:TA}{p pos:Pos} (hg:Gl X "range") (hm:X.mg "range"=none) (ha:PA X [a] ta) (hs:starEach [a] X.env=[(false,eval a X.env)]:=by rfl):PI X tg (.Call (.Name "range" p) [a] [] pos) (iRng1 ta):=by
 intro aa s σ H R I h;refine Call_ (iD I hg hm boot_range (PyProof.Rows.callWith_type1 (thn (ha pos aa s σ H _ I h) fun us s1=>L2.ex5 fun vs H1 I1 r1 q1=>?_) hs rfl));obtain⟨j,e,q1,q2,q⟩:=q1;subst e;cases r1 with
 | cons r rr=>
  cases rr
  obtain⟨t,rfl⟩:=r;exact call_range_1 (Sy I1 (by omega) (by omega) q1 q2 (by simpa using q))
def tFor (wi:TI) (g:TG) (tb:TS):TS:=fun D σ H=>wi σ H fun J H1=>∃ W:Nat->Nat->St->Hp->Prop,(∃ m,W 0 m σ H1)/\∀ i m σ H,W i m σ H ->
 (J.stop i H/\D.nx σ H)\/(J.go i H/\∃ N:St->Hp->Prop,(∀ σ' H',N σ' H'->∃ m',m'<m/\W (i + 1) m' σ' H')/\∀ x H',J.yld i H x H'->g x σ H' fun σ2 H2=>tb { D with nx:=N,ct:=N,bk:=D.nx } σ2 H2)
def zK (fp:List Addr) (h:Heap):List (Addr×Obj):=fp.filterMap fun b=>(h.get? b).map fun o=>(b,o)
theorem Bk {fp:List Addr}{h:Heap}{b:Addr}{o:Obj} (hb:b∈fp) (e:h.get? b=some o):(b,o)∈zK fp h:=List.mem_filterMap.mpr ⟨b,hb,by rw[e];rfl⟩
theorem Sc {fp:List Addr}{h:Heap}{p:Addr×Obj} (hp:p∈zK fp h):p.1∈fp/\h.get? p.1=some p.2:=by
 obtain⟨b,hb,e⟩:=List.mem_filterMap.mp hp;cases q:h.get? b with
 | none=>rw[q] at e;cases e
 | some o=>
  rw[q] at e;have e':(b,o)=p:=Option.some.inj e;subst e';exact⟨hb,q⟩
theorem Inv.pinned {aa:List (Addr×Obj)}{σ:St}{H:Hp}{s:Shared}{fp:List Addr} (I:Inv X aa σ H s) (hf:∀ b∈fp,bC X aa H b) (ho:∀ b∈fp,∃ o,s.heap.get? b=some o/\∀ v,o.data≠.cell v):Inv X (aa++zK fp s.heap) σ H s:=
 I.pins_of fun p hp=>(XW.mp hp).elim (fun z=>I.pin p (Vr _ z)) fun z=>by
  obtain⟨hb,e⟩:=Sc z;obtain⟨f0,f1,f2,_⟩:=hf p.1 hb;obtain⟨o,e',d⟩:=ho p.1 hb;rw[e] at e';cases e'
  exact⟨e,f0,f1,f2,d⟩
theorem Inv.unpinned {aa pl:List (Addr×Obj)}{σ:St}{H:Hp}{s:Shared} (I:Inv X (aa++pl) σ H s):Inv X aa σ H s:=I.pins_of fun p hp=>I.pin p (Vr _ (VN _ hp))
theorem c6 {iter:Expr}{body:List Stmt}{wi:TI}{g:TG}{tb:TS}{pos:Pos} (hp:PassesOwn (model X.prog X.w) X.A X.env X.xe) (hc:X.calm=true) (hi:PI X tg iter wi) (hg:PG X tg g) (hb:PSs X body tb)
  (hs:∀ x,foldedSetIterable iter X.env x=pure x:=by intro _;rfl):PS X (.For tg iter body [] pos) (tFor wi g tb):=by
 intro aa s σ H D I h;refine wpAny_For (thn (hi aa s σ H _ I h) fun v s1 h1=>thn h1 fun Av s2 h2=>?_) hs;obtain⟨it,fp,tn,J,H2,e,I2,T,h8,f2,W,⟨m0,w0⟩,aY⟩:=h2;subst e;have fK:∀ {H':Hp},(∀ b∈fp,H' b=none)->∀ b∈fp,bC X aa H' b:=fun hn b hb=>⟨hn b hb,(f2 b hb).2⟩
 refine codeAny_forLoop_any (fun n s'=>∃ i σ' H',Inv X aa σ' H' s'/\tn i s'.heap/\(∀ b∈fp,H' b=none)/\W i n σ' H') ?_ m0 ⟨0,σ,H2,I2,h8,fun b hb=>(f2 b hb).1,w0⟩;rintro n s3 ⟨i,σ3,H3,I3,jK,HI,w3⟩
 rcases aY i n σ3 H3 w3 with⟨stop,qn⟩|⟨go,N,hN,step⟩
 ·refine WM hp (thn (T.done X rfl rfl rfl hc i aa s3 σ3 H3 X.xe I3 (fK HI) jK stop) fun r s4 ⟨hr,I4⟩=>?_)
  subst hr;exact Xi ⟨σ3,H3,I4,qn⟩
 ·refine WM hp (thn (T.item X rfl rfl rfl hc i aa s3 σ3 H3 X.xe I3 (fK HI) jK go) fun r s4 ⟨u,hr,h4⟩=>?_)
  subst hr;refine WM hp (thn h4 fun _ s5=>L2.ex5 fun x H5 I5 r5 bi=>?_);obtain⟨y5,eh,B3⟩:=bi;have Du:=I5.pinned (fK B3) (T.obj _ _ eh);refine WM hp (thn (hg _ s5 σ3 H5 x u _ Du r5 (step x H5 y5)) fun _ s6=>L2.ex4 fun σ6 H6 I6 q6=>?_);refine WM hp (thn (hb _ s6 σ6 H6 _ I6 q6) fun f s7 q7=>?_);have again:∀ {σ7:St}{H7:Hp},Inv X (aa++zK fp s5.heap) σ7 H7 s7->N σ7 H7->∃ m,m<n/\∃ i σ' H',Inv X aa σ' H' s7/\tn i s7.heap/\(∀ b∈fp,H' b=none)/\W i m σ' H':=fun {σ7 H7} I7 n7=>by
   obtain⟨m',hm,w7⟩:=hN σ7 H7 n7;refine⟨m',hm,i + 1,σ7,H7,I7.unpinned,T.keep _ _ _ eh fun b hb o e=>(I7.pin (b,o) (Vr _ (Vr _ (Bk hb e)))).1,fun b hb=>?_,w7⟩;obtain⟨o,e,d⟩:=T.obj _ _ eh b hb;exact(I7.pin (b,o) (Vr _ (Vr _ (Bk hb e)))).2.1
  cases f with
  | next=>obtain⟨σ7,H7,I7,n7⟩:=q7;exact again I7 n7
  | cont=>obtain⟨σ7,H7,I7,n7⟩:=q7;exact again I7 n7
  | brk=>obtain⟨σ7,H7,I7,q7⟩:=q7;exact⟨σ7,H7,I7.unpinned,q7⟩
  | ret v=>obtain⟨x7,σ7,H7,I7,r7,q7⟩:=q7;exact⟨x7,σ7,H7,I7.unpinned,r7,q7⟩
end
theorem jC {K:PySem.W.Frag}{a:Addr}{xs:List V}{g:TG}{tb:TS}{D:gL}{σ:St}{H:Hp} (Pv:Nat->St->Hp->Prop) (h0:Pv 0 σ H) (hl:∀ i σ H,i<=xs.length->Pv i σ H->SqL K H a xs)
  (hs:∀ i x σ H,xs[i]?=some x->Pv i σ H->g x σ H fun σ2 H2=>tb { D with nx:=Pv (i + 1),ct:=Pv (i + 1),bk:=D.nx } σ2 H2) (hd:∀ σ H,Pv xs.length σ H->D.nx σ H) :
  ∃ W:Nat->Nat->St->Hp->Prop,(∃ m,W 0 m σ H)/\∀ i m σ H,W i m σ H ->
   ((Itl K a).stop i H/\D.nx σ H)\/((Itl K a).go i H/\∃ N:St->Hp->Prop,(∀ σ' H',N σ' H'->∃ m',m'<m/\W (i + 1) m' σ' H')/\∀ x H',(Itl K a).yld i H x H'->g x σ H' fun σ2 H2=>tb { D with nx:=N,ct:=N,bk:=D.nx } σ2 H2):=by
 refine⟨fun i m σ H=>m=xs.length - i/\i<=xs.length/\Pv i σ H,⟨xs.length,by simp,VU _,h0⟩,?_⟩;rintro i m σ H ⟨rfl,hi,p⟩
 have q:=hl i σ H hi p;by_cases aE:i<xs.length
 ·refine .inr ⟨⟨xs,xs[i],q,by simp[aE]⟩,Pv (i + 1),fun σ' H' p'=>⟨xs.length - (i + 1),by omega,rfl,aE,p'⟩,fun x H' y=>?_⟩
  obtain⟨e,y⟩:=y;subst e;exact hs i x σ _ (y xs q) p
 ·have e:i=xs.length:=by omega
  subst e;exact .inl ⟨⟨xs,q,Vh _⟩,hd σ H p⟩
theorem QY {lo:Int}{n:Nat}{g:TG}{tb:TS}{D:gL}{σ:St}{H:Hp} (Pv:Nat->St->Hp->Prop) (h0:Pv 0 σ H)
  (hs:∀ i σ H,i<n->Pv i σ H->g (.int (lo + i)) σ H fun σ2 H2=>tb { D with nx:=Pv (i + 1),ct:=Pv (i + 1),bk:=D.nx } σ2 H2) (hd:∀ σ H,Pv n σ H->D.nx σ H) :
  ∃ W:Nat->Nat->St->Hp->Prop,(∃ m,W 0 m σ H)/\∀ i m σ H,W i m σ H ->
   ((Itr lo n).stop i H/\D.nx σ H)\/((Itr lo n).go i H/\∃ N:St->Hp->Prop,(∀ σ' H',N σ' H'->∃ m',m'<m/\W (i + 1) m' σ' H')/\∀ x H',(Itr lo n).yld i H x H'->g x σ H' fun σ2 H2=>tb { D with nx:=N,ct:=N,bk:=D.nx } σ2 H2):=by
 refine⟨fun i m σ H=>m=n - i/\i<=n/\Pv i σ H,⟨n,by simp,VU _,h0⟩,?_⟩;rintro i m σ H ⟨rfl,hi,p⟩
 by_cases aE:i<n
 ·refine .inr ⟨aE,Pv (i + 1),fun σ' H' p'=>⟨n - (i + 1),by omega,rfl,aE,p'⟩,fun x H' y=>?_⟩
  obtain⟨e,y⟩:=y;subst e y;exact hs i σ _ aE p
 ·have e:i=n:=by omega
  subst e;exact .inl ⟨Vh _,hd σ H p⟩
end L2
namespace L2
open PySem PySem.Spec PyProof.Rows
abbrev R2:=V->V->Hp->VK->Prop
def OpR (X:Cx) (f:Value->Value->Sem Value) (r:R2):Prop:=
 ∀ (aa:List (Addr×Obj)) (s:Shared) (σ:St) (H:Hp) (x y:V) (v u:Value) (Q:VK),Inv X aa σ H s->av x v->av y u->r x y H Q ->
  wpAny (model X.prog X.w) X.A (f v u) (EP X aa σ Q) X.xe s
def UnR (X:Cx) (f:Value->Sem Value) (r:V->Hp->VK->Prop):Prop:=
 ∀ (aa:List (Addr×Obj)) (s:Shared) (σ:St) (H:Hp) (x:V) (v:Value) (Q:VK),Inv X aa σ H s->av x v->r x H Q ->
  wpAny (model X.prog X.w) X.A (f v) (EP X aa σ Q) X.xe s
def iC (X:Cx) (f:Value) (r:List V->Hp->VK->Prop):Prop:=
 ∀ (aa:List (Addr×Obj)) (s:Shared) (σ:St) (H:Hp) (xs:List V) (us:List Value) (Q:VK),Inv X aa σ H s->aw xs us->r xs H Q ->
  wpAny (model X.prog X.w) X.A (call f us) (EP X aa σ Q) X.xe s
def tOp (r:R2) (ta tb:TE):TE:=fun σ H Q=>ta σ H fun x H1=>tb σ H1 fun y H2=>r x y H2 Q
def tUn (r:V->Hp->VK->Prop) (ta:TE):TE:=fun σ H Q=>ta σ H fun x H1=>r x H1 Q
def rI (C:Int->Int->Prop) (g:Int->Int->V):R2:=fun x y H Q=>∃ i j,x=.int i/\y=.int j/\C i j/\Q (g i j) H
def rI0 (g:Int->Int->V):R2:=fun x y H Q=>∃ i j,x=.int i/\y=.int j/\Q (g i j) H
def rU (g:Int->V):V->Hp->VK->Prop:=fun x H Q=>∃ i,x=.int i/\Q (g i) H
section
variable {X:Cx}{a b c:Expr}{ta tb tc:TE}{pos:Pos}
theorem binT (ha:PE X a ta) (hb:PE X b tb){aa:List (Addr×Obj)}{s:Shared}{σ:St}{H:Hp}{R:V->V->Hp->Prop} (I:Inv X aa σ H s)
  (h:ta σ H fun x H1=>tb σ H1 fun y H2=>R x y H2){Q:Value->Shared->Prop}{f:Value->Value->Sem Value}
  (hf:∀ v u s2 x y H2,Inv X aa σ H2 s2->av x v->av y u->R x y H2->wpAny (model X.prog X.w) X.A (f v u) Q X.xe s2) :
  wpAny (model X.prog X.w) X.A (eval a X.env) (fun v s₁=>wpAny (model X.prog X.w) X.A (eval b X.env) (fun u s₂=>wpAny (model X.prog X.w) X.A (f v u) Q X.xe s₂) X.xe s₁) X.xe s:=by
 refine thn (ha aa s σ H _ I h) fun v s1=>L2.ex5 fun x H1 I1 r1 q1=>?_
 refine thn (hb aa s1 σ H1 _ I1 q1) fun u s2=>L2.ex5 fun y H2 I2 r2 q2=>?_
 exact hf v u s2 x y H2 I2 r1 r2 q2
theorem ay {op:Operator}{r:R2} (ho:OpR X (binaryOp op) r) (ha:PE X a ta) (hb:PE X b tb):PE X (.BinOp a op b pos) (tOp r ta tb):=by
 intro aa s σ H Q I h;exact wpAny_BinOp (binT ha hb I h fun v u s2 x y H2 I2 rx ry q=>ho aa s2 σ H2 x y v u Q I2 rx ry q)
theorem pe_un {op:UnaryOp}{r:V->Hp->VK->Prop} (ho:UnR X (unaryOp op) r) (ha:PE X a ta):PE X (.UnaryOp op a pos) (tUn r ta):=by
 intro aa s σ H Q I h;exact UnaryOp_ (thn (ha aa s σ H _ I h) fun v s1=>L2.ex5 fun x H1 I1 r1 q1=>ho aa s1 σ H1 x v Q I1 r1 q1)
theorem opI {f:Value->Value->Sem Value}{C:Int->Int->Prop}{g:Int->Int->Int}
  (rule:∀ (i j:Int) (t u:Tok) (s:Shared) (Q:Value->Shared->Prop) (E:Value->Shared->Prop),C i j->Q (.int (g i j) s.toks) { s with toks:=s.toks + 1 }->wpAny (model X.prog X.w) X.A (f (.int i t) (.int j u)) Q E s) :
  OpR X f (rI C fun i j=>.int (g i j)):=by
 intro aa s σ H x y v u Q I rx ry h;obtain⟨i,j,rfl,rfl,hc,q⟩:=h;obtain⟨t,rfl⟩:=rx;obtain⟨t',rfl⟩:=ry;exact rule i j t t' s _ _ hc ⟨.int (g i j),H,I.tok _,⟨_,rfl⟩,q⟩
theorem opI0 {f:Value->Value->Sem Value}{g:Int->Int->Int}
  (rule:∀ (i j:Int) (t u:Tok) (s:Shared) (Q:Value->Shared->Prop) (E:Value->Shared->Prop),Q (.int (g i j) s.toks) { s with toks:=s.toks + 1 }->wpAny (model X.prog X.w) X.A (f (.int i t) (.int j u)) Q E s) :
  OpR X f (rI0 fun i j=>.int (g i j)):=by
 intro aa s σ H x y v u Q I rx ry h;obtain⟨i,j,rfl,rfl,q⟩:=h;obtain⟨t,rfl⟩:=rx;obtain⟨t',rfl⟩:=ry;exact rule i j t t' s _ _ ⟨.int (g i j),H,I.tok _,⟨_,rfl⟩,q⟩
theorem opB0 {f:Value->Value->Sem Value}{g:Int->Int->Bool}
  (rule:∀ (i j:Int) (t u:Tok) (s:Shared) (Q:Value->Shared->Prop) (E:Value->Shared->Prop),Q (.bool (g i j)) s->wpAny (model X.prog X.w) X.A (f (.int i t) (.int j u)) Q E s) :
  OpR X f (rI0 fun i j=>.bl (g i j)):=by
 intro aa s σ H x y v u Q I rx ry h;obtain⟨i,j,rfl,rfl,q⟩:=h;obtain⟨t,rfl⟩:=rx;obtain⟨t',rfl⟩:=ry;exact rule i j t t' s _ _ ⟨.bl (g i j),H,I,rfl,q⟩
def CDiv (i j:Int):Prop:=0<j/\j<1073741824
def CPow (i j:Int):Prop:=0<=j/\j<=1000000/\i.natAbs<2 ^ 64
def CMul (i j:Int):Prop:=(-(2 ^ 64)<i/\i<2 ^ 64)\/(-(2 ^ 64)<j/\j<2 ^ 64)
theorem CMul.ok {i j:Int} (h:CMul i j):IntMulOk i j:=by
 rcases h with⟨h1,h2⟩|⟨h1,h2⟩
 ·exact .of_left (intBits_le_64 h1 h2)
 ·exact .of_right (intBits_le_64 h1 h2)
theorem cu:OpR X (binaryOp .Add) (rI0 fun i j=>.int (i + j)):=opI0 fun _ _ _ _ _ _ _ q=>add_int q
theorem iE:OpR X (binaryOp .Sub) (rI0 fun i j=>.int (i - j)):=opI0 fun _ _ _ _ _ _ _ q=>sub_int q
theorem jG:OpR X (binaryOp .Mult) (rI CMul fun i j=>.int (i * j)):=opI fun _ _ _ _ _ _ _ hc q=>mul_int q hc.ok
theorem AR:OpR X (binaryOp .FloorDiv) (rI CDiv fun i j=>.int (i / j)):=opI fun i j _ _ _ _ _ hc q=>by
 have h1:(0:Int)<j:=hc.1;have h2:j<1073741824:=hc.2;exact floordiv_int (by omega) (by rw[XA i (by omega)];exact q) (.inl (PyProof.noPylong_small (by omega)))
theorem cE:OpR X (binaryOp .Mod) (rI (fun _ j=>0<j) fun i j=>.int (i % j)):=opI fun i j _ _ _ _ _ hc q=>by
 have h1:(0:Int)<j:=hc;exact mod_int' (by omega) (by rw[Int.fmod_eq_emod_of_nonneg i (by omega)];exact q)
theorem LZ:OpR X (binaryOp .Pow) (rI CPow fun i j=>.int (i ^ j.toNat)):=opI fun _ _ _ _ _ _ _ hc q=>pow_int_small hc.1 hc.2.1 hc.2.2 q
theorem unI {f:Value->Sem Value}{g:Int->Int}
  (rule:∀ (i:Int) (t:Tok) (s:Shared) (Q:Value->Shared->Prop) (E:Value->Shared->Prop),Q (.int (g i) s.toks) { s with toks:=s.toks + 1 }->wpAny (model X.prog X.w) X.A (f (.int i t)) Q E s) :
  UnR X f (rU fun i=>.int (g i)):=by
 intro aa s σ H x v Q I rx h;obtain⟨i,rfl,q⟩:=h;obtain⟨t,rfl⟩:=rx;exact rule i t s _ _ ⟨.int (g i),H,I.tok _,⟨_,rfl⟩,q⟩
theorem un_neg:UnR X (unaryOp .USub) (rU fun i=>.int (-i)):=unI fun _ _ _ _ _ q=>neg_int q
end
def scal:V->V->Bool
 | .non,.non=>true | .non,.int _=>true | .int _,.non=>true | .non,.bl _=>true | .bl _,.non=>true | .non,.str _=>true | .str _,.non=>true
 | .int _,.int _=>true | .bl _,.bl _=>true | .str _,.str _=>true | .byt _,.byt _=>true
 | .int _,.str _=>true | .str _,.int _=>true | .bl _,.str _=>true | .str _,.bl _=>true
 | _,_=>false
def rEq:R2:=fun x y H Q=>scal x y=true/\Q (.bl (decide (x=y))) H
def rNe:R2:=fun x y H Q=>scal x y=true/\Q (.bl (!decide (x=y))) H
theorem JF {i j:Int}:decide (V.int i=V.int j)=(i == j):=by
 rw[Xj];simp
theorem JV {i j:Bool}:decide (V.bl i=V.bl j)=(i == j):=by
 rw[Xj];simp
theorem J7 {i j:Str}:decide (V.str i=V.str j)=(i == j):=by
 rw[Xj];simp
theorem Js {i j:Array UInt8}:decide (V.byt i=V.byt j)=(i.toList == j.toList):=by
 rw[Xj];cases i
 cases j
 simp
section
variable {X:Cx}{a b c:Expr}{ta tb tc:TE}{pos:Pos}
theorem bL {aa:List (Addr×Obj)}{σ:St}{H:Hp}{s:Shared}{Q:VK}{k k':Bool} (I:Inv X aa σ H s) (q:Q (.bl k) H) (e:k=k'):EP X aa σ Q (.bool k') s:=by
 subst e;exact⟨.bl k,H,I,rfl,q⟩
theorem qW:OpR X (compareOp .Eq) rEq:=by
 intro aa s σ H x y v u Q I rx ry h;obtain⟨hs,q⟩:=h;cases x with
 | non=>
  cases rx
  cases y with
  | non=>cases ry;exact PySem.EqNone.eq_none_none (bL I q (by simp))
  | bl j=>cases ry;exact PySem.EqNone.eq_none_bool (bL I q (by simp))
  | int j=>obtain⟨t',rfl⟩:=ry;exact PySem.EqNone.eq_none_int (bL I q (by simp))
  | str j=>obtain⟨t',rfl⟩:=ry;exact PySem.EqNone.eq_none_str (bL I q (by simp))
  | _=>exact absurd (show false=true from hs) Vu
 | bl i=>
  cases rx
  cases y with
  | non=>cases ry;exact PySem.EqNone.eq_bool_none (bL I q (by simp))
  | bl j=>cases ry;exact eq_bool (bL I q JV)
  | str j=>obtain⟨t',rfl⟩:=ry;exact PySem.EqMixed.eq_bool_str (bL I q (by simp))
  | _=>exact absurd (show false=true from hs) Vu
 | int i=>
  obtain⟨t,rfl⟩:=rx;cases y with
  | non=>cases ry;exact PySem.EqNone.eq_int_none (bL I q (by simp))
  | int j=>obtain⟨t',rfl⟩:=ry;exact eq_int (bL I q JF)
  | str j=>obtain⟨t',rfl⟩:=ry;exact PySem.EqMixed.eq_int_str (bL I q (by simp))
  | _=>exact absurd (show false=true from hs) Vu
 | str i=>
  obtain⟨t,rfl⟩:=rx;cases y with
  | non=>cases ry;exact PySem.EqNone.eq_str_none (bL I q (by simp))
  | bl j=>cases ry;exact PySem.EqMixed.eq_str_bool (bL I q (by simp))
  | int j=>obtain⟨t',rfl⟩:=ry;exact PySem.EqMixed.eq_str_int (bL I q (by simp))
  | str j=>obtain⟨t',rfl⟩:=ry;exact eq_str (bL I q J7)
  | _=>exact absurd (show false=true from hs) Vu
 | byt i=>
  obtain⟨t,rfl⟩:=rx;cases y with
  | byt j=>obtain⟨t',rfl⟩:=ry;exact PySem.W.eq_bytes (bL I q Js)
  | _=>exact absurd (show false=true from hs) Vu
 | _=>cases y <;> exact absurd (show false=true from hs) Vu
theorem op_ne:OpR X (compareOp .NotEq) rNe:=by
 intro aa s σ H x y v u Q I rx ry h;obtain⟨hs,q⟩:=h;cases x with
 | non=>
  cases rx
  cases y with
  | non=>cases ry;exact PySem.EqNone.ne_none_none (bL I q (by simp))
  | bl j=>cases ry;exact PySem.EqNone.ne_none_bool (bL I q (by simp))
  | int j=>obtain⟨t',rfl⟩:=ry;exact PySem.EqNone.ne_none_int (bL I q (by simp))
  | str j=>obtain⟨t',rfl⟩:=ry;exact PySem.EqNone.ne_none_str (bL I q (by simp))
  | _=>exact absurd (show false=true from hs) Vu
 | bl i=>
  cases rx
  cases y with
  | non=>cases ry;exact PySem.EqNone.ne_bool_none (bL I q (by simp))
  | bl j=>cases ry;exact ne_bool (bL I q (congrArg not JV))
  | str j=>obtain⟨t',rfl⟩:=ry;exact PySem.EqMixed.ne_bool_str (bL I q (by simp))
  | _=>exact absurd (show false=true from hs) Vu
 | int i=>
  obtain⟨t,rfl⟩:=rx;cases y with
  | non=>cases ry;exact PySem.EqNone.ne_int_none (bL I q (by simp))
  | int j=>obtain⟨t',rfl⟩:=ry;exact ne_int (bL I q (congrArg not JF))
  | str j=>obtain⟨t',rfl⟩:=ry;exact PySem.EqMixed.ne_int_str (bL I q (by simp))
  | _=>exact absurd (show false=true from hs) Vu
 | str i=>
  obtain⟨t,rfl⟩:=rx;cases y with
  | non=>cases ry;exact PySem.EqNone.ne_str_none (bL I q (by simp))
  | bl j=>cases ry;exact PySem.EqMixed.ne_str_bool (bL I q (by simp))
  | int j=>obtain⟨t',rfl⟩:=ry;exact PySem.EqMixed.ne_str_int (bL I q (by simp))
  | str j=>obtain⟨t',rfl⟩:=ry;exact ne_str (bL I q (congrArg not J7))
  | _=>exact absurd (show false=true from hs) Vu
 | byt i=>
  obtain⟨t,rfl⟩:=rx;cases y with
  | byt j=>obtain⟨t',rfl⟩:=ry;exact PySem.W.ne_bytes (bL I q (congrArg not Js))
  | _=>exact absurd (show false=true from hs) Vu
 | _=>cases y <;> exact absurd (show false=true from hs) Vu
theorem zM:OpR X (compareOp .Lt) (rI0 fun i j=>.bl (decide (i<j))):=opB0 fun _ _ _ _ _ _ _ q=>lt_int q
theorem op_le:OpR X (compareOp .LtE) (rI0 fun i j=>.bl (decide (i<=j))):=opB0 fun _ _ _ _ _ _ _ q=>le_int q
theorem mY:OpR X (compareOp .Gt) (rI0 fun i j=>.bl (decide (j<i))):=opB0 fun _ _ _ _ _ _ _ q=>gt_int q
theorem op_ge:OpR X (compareOp .GtE) (rI0 fun i j=>.bl (decide (j<=i))):=opB0 fun _ _ _ _ _ _ _ q=>ge_int q
theorem bY (b:Expr){op:CmpOp} (h:op≠.In:=by decide) (h2:op≠.NotIn:=by decide):behindInMarks op b=false:=by
 have e1:(op == CmpOp.In)=false:=by cases op <;> first|rfl|exact absurd rfl h
 have e2:(op == CmpOp.NotIn)=false:=by cases op <;> first|rfl|exact absurd rfl h2
 cases b <;> simp[behindInMarks,e1,e2]
theorem qk {op:CmpOp}{r:R2} (ho:OpR X (compareOp op) r) (ha:PE X a ta) (hb:PE X b tb) (hm:behindInMarks op b=false):PE X (.Compare a [op] [b] pos) (tOp r ta tb):=by
 intro aa s σ H Q I h;exact wpAny_Compare1 (binT ha hb I h fun v u s2 x y H2 I2 rx ry q=>ho aa s2 σ H2 x y v u Q I2 rx ry q) hm
def tTest (t:TE):TT:=fun σ H Q=>t σ H fun x H'=>∃ k,x=.bl k/\Q k H'
theorem dH {op:CmpOp}{r:R2} (ho:OpR X (compareOp op) r) (ha:PE X a ta) (hb:PE X b tb) (hm:behindInMarks op b=false):PT X (.Compare a [op] [b] pos) (tTest (tOp r ta tb)):=by
 intro aa s σ H Q I h;refine X1 (thn (ha aa s σ H _ I h) fun v s1=>L2.ex5 fun x H1 I1 r1 q1=>thn (hb aa s1 σ H1 _ I1 q1) fun u s2=>L2.ex5 fun y H2 I2 r2 q2=>
  thn (ho aa s2 σ H2 x y v u _ I2 r1 r2 q2) fun c s3 ⟨z,H3,I3,r3,k,e,q3⟩=>?_) hm
 subst e;cases r3
 exact Ws ⟨H3,I3,q3⟩
theorem zX:(sizeLine:Nat)<2 ^ 63:=by rw[Vo];decide
theorem hU {x:V}{us:List Value} (r:aw [x] us):∃ u,us=[u]/\av x u:=by
 cases r with
 | cons r1 r2=>cases r2;exact⟨_,rfl,r1⟩
theorem y9 {x y:V}{us:List Value} (r:aw [x,y] us):∃ u w',us=[u,w']/\av x u/\av y w':=by
 cases r with
 | cons r1 r2=>
  cases r2 with
  | cons r3 r4=>cases r4;exact⟨_,_,rfl,r1,r3⟩
theorem QO:iC X (.builtin "abs") (fun xs H Q=>∃ i,xs=[.int i]/\Q (.int (if i<0 then -i else i)) H):=by
 intro aa s σ H xs us Q I r h;obtain⟨i,rfl,q⟩:=h;obtain⟨u,rfl,t,rfl⟩:=hU r;exact call_abs_int fun u tk=>⟨.int (if i<0 then -i else i),H,I.tok _,⟨_,rfl⟩,q⟩
end
end L2
namespace L2
open PySem PySem.Spec PyProof.Rows
structure pR (h:Heap) (x dx C:Addr) (mA:Str->Option Value):Prop where
 obj:h.get? x=some (PySem.W.instObj C dx)
 ns:h.Ns1 dx mA
 ne:dx≠x
theorem SU {h:Heap}{dx:Addr}{mA:Str->Option Value} (n:h.Ns1 dx mA):∃ od,h.get? dx=some od/\∀ name,PySem.W.lookIn name od=some (mA name):=by
 obtain⟨o,es,ep,ho,hd,hk,_,hm⟩:=n;refine⟨o,ho,fun name=>?_⟩;have e:=hm name;unfold nsFind findBy at e;rw[<- Array.find?_toList] at e;unfold PySem.W.lookIn;rw[hd];dsimp only;split
 ·rename_i y q
  rw[q] at e;exact congrArg some e
 ·rename_i q
  rw[q] at e;have a:es.toList.any (·.refKey)=false:=by
   rw[List.any_eq_false];intro y hy;obtain⟨z,t,cz⟩:=hk y (Array.mem_toList_iff.mp hy);simp[DictEntry.refKey,cz]
  have a':¬ es.toList.any (·.refKey)=true:=by rw[a];exact Vu
  rw[if_neg a'];exact congrArg some e
theorem pR.look {h:Heap}{x dx C:Addr}{mA:Str->Option Value} (I:pR h x dx C mA):∃ od,PySem.W.InstAt h x (PySem.W.instObj C dx) C (some od)/\∀ name,PySem.W.lookIn name od=some (mA name):=
 let ⟨od,ho,hl⟩:=SU I.ns
 ⟨od,⟨I.obj,rfl,rfl,ho⟩,hl⟩
section
variable {prog:Program}{w:World}{A:Around}{E:Value->Shared->Prop}{s:Shared}{K:PySem.W.Frag}{x dx C f:Addr}{mA:Str->Option Value}{name:Str}{v:Value}
theorem Th {expr:Bool}{Q:Value->Shared->Prop} (X:K.In s.heap) (I:pR s.heap x dx C mA) (hg:PySem.W.plainGet K C name=true) (hh:PySem.W.hasDictIn K C=true)
  (ha:PySem.W.findIn K (.ref C) name=some none) (hv:mA name=some v) (eE:PySem.W.handedIn v=true) (h:Q v { s with toks:=s.toks + 1 }) :
  wpAny (model prog w) A (getAttr (.ref x) name expr) Q E s:=by
 obtain⟨od,J,hl⟩:=I.look;exact PySem.W.get_value X J (PySem.W.plainGet_of hg).1 (PySem.W.findObj_own hh ha rfl (by rw[hl,hv])) eE h
theorem Ry {pl:Sem Bool}{Q:Value×List Value->Shared->Prop} (X:K.In s.heap) (I:pR s.heap x dx C mA) (hg:PySem.W.plainGet K C name=true)
  (hf:PySem.W.findIn K (.ref C) name=some (some (.ref f))) (ht:PySem.W.isFn K (.ref f)=true) (hv:mA name=none) (h:Q (.ref f,[.ref x]) s) :
  wpAny (model prog w) A (getMethod (.ref x) name pl) Q E s:=by
 obtain⟨od,J,hl⟩:=I.look;exact PySem.W.method_fn X J (PySem.W.plainGet_of hg).1 (PySem.W.plainGet_of hg).2 hf (beq_iff_eq.mp ht) (by show(PySem.W.lookIn name od).map (·.isSome)=some false;rw[hl,hv];rfl) h
theorem Q7 {ns:List Str}{Q:Unit->Shared->Prop} (X:K.In s.heap) (I:pR s.heap x dx C mA)
  (hs:PySem.W.findIn K (.ref C) "__setattr__"=some (some (.builtin "object.__setattr__"))) (hp:PySem.W.plainOver K C=true) (ht:PySem.W.takerIn K C name=some none) (hh:PySem.W.hasDictIn K C=true)
  (hw:PySem.Within mA ns) (hsz:ns.length<=sizeLine)
  (h:∀ h',pR h' x dx C (fun y=>if y=name then some v else mA y)->Heap.SameBut dx s.heap h'->Q () { s with heap:=h',toks:=s.toks + 2 }) :
  wpAny (model prog w) A (setAttr (.ref x) name v) Q E s:=by
 obtain⟨od,J,hl⟩:=I.look;refine PySem.W.set_plain X J hs (PySem.W.osa_open (s:={ s with toks:=s.toks + 1 }) (r:=none) X J hp ht fun b=>?_);obtain⟨cd,hc,cH⟩:=PySem.W.any_some hh;have hx:s.heap.get? x=some ⟨.ref C,some dx,.plain,#[]⟩:=I.obj;refine oW (Vi (oW (oW (wpAny_loadPart hx (oW (PySem.W.Looks.here (s:={ s with toks:=s.toks + 1 }) (PySem.W.looks_clsIn X hc) ?_))))));rw[cH];refine Vi (a:=some dx) (oW (Vi (oW ?_)));refine wpAny_nsSet1 (s:={ s with toks:=s.toks + 1 }) I.ns fun h' oQ et=>?_
 obtain⟨oD,OJ,MD,DA,EF,CT⟩:=oQ.count (PySem.Within.cons name v hw);refine oW (wpAny_lookBehind DA (by rw[EF];exact pastItsLine_dict (VL CT (by rw[Vw];omega))) ?_);exact Vi (h _ ⟨(et.2 _ (Ne.symm I.ne)).trans I.obj,oQ,I.ne⟩ et)
theorem SE {R:Result->Shared->Prop}{vs:List Value}{kw:List (Str×Value)} (X:K.In s.heap) (hm:PySem.W.makesIn K C=true)
  (hi:PySem.W.findIn K (.ref C) "__init__"=some (some (.ref f))) (hf:PySem.W.typeIn K (.ref f)=some (.type "function"))
  (h:codeAny (model prog w) (A.under (.builtin "type.__call__" ⟨.ref C::vs,kw⟩)) (.call (.ref f) ⟨.ref (s.heap.objs.size + 1)::vs,kw⟩) (PySem.W.InitBack (s.heap.objs.size + 1) R)
   { s with heap:=(s.heap.push PySem.W.emptyDict).push (PySem.W.instObj C s.heap.objs.size) }) :
  codeAny (model prog w) A (.call (.ref C) ⟨vs,kw⟩) R s:=by
 obtain⟨hh,g,d,t,os⟩:=s;exact PySem.W.make_core (PySem.W.makes_of X hm) (PySem.W.looks_findIn X hi) (fun self=>PySem.W.bind_fn X self hf) (.inl rfl) h
end
def bw (f:Str) (v:V):List (Str×V)->List (Str×V)
 | []=>[(f,v)]
 | (g,x)::r=>if g=f then(g,v)::r else(g,x)::bw f v r
theorem LT (f g:Str) (v:V):∀ fs:List (Str×V),(bw f v fs).lookup g=if g=f then some v else fs.lookup g
 | []=>by
  show List.lookup g [(f,v)]=_;by_cases h:g=f
  ·have hb:(g == f)=true:=beq_iff_eq.mpr h
   simp only[List.lookup,hb,if_pos h]
  ·have hb:(g == f)=false:=beq_eq_false_iff_ne.mpr h
   simp only[List.lookup,hb,if_neg h]
 | (k,x)::r=>by
  have ih:=LT f g v r;rw[show bw f v ((k,x)::r)=(if k=f then(k,v)::r else(k,x)::bw f v r) from rfl];by_cases hk:k=f
  ·rw[if_pos hk]
   by_cases h:g=k
   ·have hb:(g == k)=true:=beq_iff_eq.mpr h
    simp only[List.lookup,hb,if_pos (h.trans hk)]
   ·have hb:(g == k)=false:=beq_eq_false_iff_ne.mpr h
    simp only[List.lookup,hb,if_neg (fun e:g=f=>h (e.trans hk.symm))]
  ·rw[if_neg hk]
   by_cases h:g=k
   ·have hb:(g == k)=true:=beq_iff_eq.mpr h
    simp only[List.lookup,hb,if_neg (fun e:g=f=>hk (h.symm.trans e))]
   ·have hb:(g == k)=false:=beq_eq_false_iff_ne.mpr h
    simp only[List.lookup,hb]
    exact ih
theorem Gj (f:Str) (v:V):∀ fs:List (Str×V),f∈(bw f v fs).map (·.1)/\∀ g,g∈fs.map (·.1)->g∈(bw f v fs).map (·.1)
 | []=>⟨by simp[bw],fun g h=>by simp at h⟩
 | (k,x)::r=>by
  obtain⟨i1,i2⟩:=Gj f v r;rw[show bw f v ((k,x)::r)=(if k=f then(k,v)::r else(k,x)::bw f v r) from rfl];by_cases hk:k=f
  ·rw[if_pos hk]
   subst hk;exact⟨by simp,fun g h=>by simpa using h⟩
  ·rw[if_neg hk]
   refine⟨?_,fun g h=>?_⟩
   ·rw[Wg]
    exact Vt _ i1
   ·rw[Wg] at h ⊢
    rcases VH.mp h with e|e
    ·exact VH.mpr (.inl e)
    ·exact Vt _ (i2 g e)
theorem L0 (f:Str) (v:V):∀ fs:List (Str×V),(bw f v fs).length<=fs.length + 1
 | []=>by simp[bw]
 | (k,x)::r=>by
  have ih:=L0 f v r;rw[show bw f v ((k,x)::r)=(if k=f then(k,v)::r else(k,x)::bw f v r) from rfl];by_cases hk:k=f
  ·rw[if_pos hk,Vw,Vw];omega
  ·rw[if_neg hk,Vw,Vw];omega
theorem dJ.some_of {v:V}{o:Option Value} (r:dJ (some v) o):∃ u,o=some u/\av v u:=by
 cases o with
 | none=>exact(show False from r).elim
 | some u=>exact⟨u,rfl,r⟩
theorem dJ.none_of {o:Option Value} (r:dJ none o):o=none:=by
 cases o with
 | none=>rfl
 | some u=>exact(show False from r).elim
theorem Ro {v:V}{u:Value} (r:av v u):PySem.W.handedIn u=true:=by
 cases v with
 | non=>cases (show u=Value.none from r);rfl
 | bl b=>cases (show u=Value.bool b from r);rfl
 | int i=>obtain⟨t,e⟩:=(show ∃ t,u=Value.int i t from r);cases e;rfl
 | str x=>obtain⟨t,e⟩:=(show ∃ t,u=Value.str x t from r);cases e;rfl
 | byt b=>obtain⟨t,e⟩:=(show ∃ t,u=Value.bytes b t from r);cases e;rfl
 | flt b=>obtain⟨t,e⟩:=(show ∃ t,u=Value.float b t from r);cases e;rfl
 | ref a=>cases (show u=Value.ref a from r);rfl
 | ty n=>cases (show u=Value.type n from r);rfl
section
variable {P:Program}{w:World}{H H':Hp}{h h':Heap}{a C dx:Addr}{fs PD:List (Str×V)}
theorem Gn (hok:HOk P w H h) (e:H a=some (.ins C dx fs)):∃ mA,pR h a dx C mA/\(∀ f,dJ (fs.lookup f) (mA f))/\PySem.Within mA (fs.map (·.1))/\fs.length<=1000/\H dx=some (.own a):=by
 obtain⟨d,z,ne,ob,mA,n,r,q⟩:=(show cY P w H h a (.ins C dx fs) from hok a _ e);exact⟨mA,⟨ob,n,ne⟩,r,q,z,d⟩
end
structure Cls (K:PySem.W.Frag) (C:Addr):Prop where
 pg:PySem.W.plainGet K C Str.empty=true
 hd:PySem.W.hasDictIn K C=true
 po:PySem.W.plainOver K C=true
 sa:PySem.W.findIn K (.ref C) "__setattr__"=some (some (.builtin "object.__setattr__"))
theorem Cls.get {K:PySem.W.Frag}{C:Addr} (c:Cls K C) (f:Str):PySem.W.plainGet K C f=true:=c.pg
def gH (K:PySem.W.Frag) (C:Addr) (f:Str):Prop:=PySem.W.findIn K (.ref C) f=some none
theorem gH.taker {K:PySem.W.Frag}{C:Addr}{f:Str} (n:gH K C f):PySem.W.takerIn K C f=some none:=by
 unfold PySem.W.takerIn;rw[show PySem.W.findIn K (.ref C) f=some none from n];rfl
structure Con (K:PySem.W.Frag) (C:Addr) (f:Str) (v:V) (u:Value):Prop where
 at_:PySem.W.findIn K (.ref C) f=some (some u)
 rel:av v u
 get:PySem.W.specialIn K u "__get__"=some none
 cp:PySem.W.copiedNames.contains f=false
structure Meth (K:PySem.W.Frag) (C:Addr) (m:Str) (f:Addr):Prop where
 at_:PySem.W.findIn K (.ref C) m=some (some (.ref f))
 fn:PySem.W.isFn K (.ref f)=true
 kp:PySem.W.keepIn K (.ref f)=true
section
variable {X:Cx}{aa:List (Addr×Obj)}{σ:St}{H:Hp}{s:Shared}{a C dx:Addr}{fs:List (Str×V)}{f:Str}{v:V}{A:Around}{E:Value->Shared->Prop}
theorem TC {b:Bool}{Q:Value->Shared->Prop} (I:Inv X aa σ H s) (e:H a=some (.ins C dx fs)) (c:Cls X.K C) (n:gH X.K C f) (l:fs.lookup f=some v)
  (h:∀ u s',Inv X aa σ H s'->av v u->Q u s'):wpAny (model X.prog X.w) A (getAttr (.ref a) f b) Q E s:=by
 obtain⟨mA,O,r,_,_,_⟩:=Gn I.hok e;obtain⟨u,hu,ru⟩:=dJ.some_of (v:=v) (o:=mA f) (by rw[<- l];exact r f);exact Th I.kIn O (c.get f) c.hd n hu (Ro ru) (h u _ (I.tok _) ru)
theorem SM {m:Str}{g:Addr}{pl:Sem Bool}{Q:Value×List Value->Shared->Prop} (I:Inv X aa σ H s) (e:H a=some (.ins C dx fs)) (c:Cls X.K C) (k:Meth X.K C m g) (l:fs.lookup m=none)
  (h:Q (.ref g,[.ref a]) s):wpAny (model X.prog X.w) A (getMethod (.ref a) m pl) Q E s:=by
 obtain⟨mA,O,r,_,_,_⟩:=Gn I.hok e;have hn:mA m=none:=dJ.none_of (by rw[<- l];exact r m);exact Ry I.kIn O (c.get m) k.at_ k.fn hn h
theorem Qd {y:V}{u:Value}{Q:Unit->Shared->Prop} (I:Inv X aa σ H s) (e:H a=some (.ins C dx fs)) (c:Cls X.K C) (n:gH X.K C f) (hl:fs.length<1000) (ry:av y u)
  (h:∀ s',Inv X aa σ (upd H a (.ins C dx (bw f y fs))) s'->Q () s'):wpAny (model X.prog X.w) A (setAttr (.ref a) f u) Q E s:=by
 obtain⟨mA,O,r,wi,_,ho⟩:=Gn I.hok e;have hz:(fs.map (·.1)).length<=sizeLine:=by rw[Vd,Vo];omega
 refine Q7 I.kIn O c.sa c.po n.taker c.hd wi hz fun h' O' sb=>h _ ?_
 have hd:∃ o,h'.get? dx=some o:=let ⟨o,_,_,e',_⟩:=O'.ns;⟨o,e'⟩
 refine I.write (x:=a) (e:=dx) (by rw[e];exact True.intro) (.inr ho) (fun b q hb z=>(sb.2 b hb).trans z) hd ?_;refine⟨by rw[aj O.ne];exact ho,?_,O.ne,O'.obj,_,O'.ns,fun g=>?_,fun g hg=>?_⟩
 ·have:=L0 f y fs;omega
 ·show dJ ((bw f y fs).lookup g) (if g=f then some u else mA g)
  rw[LT];by_cases q:g=f
  ·rw[if_pos q,if_pos q];exact ry
  ·rw[if_neg q,if_neg q];exact r g
 ·by_cases q:g=f
  ·rw[q];exact(Gj f y fs).1
  ·refine(Gj f y fs).2 g (wi g fun z=>hg ?_)
   show(if g=f then some u else mA g)=none;rw[if_neg q];exact z
theorem Inv.made (I:Inv X aa σ H s):Inv X aa σ (upd (upd H s.heap.objs.size (.own (s.heap.objs.size + 1))) (s.heap.objs.size + 1) (.ins C s.heap.objs.size []))
  { s with heap:=(s.heap.push PySem.W.emptyDict).push (PySem.W.instObj C s.heap.objs.size) }:=by
 have e1:(s.heap.push PySem.W.emptyDict).get? s.heap.objs.size=some PySem.W.emptyDict:=Vm s.heap rfl;have e2:((s.heap.push PySem.W.emptyDict).push (PySem.W.instObj C s.heap.objs.size)).get? (s.heap.objs.size + 1)=some (PySem.W.instObj C s.heap.objs.size):=by
  have:=Vm (s.heap.push PySem.W.emptyDict) (o:=PySem.W.instObj C s.heap.objs.size) rfl
  rwa [VI] at this
 have e3:(s.heap.push PySem.W.emptyDict).Ns s.heap.objs.size (fun _=>none):=⟨PySem.W.emptyDict,#[],_,e1,rfl,(fun e he=>absurd he (by simp)),fun _=>rfl⟩;have I1:=I.laid (a:=s.heap.objs.size) (o:=.own (s.heap.objs.size + 1)) (h':=s.heap.push PySem.W.emptyDict) (t':=s.toks) (fun b u q=>Ve _ q) (Vh _) ⟨_,e1⟩;refine I1.laid (a:=s.heap.objs.size + 1) (o:=.ins C s.heap.objs.size []) (t':=s.toks) (fun b u q=>Ve _ q) (W5 (VI _ _)) ?_;have ne:s.heap.objs.size≠s.heap.objs.size + 1:=Vq (Wa _);refine⟨by rw[aj ne,af],VU _,ne,e2,fun _=>none,(Ym e3).at fun o q=>Ve _ q,fun _=>True.intro,fun y hy=>absurd rfl hy⟩
theorem Uk {prog:Program}{w:World}{env:Env}{e:Expr}{f:Str}{pos:Pos}{s:Shared}{Q:Value->Shared->Prop} (hb:attributeBase e f env (eval e env)=eval e env)
  (h:wpAny (model prog w) A (eval e env) (fun o s₁=>wpAny (model prog w) A (getAttr o f true) Q E s₁) E s):wpAny (model prog w) A (eval (.Attribute e f pos) env) Q E s:=
 Attribute_any_ h (by rw[arm_eval_Attribute,hb])
end
def tFld (K:PySem.W.Frag) (ta:TE) (f:Str):TE:=fun σ H Q=>ta σ H fun x H1=>∃ a C dx fs v,x=.ref a/\H1 a=some (.ins C dx fs)/\Cls K C/\gH K C f/\fs.lookup f=some v/\Q v H1
def sFld (K:PySem.W.Frag) (ta tv:TE) (f:Str):TS:=fun D σ H=>tv σ H fun y H1=>ta σ H1 fun x H2=>∃ a C dx fs,x=.ref a/\H2 a=some (.ins C dx fs)/\Cls K C/\gH K C f/\fs.length<1000 /\
 D.nx σ (upd H2 a (.ins C dx (bw f y fs)))
section
variable {X:Cx}{o e value:Expr}{f:Str}{pos aW tpos:Pos}{ta tv:TE}
theorem bI (he:PE X e ta) (hb:attributeBase e f X.env (eval e X.env)=eval e X.env):PE X (.Attribute e f pos) (tFld X.K ta f):=by
 intro aa s σ H Q I h;refine Uk hb (thn (he aa s σ H _ I h) fun u s1=>L2.ex5 fun x H1 I1 rx bi=>?_);obtain⟨a,C,dx,fs,v,ex,ea,c,n,l,q⟩:=bi;subst ex;obtain rfl:u=Value.ref a:=rx;exact TC I1 ea c n l fun u' s2 I2 ru=>⟨v,H1,I2,ru,q⟩
theorem jX (ha:PE X o ta) (hv:PE X value tv) (hs:swapsWith value (some (.Attribute o f aW)) pos.line X.env=pure false):PS X (.Assign [.Attribute o f aW] value pos) (sFld X.K ta tv f):=by
 intro aa s σ H D I h;refine plainObj_wpAny_Assign_Attribute (thn (hv aa s σ H _ I h) fun u s1=>L2.ex5 fun y H1 I1 ry q=>thn (ha aa s1 σ H1 _ I1 q) fun ov s2=>L2.ex5 fun x H2 I2 rx bi=>?_) hs;obtain⟨a,C,dx,fs,ex,ea,c,n,l,q2⟩:=bi;subst ex;obtain rfl:ov=Value.ref a:=rx;exact Qd I2 ea c n l ry fun s3 I3=>⟨σ,_,I3,q2⟩
end
section
variable {X:Cx}{aa:List (Addr×Obj)}{σ:St}{H:Hp}{s:Shared}{A:Around}{E:Value->Shared->Prop}{Q:Value->Shared->Prop}{c:Value}{b:Bool}
inductive jE (K:PySem.W.Frag) (H:Hp):V->Value->Prop where
 | non:jE K H .non (.type "NoneType")
 | bl (x:Bool):jE K H (.bl x) (.type "bool")
 | int (i:Int):jE K H (.int i) (.type "int")
 | str (x:Str):jE K H (.str x) (.type "str")
 | flt (x:UInt64):jE K H (.flt x) (.type "float")
 | lst {a:Addr}{xs:List V} (e:H a=some (.lst xs)):jE K H (.ref a) (.type "list")
 | frz {a:Addr}{o:Obj}{xs:List V} (e:H a=some (.frz o (.lst xs))):jE K H (.ref a) (.type "list")
 | tup {a:Addr}{xs:List V} (e:H a=some (.tup xs)):jE K H (.ref a) (.type "tuple")
 | dK {a:Addr}{kvs:List (Key×V)} (e:H a=some (.dK kvs)):jE K H (.ref a) (.type "dict")
 | dT {a:Addr}{kvs:List (List Key×V)} (e:H a=some (.dT kvs)):jE K H (.ref a) (.type "dict")
 | ins {a C dx:Addr}{fs:List (Str×V)} (e:H a=some (.ins C dx fs)) (cl:Cls K C) (ha:PySem.W.findIn K (.ref C) "__class__"=some (some (.builtin "object.__class__")))
   (hn:PySem.W.specialIn K (.builtin "object.__class__") "__get__"=some (some (.builtin "getset_descriptor.__get__"))) (U7:PySem.W.takesIn K (.builtin "object.__class__")=some true)
   (hm:PySem.W.mroIn K C (.type "object")=some true):jE K H (.ref a) (.ref C)
end
end L2
namespace L2
open PySem PySem.Spec PyProof.Rows
structure bn (k:Nat) (A:Around):Prop where
 dp:A.depth + 3 * k + 5<recursionLimit
 un:A.units + 16 * k + 200<cLine
theorem bn.mono {j k:Nat}{A:Around} (r:bn k A) (h:j<=k):bn j A:=⟨by have:=r.dp;omega,by have:=r.un;omega⟩
theorem bn.deeper {k:Nat}{A:Around} (r:bn (k + 1) A) (env:Env):bn k (A.deeper env):=
 ⟨by have:=r.dp;show A.depth + 1 + 3 * k + 5<_;omega,by have:=r.un;show A.units + 3 + 16 * k + 200<_;omega⟩
theorem bn.in1 {k:Nat}{A:Around} (r:bn (k + 1) A):bn k A.in1:=
 ⟨by have:=r.dp;show A.depth + 3 * k + 5<_;omega,by have:=r.un;show A.units + 1 + 16 * k + 200<_;omega⟩
theorem SI {A:Around}{C:Addr}{us:List Value}{kw:List (Str×Value)}:(A.under (.builtin "type.__call__" ⟨.ref C::us,kw⟩)).depth=A.depth + 1:=by
 first|rfl|simp[Around.under,Code.weight,Code.isCreation,Code.isGuard,Code.isCaller,Code.frames,Code.isFrame,guardIds]
theorem Ql {A:Around}{C:Addr}{us:List Value}{kw:List (Str×Value)}:(A.under (.builtin "type.__call__" ⟨.ref C::us,kw⟩)).units=A.units + 1:=by
 first|rfl|simp[Around.under,Code.cUnits,Code.frames,Code.isFrame]
theorem bn.make {k:Nat}{A:Around} (r:bn (k + 1) A) (C:Addr) (us:List Value) (kw:List (Str×Value)):bn k (A.under (.builtin "type.__call__" ⟨.ref C::us,kw⟩)):=
 ⟨by have:=r.dp;rw[SI];omega,by have:=r.un;rw[Ql];omega⟩
theorem bn.depth {k:Nat}{A:Around} (r:bn k A):A.depth<recursionLimit:=by have:=r.dp;omega
theorem bn.units {k:Nat}{A:Around} (r:bn k A):A.units + 64<cLine:=by have:=r.un;omega
def tNil:TA:=fun _ H Q=>Q [] H
def tCons (ta:TE) (tr:TA):TA:=fun σ H Q=>ta σ H fun x H1=>tr σ H1 fun xs H2=>Q (x::xs) H2
section
variable {X:Cx}{e:Expr}{es:List Expr}{te:TE}{t:TA}{pos:Pos}
theorem ah:PA X [] tNil:=fun _ _ _ _ H Q I h=>Calls.spliced_nil ⟨[],H,I,.nil,h⟩
theorem ae (ha:PE X e te) (hr:PA X es t) (hs:starEach (e::es) X.env=(false,eval e X.env)::starEach es X.env:=by rfl):PA X (e::es) (tCons te t):=by
 intro pos aa s σ H Q I h;rw[hs];show wpAny _ _ (spliced ((false,eval e X.env)::backTo pos (starEach es X.env))) _ _ s;refine Calls.spliced_cons (thn (ha aa s σ H _ I h) fun u s1=>L2.ex5 fun x H1 I1 r1 q1=>?_);exact thn (hr pos aa s1 σ H1 _ I1 q1) fun us s2 ⟨xs,H2,I2,r2,q2⟩=>⟨x::xs,H2,I2,.cons r1 r2,q2⟩
def tTup (t:TA):TE:=fun σ H Q=>t σ H fun xs H1=>xs.length<=sizeLine/\∀ p,H1 p=none->Q (.ref p) (upd H1 p (.tup xs))
def tLst (t:TA):TE:=fun σ H Q=>t σ H fun xs H1=>xs.length<=sizeLine/\∀ p,H1 p=none->Q (.ref p) (upd H1 p (.lst xs))
theorem gZ {x1} (h:PA X es t):PE X (.Tuple es x1 pos) (tTup t):=by
 intro aa s σ H Q I hq;refine wpAny_Tuple_spliced (thn (h pos aa s σ H _ I hq) fun us s1 ⟨xs,H1,I1,r,z,q⟩=>⟨by rw[<- r.length];exact z,?_⟩);have hf:H1 s1.heap.objs.size=none:=I1.hok.fresh (Vh _);refine⟨.ref s1.heap.objs.size,upd H1 s1.heap.objs.size (.tup xs),I1.laid (t':=s1.toks) (fun b u e=>Ve _ e) (Vh _) ?_,rfl,q _ hf⟩;exact⟨z,us,r,⟨_,Vm _ rfl,rfl,_,rfl⟩⟩
theorem c7 (h:PA X es t):PE X (.List es pos) (tLst t):=by
 intro aa s σ H Q I hq;refine wpAny_List_spliced (thn (h pos aa s σ H _ I hq) fun us s1 ⟨xs,H1,I1,r,z,q⟩=>⟨by rw[<- r.length];exact z,?_⟩);have hf:H1 s1.heap.objs.size=none:=I1.hok.fresh (Vh _);refine⟨.ref s1.heap.objs.size,upd H1 s1.heap.objs.size (.lst xs),I1.laid (t':=s1.toks) (fun b u e=>Ve _ e) (Vh _) ?_,rfl,q _ hf⟩;exact⟨z,us,0,r,Vm _ rfl⟩
end
abbrev Sp:=List V->Hp->VK->XK->Prop
abbrev CXT:=List Env->Hp->Shared->XK->Value->Shared->Prop
structure pH (P:Program) (w:World) (K:PySem.W.Frag) (mg:Str->Option Value) (base:Heap) (A:Around) (outer:List Env) (s:Shared) (H:Hp):Prop where
 frames:A.frames=some outer
 mod:Mod K mg base
 bs:∀ b o,base.get? b=some o->s.heap.get? b=some o/\H b=none
 bsz:base.objs.size<=s.heap.objs.size
 funs:s.heap.FunFrames base outer
 frf:∀ b∈frs outer,H b=none
 hok:HOk P w H s.heap
 bare:AllBare s.gens
 hd:iB A H
def CE (outer:List Env) (P:Program) (w:World) (H:Hp) (s:Shared) (Q:VK) (u:Value) (s':Shared):Prop:=
 ∃ v H',s'.os=s.os/\AllBare s'.gens/\Un (frs outer) [] H H' s.heap s'.heap/\HOk P w H' s'.heap/\av v u/\Q v H'
def CR (CX:CXT) (outer:List Env) (P:Program) (w:World) (H:Hp) (s:Shared) (Q:VK) (E:XK) (r:Result) (s':Shared):Prop:=
 match r with
 | .ok (.ret u)=>CE outer P w H s Q u s'
 | .ok _=>False
 | .error e=>CX outer H s E e s'
structure cD (P:Program) (w:World) (K:PySem.W.Frag) (mg:Str->Option Value) (base:Heap) (CX:CXT) (k:Nat) (f:Addr) (fd:FuncData) (ps:List Str) (sp:Sp):Prop where
 len:∀ vs H Q E,sp vs H Q E->vs.length=ps.length
 run:∀ (A:Around) (outer:List Env) (s:Shared) (H:Hp) (args:Args) (us:List Value) (vs:List V) (Q:VK) (E:XK),bn k A->pH P w K mg base A outer s H->BindsTo s fd args (ps.zip us)->aw vs us->sp vs H Q E ->
  codeAny (model P w) A (.call (.ref f) args) (CR CX outer P w H s Q E) s
theorem pH.make {P:Program}{w:World}{K:PySem.W.Frag}{mg:Str->Option Value}{base:Heap}{A:Around}{outer:List Env}{s:Shared}{H:Hp} (e:pH P w K mg base A outer s H) (C:Addr) (us:List Value) (kw:List (Str×Value)) :
  pH P w K mg base (A.under (.builtin "type.__call__" ⟨.ref C::us,kw⟩)) outer s H:=⟨by first|exact e.frames|(simpa [Around.under,Code.envs,Code.isFrame,pushEnvs] using e.frames),e.mod,e.bs,e.bsz,e.funs,e.frf,e.hok,e.bare,e.hd⟩
section
variable {X:Cx}{aa:List (Addr×Obj)}{σ:St}{H:Hp}{s s':Shared}
theorem Inv.env0 (I:Inv X aa σ H s):pH X.prog X.w X.K X.mg X.base X.A X.stack s H:=
 ⟨I.ok.frames,I.ok.mod,I.bs,VL I.ok.bsz I.sz,I.stack,I.stkFree,I.hok,I.bare,I.hdAt⟩
theorem Inv.after {Q:VK}{u:Value} (I:Inv X aa σ H s) (h:CE X.stack X.prog X.w H s Q u s'):EP X aa σ Q u s':=by
 obtain⟨v,H',os,bare,un,hok,r,q⟩:=h;obtain⟨hh,g,d,t,EC⟩:=s';obtain rfl:EC=s.os:=os;exact⟨v,H',I.call (h':=hh) (g':=g) (d':=d) (t':=t) (ch:=[]) un hok bare (fun b z=>absurd z (by simp)),r,q⟩
end
def tCall (sp:Sp) (aS:List V) (E:XK) (t:TA):TE:=fun σ H Q=>t σ H fun vs H1=>sp (vs++aS) H1 Q E
def tMeth (C:Addr) (m:Str) (sp:Sp) (aS:List V) (E:XK) (ta:TE) (t:TA):TE:=fun σ H Q=>ta σ H fun x H1=>∃ a dx fs,x=.ref a/\H1 a=some (.ins C dx fs)/\fs.lookup m=none /\
 t σ H1 fun vs H2=>sp (x::(vs++aS)) H2 Q E
def tMake (C:Addr) (sp:Sp) (aS:List V) (E:XK) (t:TA):TE:=fun σ H Q=>t σ H fun vs H1=>∀ x dx,H1 x=none->H1 dx=none->dx≠x ->
 sp (.ref x::(vs++aS)) (upd (upd H1 dx (.own x)) x (.ins C dx [])) (fun v H2=>v=.non/\Q (.ref x) H2) E
def eU (K:PySem.W.Frag) (fd:FuncData) (ps:List Str) (ds:List Value):Prop:=
 ∀ (s:Shared) (us:List Value),K.In s.heap->(us++ds).length=ps.length->BindsTo s fd ⟨us,[]⟩ (ps.zip (us++ds))
theorem eU.all {K:PySem.W.Frag}{fd:FuncData}{ps:List Str} (h:∀ us:List Value,us.length=ps.length->bindArgs fd ⟨us,[]⟩=pure (ps.zip us)):eU K fd ps []:=fun s us _ hl=>by
 rw[WN] at hl ⊢;exact .of_eq (h us hl)
def qd (CX:CXT) (X:Cx) (E:XK):Prop:=∀ (aa:List (Addr×Obj)) (σ:St) (H:Hp) (s:Shared) (e:Value) (s':Shared),Inv X aa σ H s->CX X.stack H s E e s'->X.xe e s'
section
variable {X:Cx}{CX:CXT}{k:Nat}{f C:Addr}{fd:FuncData}{ps:List Str}{sp:Sp}{aS:List V}{ds:List Value}{E:XK}{x m:Str}{p pos bb:Pos}{e o:Expr}{es:List Expr}{ta:TE}{t:TA}
theorem Jz {aa:List (Addr×Obj)}{σ:St}{H:Hp}{s:Shared}{Q:VK}{us:List Value}{vs:List V} (F:cD X.prog X.w X.K X.mg X.base CX k f fd ps sp) (hr:bn k X.A) (hb:eU X.K fd ps ds) (hd:aw aS ds) (hx:qd CX X E)
  (I:Inv X aa σ H s) (r:aw vs us) (h:sp (vs++aS) H Q E):wpAny (model X.prog X.w) X.A (call (.ref f) us) (EP X aa σ Q) X.xe s:=by
 have r2:aw (vs++aS) (us++ds):=r.append hd;have hl:(us++ds).length=ps.length:=by rw[<- r2.length];exact F.len _ _ _ _ h
 refine WU (codeAny_mono (F.run X.A X.stack s H ⟨us,[]⟩ (us++ds) (vs++aS) Q E hr I.env0 (hb s us I.kIn hl) r2 h) fun r s' hq=>?_);cases r with
 | error e=>exact hx aa σ H s e s' I hq
 | ok fl=>
  cases fl with
  | ret u=>exact I.after hq
  | next=>exact False.elim hq
  | brk=>exact False.elim hq
  | cont=>exact False.elim hq
theorem Ud (F:cD X.prog X.w X.K X.mg X.base CX k f fd ps sp) (hr:bn k X.A) (hg:Gl X x) (hm:X.mg x=some (.ref f)) (hk:PySem.W.keepIn X.K (.ref f)=true) (hb:eU X.K fd ps ds) (hd:aw aS ds) (hx:qd CX X E)
  (ha:PA X (e::es) t) (dk:(x == ("__debug__":Str))=false:=by decide) (he:starEach (e::es) X.env=(false,eval e X.env)::starEach es X.env:=by rfl) (bX:(backTo pos (starEach es X.env)).any (·.1)=false:=by rfl) :
  PE X (.Call (.Name x p) (e::es) [] pos) (tCall sp aS E t):=by
 intro aa s σ H Q I h;refine V3 (rL I hg hm ?_ dk);refine PySem.W.callWith_K (h₀:=X.base) I.ok.mod.kin hk (thn (ha pos aa s σ H _ I h) fun us s1=>L2.ex5 fun vs H1 I1 r q=>⟨I1.kIn,?_⟩) he bX;exact Jz F hr hb hd hx I1 r q
theorem Tg {pl:Sem Bool} (he:PE X o ta) (c:Cls X.K C) (hm:Meth X.K C m f) (F:cD X.prog X.w X.K X.mg X.base CX k f fd ps sp) (hr:bn k X.A) (hb:eU X.K fd ps ds) (hd:aw aS ds) (hx:qd CX X E) (ha:PA X (e::es) t)
  (cJ:starEach (e::es) X.env=(false,eval e X.env)::starEach es X.env:=by rfl) (bX:(backTo pos (starEach es X.env)).any (·.1)=false:=by rfl)
  (ht:eval (.Call (.Attribute o m bb) (e::es) [] pos) X.env=(do
   let ov <- eval o X.env
   standAt bb.atName
   let (f,first) <- holding [ov] (getMethod ov m pl)
   callWith pos f first (backTo pos (starEach (e::es) X.env)) (backToKw pos (keywordEach [] X.env))):=by rfl) :
  PE X (.Call (.Attribute o m bb) (e::es) [] pos) (tMeth C m sp aS E ta t):=by
 intro aa s σ H Q I h;refine PySem.W.methodCall_KW (pl:=pl) (thn (he aa s σ H _ I h) fun u s1=>L2.ex5 fun x H1 I1 rx bi=>?_) ht;obtain⟨a,dx,fs,ex,ea,l,q⟩:=bi;subst ex;obtain rfl:u=Value.ref a:=rx;refine SM I1 ea c hm l ?_;refine PySem.W.callWith_K (first:=[.ref a]) (h₀:=X.base) I.ok.mod.kin hm.kp (thn (ha pos aa s1 σ H1 _ I1 q) fun us s2=>L2.ex5 fun vs H2 I2 r q2=>⟨I2.kIn,?_⟩) cJ bX;exact Jz (us:=.ref a::us) (vs:=.ref a::vs) F hr hb hd hx I2 (.cons rfl r) q2
structure Mk (K:PySem.W.Frag) (C f:Addr):Prop where
 makes:PySem.W.makesIn K C=true
 init:PySem.W.findIn K (.ref C) "__init__"=some (some (.ref f))
 fn:PySem.W.isFn K (.ref f)=true
 kp:PySem.W.keepIn K (.ref C)=true
theorem Qo {aa:List (Addr×Obj)}{σ:St}{H:Hp}{s:Shared}{Q:VK}{us:List Value}{vs:List V} (M:Mk X.K C f) (F:cD X.prog X.w X.K X.mg X.base CX k f fd ps sp) (hr:bn (k + 1) X.A) (hb:eU X.K fd ps ds) (hd:aw aS ds)
  (hx:qd CX X E) (I:Inv X aa σ H s) (r:aw vs us)
  (h:∀ x dx,H x=none->H dx=none->dx≠x->sp (.ref x::(vs++aS)) (upd (upd H dx (.own x)) x (.ins C dx [])) (fun v H2=>v=.non/\Q (.ref x) H2) E) :
  wpAny (model X.prog X.w) X.A (call (.ref C) us) (EP X aa σ Q) X.xe s:=by
 have hq:=h (s.heap.objs.size + 1) s.heap.objs.size (I.hok.fresh (V8 _)) (I.hok.fresh (Vh _)) (Vq (Wa _));have I2:=Inv.made (C:=C) I;have r2:aw (V.ref (s.heap.objs.size + 1)::(vs++aS)) (Value.ref (s.heap.objs.size + 1)::(us++ds)):=.cons rfl (r.append hd);have hl:(Value.ref (s.heap.objs.size + 1)::us++ds).length=ps.length:=by
  have e:=r2.length;rw[F.len _ _ _ _ hq] at e;exact e.symm
 refine WU (SE (f:=f) I.kIn M.makes M.init (beq_iff_eq.mp M.fn) (codeAny_mono (F.run _ X.stack _ _ ⟨Value.ref (s.heap.objs.size + 1)::us,[]⟩ (Value.ref (s.heap.objs.size + 1)::(us++ds)) _ _ E (hr.make C us [])
  (I2.env0.make C us []) (hb _ (Value.ref (s.heap.objs.size + 1)::us) I2.kIn hl) r2 hq) fun r s' d0=>?_))
 cases r with
 | error e=>exact hx aa σ _ _ e s' I2 d0
 | ok fl=>
  cases fl with
  | ret u=>
   obtain⟨v,H',I3,rv,ev,q3⟩:=I2.after d0;subst ev;exact⟨rv,⟨V.ref (s.heap.objs.size + 1),H',I3,rfl,q3⟩⟩
  | next=>exact False.elim d0
  | brk=>exact False.elim d0
  | cont=>exact False.elim d0
theorem QI (M:Mk X.K C f) (F:cD X.prog X.w X.K X.mg X.base CX k f fd ps sp) (hr:bn (k + 1) X.A) (hg:Gl X x) (hm:X.mg x=some (.ref C)) (hb:eU X.K fd ps ds) (hd:aw aS ds) (hx:qd CX X E)
  (ha:PA X (e::es) t) (dk:(x == ("__debug__":Str))=false:=by decide) (he:starEach (e::es) X.env=(false,eval e X.env)::starEach es X.env:=by rfl) (bX:(backTo pos (starEach es X.env)).any (·.1)=false:=by rfl) :
  PE X (.Call (.Name x p) (e::es) [] pos) (tMake C sp aS E t):=by
 intro aa s σ H Q I h;refine V3 (rL I hg hm ?_ dk);refine PySem.W.callWith_K (h₀:=X.base) I.ok.mod.kin M.kp (thn (ha pos aa s σ H _ I h) fun us s1=>L2.ex5 fun vs H1 I1 r q=>⟨I1.kIn,?_⟩) he bX;exact Qo M F hr hb hd hx I1 r q
end
section
variable {X:Cx}{CX:CXT}{k:Nat}{f C:Addr}{fd:FuncData}{ps ks:List Str}{sp:Sp}{E:XK}{x m:Str}{p pos bb bG:Pos}{e o:Expr}{es:List Expr}{oR:List Keyword}{te ta:TE}{t tk:TA}{nm:Option Str}
structure KBinds (K:PySem.W.Frag) (fd:FuncData) (ps ks:List Str) (g:List Value->List Value->List Value) (gV:List V->List V->List V):Prop where
 to:∀ (s:Shared) (us ws:List Value),K.In s.heap->(g us ws).length=ps.length->BindsTo s fd ⟨us,ks.zip ws⟩ (ps.zip (g us ws))
 rel:∀ {vs:List V}{us:List Value}{zs:List V}{ws:List Value},aw vs us->aw zs ws->aw (gV vs zs) (g us ws)
variable {g:List Value->List Value->List Value}{gV:List V->List V->List V}
end
structure bo (N P:List Str) (sc:Scope):Prop where
 kind:sc.kind=.function
 co:sc.isCoroutine=false
 gen:sc.isGenerator=false
 nd:N.Nodup
 pre:N.take P.length=P
 par:∀ x∈P,sc.names.lookup x=some .local\/sc.names.lookup x=some .cell
 nofree:∀ y∈sc.names,y.2≠.free
theorem Lo {kindOf:Str->Option NameKind}{x:Str}:∀ {eC:List (Str×Value)}{m:Str->Option Value},(∀ v,(x,v)∉eC)->bindL kindOf eC m x=m x
 | [],_,_=>rfl
 | (n,v)::r,m,h=>by
  unfold bindL;rw[Lo fun w hw=>h w (Vt _ hw)];split
  ·have:x≠n:=by rintro rfl;exact h v Vz
   simp[this]
  ·rfl
theorem Ll {kindOf:Str->Option NameKind}{x:Str}:∀ {eC:List (Str×Value)}{m:Str->Option Value},(∀ v,(x,v)∉eC)->bindC kindOf eC m x=m x
 | [],_,_=>rfl
 | (n,v)::r,m,h=>by
  unfold bindC;rw[Ll fun w hw=>h w (Vt _ hw)];split
  ·rfl
  ·have:x≠n:=by rintro rfl;exact h v Vz
   simp[this]
theorem KY {kindOf:Str->Option NameKind}{x:Str}{v:Value}:∀ {P:List Str}{vs:List Value}{i:Nat}{m:Str->Option Value},P.Nodup->P[i]?=some x->vs[i]?=some v->kindOf x=some .local ->
  bindL kindOf (P.zip vs) m x=some v
 | [],_,_,_,_,h,_,_=>by simp at h
 | _::_,[],_,_,_,_,h,_=>by simp at h
 | p::P,w::vs,0,m,nd,h1,h2,hk=>by
  simp at h1 h2;subst h1;subst h2
  show bindL kindOf ((p,w)::P.zip vs) m p=_;unfold bindL;rw[Lo fun v hv=>(Xp.mp nd).1 (Xk hv).1,if_pos hk];simp
 | p::P,w::vs,i + 1,m,nd,h1,h2,hk=>by
  show bindL kindOf ((p,w)::P.zip vs) m x=_;unfold bindL;exact KY (i:=i) (Xp.mp nd).2 (by simpa using h1) (by simpa using h2) hk
theorem KE {kindOf:Str->Option NameKind}{x:Str}{v:Value}:∀ {P:List Str}{vs:List Value}{i:Nat}{m:Str->Option Value},P.Nodup->P[i]?=some x->vs[i]?=some v->kindOf x≠some .local ->
  bindC kindOf (P.zip vs) m x=some v
 | [],_,_,_,_,h,_,_=>by simp at h
 | _::_,[],_,_,_,_,h,_=>by simp at h
 | p::P,w::vs,0,m,nd,h1,h2,hk=>by
  simp at h1 h2;subst h1;subst h2
  show bindC kindOf ((p,w)::P.zip vs) m p=_;unfold bindC;rw[Ll fun v hv=>(Xp.mp nd).1 (Xk hv).1,if_neg hk];simp
 | p::P,w::vs,i + 1,m,nd,h1,h2,hk=>by
  show bindC kindOf ((p,w)::P.zip vs) m x=_;unfold bindC;exact KE (i:=i) (Xp.mp nd).2 (by simpa using h1) (by simpa using h2) hk
def start (N:List Str) (vs:List V):St:=vs.map some++List.replicate (N.length - vs.length) none
def jD (CX:CXT) (P:Program) (w:World) (K:PySem.W.Frag) (mg:Str->Option Value) (base:Heap) (N:List Str) (qual:Str) (scope:Scope) (f:Addr) (cd:Value) (A:Around) (outer:List Env) (s:Shared) (H:Hp) (E:XK):Cx where
 prog:=P
 w:=w
 K:=K
 mg:=mg
 base:=base
 A:=A.deeper (envOfC qual scope s.heap.objs.size f cd)
 N:=N
 s₀:=s
 H₀:=H
 env:=envOfC qual scope s.heap.objs.size f cd
 outer:=outer
 stack:=envOfC qual scope s.heap.objs.size f cd::outer
 ex:=[]
 calm:=true
 fn:=fun _=>true
 pn:=[]
 xe:=fun e s'=>wpAny (model P w) (A.deeper (envOfC qual scope s.heap.objs.size f cd)) (leaving (envOfC qual scope s.heap.objs.size f cd) e) (fun _ AC=>CX outer H s E e AC) (fun e' AC=>CX outer H s E e' AC) s'
theorem Ke {sc:Scope}{n:Nat}{x:Str} (h:sc.names.lookup x=some .cell):∃ c,(cellsFrom n sc.names []).lookup x=some c:=by
 have q:=PySem.W.cellsFrom_some sc.names n [] (.inl h);exact Option.isSome_iff_exists.mp q
theorem Q8 {CX:CXT}{P:Program}{w:World}{K:PySem.W.Frag}{mg:Str->Option Value}{base:Heap}{N ps:List Str}{qual:Str}{scope:Scope}{f:Addr}{cd:Value}{A:Around}{outer:List Env}{s s1:Shared}{H:Hp}{E:XK}{us:List Value}{vs:List V}
  (S:bo N ps scope) (e0:pH P w K mg base A outer s H) (hl:vs.length=ps.length) (r:aw vs us)
  (x:InCallC s s.heap.objs.size (bindL (envOfC qual scope s.heap.objs.size f cd).kindOf (ps.zip us) fun _=>none) (cellsFrom (s.heap.objs.size + 1) scope.names []) (bindC (envOfC qual scope s.heap.objs.size f cd).kindOf (ps.zip us) fun _=>none) s1) :
  Inv (jD CX P w K mg base N qual scope f cd A outer s H E) [] (start N vs) H s1:=by
 have bX:ps.length<=N.length:=by have:=congrArg List.length S.pre;rw[Vs] at this;omega
 obtain⟨h1,tk,rfl,hk⟩:=x.done;have pe:∀ b:Addr,b∉(jD CX P w K mg base N qual scope f cd A outer s H E).ex:=fun b z=>absurd (show b∈([]:List Addr) from z) (by simp)
 refine⟨⟨e0.mod,S.kind,rfl,rfl,Vh _,fun y z c h1 h2=>?_,fun y hy=>?_,fun y c _ h=>?_,e0.hd,Around.frames_deeper e0.frames,.inr ⟨rfl,rfl⟩,fun b z=>absurd z (pe b),e0.bs,e0.bsz,fun b _ _=>pe b,fun b z=>absurd z (pe b),e0.funs,e0.frf⟩,
  rfl,e0.bare,Un.kept hk,⟨_,x.toInCall.ns,fun i y v h1 h2 h3=>?_⟩,fun y c h=>⟨_,x.cell y c h⟩,e0.hok.fresh (Vh _),fun y c h=>?_,fun p hp=>absurd (show p∈([]:List (Addr×Obj)) from hp) (by simp),e0.hok.kept hk,?_⟩
 ·exact name_of_addr x.apart (PySem.mem_of_lookup h1) (PySem.mem_of_lookup h2)
 ·have hy:scope.names.lookup y=some .cell\/scope.names.lookup y=some .free:=hy
  rcases hy with hy|hy
  ·exact Ke hy
  ·exact absurd rfl (S.nofree _ (PySem.mem_of_lookup hy))
 ·exact Xg (x.above y c (PySem.mem_of_lookup h))
 ·have hi:i<vs.length:=by
   unfold start at h2;by_cases hi:i<vs.length
   ·exact hi
   ·rw[WB (by simpa using hi)] at h2
    rw[XT] at h2;split at h2 <;> cases h2
  have ha:vs[i]?=some v:=by
   unfold start at h2;rw[WR (by simpa using hi),Vp] at h2;cases e:vs[i]? with
   | none=>rw[e] at h2;cases h2
   | some a=>rw[e] at h2;cases h2;rfl
  obtain⟨u,hu,rv⟩:=r.get ha;have hp:ps[i]?=some y:=by
   rw[<- S.pre,List.getElem?_take_of_lt (by omega)];exact h1
  have GV:ps.Nodup:=by rw[<- S.pre];exact S.nd.sublist (XC _ _)
  refine⟨u,rv,?_⟩;rcases S.par y (Vj hp) with k|k
  ·exact .inl ⟨k,KY GV hp hu k⟩
  ·obtain⟨c,e⟩:=Ke (n:=s.heap.objs.size + 1) k
   refine .inr ⟨.inl k,c,e,?_⟩;have q:=x.cell y c e;rw[KE GV hp hu (by show scope.names.lookup y≠_;rw[k];decide)] at q;exact q
 ·exact e0.hok.fresh (Xg (x.above y c (PySem.mem_of_lookup h)))
 ·unfold start
  show _=N.length;rw[VD,Vd,VS];omega
theorem Gi {CX:CXT}{P:Program}{w:World}{K:PySem.W.Frag}{mg:Str->Option Value}{base:Heap}{k:Nat}{f:Addr}{name qual:Str}{params:Arguments}{body:List Stmt}{scope:Scope}{dV kV dY pm aJ ct oc:Value}{an od:Option Addr}
  {iu:Array (Option Value)}{N ps:List Str}{sp:Sp} (lk:K.lookup f=some ⟨oc,od,.func (PySem.W.fnOf name qual params body scope dV kV dY pm an aJ ct),iu⟩) (fk:PySem.W.codeIn K aJ qual=true) (S:bo N ps scope)
  (len:∀ vs H Q E,sp vs H Q E->vs.length=ps.length)
  (cO:∀ (A:Around) (outer:List Env) (s:Shared) (H:Hp) (vs:List V) (Q:VK) (E:XK),bn k (A.deeper (envOfC qual scope s.heap.objs.size f aJ))->sp vs H Q E ->
   ∃ t,PSs (jD CX P w K mg base N qual scope f aJ A outer s H E) body t/\t { nx:=fun _ H'=>Q .non H',rt:=Q } (start N vs) H) :
  cD P w K mg base CX (k + 1) f (PySem.W.fnOf name qual params body scope dV kV dY pm an aJ ct) ps sp:=by
 refine⟨len,fun A outer s H args us vs Q E hr e0 hb r iq=>?_⟩;have hl:=len _ _ _ _ iq;have KX:K.In s.heap:=e0.mod.kin.keeps fun b o e=>(e0.bs b o e).1
 have DR:s.heap.NoLimit:=e0.mod.nolimit.keeps fun b o e=>(e0.bs b o e).1
 have bf:∀ y∈ps.zip us,scope.names.lookup y.1=some .local\/(scope.names.lookup y.1=some .cell/\((cellsFrom (s.heap.objs.size + 1) scope.names []).lookup y.1).isSome=true):=fun⟨n,v⟩ hy=>by
  rcases S.par n (Xk hy).1 with q|q
  ·exact .inl q
  ·exact .inr ⟨q,PySem.W.cellsFrom_some _ _ _ (.inl q)⟩
 refine codeAny_call_function hr.depth (KX _ _ lk) rfl S.co S.gen rfl (PySem.W.codeRec_of KX fk) (hb _ _ _ _ ?_);refine wpAny_newFunctionEnv_cells S.kind bf fun env he s1 x=>?_
 subst he;refine⟨DR.keeps x.toInCall.keep,codeAny_func ?_⟩;obtain⟨t,ht,hq⟩:=cO A outer s H vs Q E (hr.deeper _) iq;have I:Inv (jD CX P w K mg base N qual scope f aJ A outer s H E) [] (start N vs) H s1:=Q8 S e0 hl r x;refine V0 (ht [] s1 (start N vs) H _ I hq) (fun fl s' hs=>?_) fun e s' hs=>hs
 have aO:∀ {σ':St}{H':Hp}{v:V}{u:Value},Inv (jD CX P w K mg base N qual scope f aJ A outer s H E) [] σ' H' s'->av v u->Q v H'->CE outer P w H s Q u s':=
  fun {σ' H' v u} J rv q=>⟨v,H',J.os,J.bare,J.base,J.hok,rv,q⟩
 cases fl with
 | ret u=>
  obtain⟨v,σ',H',J,rv,q⟩:=hs;exact aO J rv q
 | next=>
  obtain⟨σ',H',J,q⟩:=hs;exact aO (v:=V.non) (u:=Value.none) J rfl q
 | brk=>
  obtain⟨_,_,_,q⟩:=hs;exact False.elim q
 | cont=>
  obtain⟨_,_,_,q⟩:=hs;exact False.elim q
end L2
namespace L2
open PySem PySem.Spec PyProof.Rows
section
variable {X:Cx}{x:Str}{p pos:Pos}{e:Expr}{es:List Expr}{t:TA}{id T:String}{r:List V->Hp->VK->Prop}
def tCB (r:List V->Hp->VK->Prop) (t:TA):TE:=fun σ H Q=>t σ H fun vs H1=>r vs H1 Q
theorem cC (hc:iC X (.builtin id) r) (hg:Gl X x) (hm:X.mg x=none) (hv:bootBuiltins x=some (.builtin id)) (ha:PA X (e::es) t) (hn:x≠"__name__":=by decide) (dk:(x == ("__debug__":Str))=false:=by decide)
  (he:starEach (e::es) X.env=(false,eval e X.env)::starEach es X.env:=by rfl) (bX:(backTo pos (starEach es X.env)).any (·.1)=false:=by rfl):PE X (.Call (.Name x p) (e::es) [] pos) (tCB r t):=by
 intro aa s σ H Q I h;refine V3 (iD I hg hm hv ?_ hn dk);exact PyProof.Rows.callWith_builtin1 (thn (ha pos aa s σ H _ I h) fun us s1=>L2.ex5 fun vs H1 I1 r1 q1=>hc aa s1 σ H1 vs us Q I1 r1 q1) he bX
theorem Gh (hc:iC X (.type T) r) (hg:Gl X x) (hm:X.mg x=none) (hv:bootBuiltins x=some (.type T)) (ha:PA X (e::es) t) (hn:x≠"__name__":=by decide) (dk:(x == ("__debug__":Str))=false:=by decide)
  (he:starEach (e::es) X.env=(false,eval e X.env)::starEach es X.env:=by rfl) (bX:(backTo pos (starEach es X.env)).any (·.1)=false:=by rfl):PE X (.Call (.Name x p) (e::es) [] pos) (tCB r t):=by
 intro aa s σ H Q I h;refine V3 (iD I hg hm hv ?_ hn dk);exact PyProof.Rows.callWith_type1 (thn (ha pos aa s σ H _ I h) fun us s1=>L2.ex5 fun vs H1 I1 r1 q1=>hc aa s1 σ H1 vs us Q I1 r1 q1) he bX
end
end L2
namespace HT
open PySem PyProof.Rows
section
open PySem.SeqAt
open PySem.AutoSeq1 (wpAny_loadPart')
open PySem.MeetsSeq PySem.MeetsSeq2 PySem.MeetsSeq3
end
section
variable {prog:Program}{w:World}{A:Around}{E:Value->Shared->Prop}{s:Shared}
def sIx (n d:Nat):Option Int->Nat
 | none=>d
 | some v=>if v<0 then(v + (n:Int)).toNat else min v.toNat n
theorem zeI (n d:Nat):sIx n d none=d:=rfl
end
end HT
namespace L2
open PySem PySem.Spec PyProof.Rows
abbrev TO:=St->Hp->(Option Int->Hp->Prop)->Prop
def PO (X:Cx) (e:Option Expr) (t:TO):Prop:=
 ∀ (aa:List (Addr×Obj)) (s:Shared) (σ:St) (H:Hp) (Q:Option Int->Hp->Prop),Inv X aa σ H s->t σ H Q ->
  wpAny (model X.prog X.w) X.A (evalPart e X.env) (fun u s'=>∃ o H',Inv X aa σ H' s'/\IsPart u o/\Q o H') X.xe s
def JC:TO:=fun _ H Q=>Q none H
def tPart (t:TE):TO:=fun σ H Q=>t σ H fun x H1=>∃ i,x=.int i/\Q (some i) H1
section
variable {X:Cx}{e:Expr}{te:TE}{lo hi:Option Expr}{tl th:TO}{pos p2:Pos}
theorem AN:PO X none JC:=by
 intro aa s σ H Q I h;rw[evalPart_none];exact Vi ⟨none,H,I,.none,h⟩
theorem nJ (h:PE X e te):PO X (some e) (tPart te):=by
 intro aa s σ H Q I hw;rw[evalPart_some];refine thn (h aa s σ H _ I hw) fun u s1=>L2.ex5 fun x H1 I1 r1 q1=>?_
 obtain⟨i,rfl,q⟩:=q1;obtain⟨t,rfl⟩:=r1;exact⟨some i,H1,I1,.int i t,q⟩
def SlR (X:Cx) (r:V->Option Int->Option Int->Hp->VK->Prop):Prop:=
 ∀ (aa:List (Addr×Obj)) (s:Shared) (σ:St) (H:Hp) (x:V) (v vl vu:Value) (lo hi:Option Int) (sl:Addr) (Q:VK),Inv X aa σ H s->av x v->s.heap.IsSliceOf sl vl vu .none->IsPart vl lo->IsPart vu hi->r x lo hi H Q ->
  ∃ T id,typeLookup (.type T) "__getitem__"=pure (some (.builtin id))/\s.TypeIs v T/\wpAny (model X.prog X.w) X.A (getItem v (.ref sl)) (EP X aa σ Q) X.xe s
def tSl (r:V->Option Int->Option Int->Hp->VK->Prop) (te:TE) (tl th:TO):TE:=fun σ H Q=>te σ H fun x H1=>tl σ H1 fun l H2=>th σ H2 fun u H3=>r x l u H3 Q
theorem q9 {r:V->Option Int->Option Int->Hp->VK->Prop} (hr:SlR X r) (he:PE X e te) (hl:PO X lo tl) (hu:PO X hi th):PE X (.Subscript e (.Slice lo hi none p2) pos) (tSl r te tl th):=by
 intro aa s σ H Q I h;refine Subscript_ (thn (he aa s σ H _ I h) fun v s1=>L2.ex5 fun x H1 I1 r1 q1=>?_);refine wpAny_Slice (thn (hl aa s1 σ H1 _ I1 q1) fun vl s2 ⟨l,H2,I2,pl,q2⟩=>thn (hu aa s2 σ H2 _ I2 q2) fun vu s3=>L2.ex5 fun u H3 I3 pu q3=>?_);rw[evalPart_none];refine Vi ?_;have I4:Inv X aa σ H3 { s3 with heap:=s3.heap.push { cls:=.type "slice",data:=.fields #[vl,vu,.none] } }:=I3.kept (t':=s3.toks) fun b ob q=>Ve _ q
 obtain⟨T,id,hT,ht,hg⟩:=hr aa { s3 with heap:=s3.heap.push { cls:=.type "slice",data:=.fields #[vl,vu,.none] } } σ H3 x v vl vu l u s3.heap.objs.size Q I4 r1 (Heap.IsSliceOf.new ..) pl pu q3;show wpAny (model X.prog X.w) X.A (subscriptTail e (.Slice lo hi none p2) v (.ref s3.heap.objs.size)) (EP X aa σ Q) X.xe { s3 with heap:=s3.heap.push { cls:=.type "slice",data:=.fields #[vl,vu,.none] } };exact tail_any (ops:=[.ref s3.heap.objs.size,v]) ht hT hg (by with_unfolding_all rfl)
def dW (xs:List V) (lo hi:Option Int):List V:=(xs.drop (HT.sIx xs.length 0 lo)).take (HT.sIx xs.length xs.length hi - HT.sIx xs.length 0 lo)
theorem Qu (xs:List V) (lo hi:Option Int):(dW xs lo hi).length<=xs.length:=by
 unfold dW;rw[Vs,Wv];omega
end
end L2
namespace L2
open PySem PySem.Spec PyProof.Rows
def ixN (n:Nat) (i:Int):Option Nat:=if 0<=i then(if i<n then some i.toNat else none) else if -(n:Int)<=i then some (i + n).toNat else none
def atI {α:Type} (xs:List α) (i:Int):Option α:=(ixN xs.length i).bind fun j=>xs[j]?
theorem JT {n:Nat}{i:Int}{j:Nat} (h:ixN n i=some j):seqIndex? i n=some j/\j<n/\-(n:Int)<=i/\i<n:=by
 unfold ixN at h;by_cases h0:0<=i
 ·rw[if_pos h0] at h
  by_cases h1:i<n
  ·rw[if_pos h1] at h
   have e:i.toNat=j:=Option.some.inj h;exact⟨by rw[seqIndex_of h0 h1,e],by omega,by omega,h1⟩
  ·rw[if_neg h1] at h;cases h
 ·rw[if_neg h0] at h
  by_cases h1:-(n:Int)<=i
  ·rw[if_pos h1] at h
   have e:(i + n).toNat=j:=Option.some.inj h;exact⟨by rw[seqIndex_neg (by omega) h1,e],by omega,h1,by omega⟩
  ·rw[if_neg h1] at h;cases h
theorem KF {α:Type}{xs:List α}{i:Int}{v:α} (h:atI xs i=some v):∃ j,seqIndex? i xs.length=some j/\xs[j]?=some v/\j<xs.length/\-(xs.length:Int)<=i/\i<xs.length:=by
 unfold atI at h;cases e:ixN xs.length i with
 | none=>rw[e] at h;cases h
 | some j=>
  rw[e] at h;obtain⟨h1,h2,h3,h4⟩:=JT e;exact⟨j,h1,h,h2,h3,h4⟩
def RN (b:Expr):Prop:=∀ o i,subscripted b false o i=operate [o,i] (getItem o i)
def IxR (X:Cx) (r:R2):Prop:=
 ∀ (value slice:Expr) (aa:List (Addr×Obj)) (s:Shared) (σ:St) (H:Hp) (x y:V) (v u:Value) (Q:VK),Inv X aa σ H s->av x v->av y u->r x y H Q ->
  subscripted slice false v u=operate [v,u] (getItem v u)->wpAny (model X.prog X.w) X.A (subscriptTail value slice v u) (EP X aa σ Q) X.xe s
def MtR (X:Cx) (id:String) (r:V->List V->Hp->VK->Prop):Prop:=
 ∀ (aa:List (Addr×Obj)) (s:Shared) (σ:St) (H:Hp) (x:V) (xs:List V) (v:Value) (us:List Value) (Q:VK),Inv X aa σ H s->av x v->aw xs us->r x xs H Q ->
  wpAny (model X.prog X.w) X.A (call (.builtin id) (v::us)) (EP X aa σ Q) X.xe s
section
variable {X:Cx}{a b:Expr}{ta tb:TE}{pos:Pos}
theorem aL {r:R2} (hr:IxR X r) (ha:PE X a ta) (hb:PE X b tb) (hs:RN b):PE X (.Subscript a b pos) (tOp r ta tb):=by
 intro aa s σ H Q I h;exact Subscript_ (binT ha hb I h fun v u s2 x y H2 I2 rx ry q=>hr a b aa s2 σ H2 x y v u Q I2 rx ry q (hs _ _))
def rIxL (K:PySem.W.Frag):R2:=fun x y H Q=>∃ p xs i v,x=.ref p/\y=.int i/\SqL K H p xs/\atI xs i=some v/\Q v H
def rIxT (K:PySem.W.Frag):R2:=fun x y H Q=>∃ p xs i v,x=.ref p/\y=.int i/\SqT K H p xs/\atI xs i=some v/\Q v H
theorem bq:IxR X (rIxL X.K):=by
 intro value slice aa s σ H x y v u Q I rx ry h hs;obtain⟨p,xs,i,z,rfl,rfl,hq,he,q⟩:=h;cases rx
 obtain⟨t,rfl⟩:=ry;obtain⟨its,r,pl,hz⟩:=I.list hq;obtain⟨j,h1,h2,h3,h4,h5⟩:=KF he;obtain⟨w,ew,dZ⟩:=r.get h2;have hl:=r.length;have hn:=zX;have aO:EP X aa σ Q w s:=⟨z,H,I,dZ,q⟩;by_cases h0:0<=i
 ·have hj:i.toNat=j:=by
   rw[seqIndex_of h0 h5] at h1;exact Option.some.inj h1
  exact item_listR pl.isList h0 (by omega) (by rw[hj];simpa using ew) aO hs
 ·have hj:(i + (its.toArray.size:Int)).toNat=j:=by
   rw[seqIndex_neg (by omega) h4] at h1;rw[Vx,<- hl];exact Option.some.inj h1
  exact subscriptTail_builtinR (x:=w) pl.isList.typeIs slot_list_getitem.lookup
   (wpAny_getItem_list_neg (Q:=fun r s'=>r=w/\EP X aa σ Q r s') pl.isList (by omega) (by rw[Vx] <;> omega) (by omega) (by rw[hj];simpa using ew) ⟨rfl,aO⟩) hs
theorem eW:IxR X (rIxT X.K):=by
 intro value slice aa s σ H x y v u Q I rx ry h hs;obtain⟨p,xs,i,z,rfl,rfl,hq,he,q⟩:=h;cases rx
 obtain⟨t,rfl⟩:=ry;obtain⟨its,r,pl,hz⟩:=I.tuple hq;obtain⟨j,h1,h2,h3,h4,h5⟩:=KF he;obtain⟨w,ew,dZ⟩:=r.get h2;have hl:=r.length;have hn:=zX;have aO:EP X aa σ Q w s:=⟨z,H,I,dZ,q⟩;exact subscriptTail_builtinR (x:=w) pl.typeIs slot_tuple_getitem.lookup
  (getItem_tuple (j:=j) (Q:=fun r s'=>r=w/\EP X aa σ Q r s') pl (by omega) (by omega) (by rw[Vx,<- hl];exact h1) (by simpa using ew) ⟨rfl,aO⟩) hs
theorem Qf (its:List Value) (n j:Nat) (u:Value):Obj.mapSeq (·.setIfInBounds j u) { cls:=.type "list",data:=.seq its.toArray n }={ cls:=.type "list",data:=.seq (its.set j u).toArray n }:=by
 simp[Obj.mapSeq]
theorem Inv.lst {aa:List (Addr×Obj)}{σ:St}{H:Hp}{s:Shared}{p:Addr}{xs:List V} (I:Inv X aa σ H s) (h:H p=some (.lst xs)) :
  ∃ (its:List Value) (n:Nat),aw xs its/\s.heap.get? p=some { cls:=.type "list",data:=.seq its.toArray n }/\xs.length<=sizeLine:=by
 obtain⟨z,its,n,r,e⟩:=I.hok p _ h;exact⟨its,n,r,e,z⟩
theorem Inv.lstUpd {aa:List (Addr×Obj)}{σ:St}{H:Hp}{s:Shared}{p:Addr}{xs ys:List V}{its its':List Value}{n n':Nat}{f:Obj->Obj} (I:Inv X aa σ H s) (h:H p=some (.lst xs))
  (ho:s.heap.get? p=some { cls:=.type "list",data:=.seq its.toArray n }) (hf:f { cls:=.type "list",data:=.seq its.toArray n }={ cls:=.type "list",data:=.seq its'.toArray n' }) (r:aw ys its') (hz:ys.length<=sizeLine) (t:Nat) :
  Inv X aa σ (upd H p (.lst ys)) { s with heap:=s.heap.update p f,toks:=t }:=by
 have e:(s.heap.update p f).get? p=some { cls:=.type "list",data:=.seq its'.toArray n' }:=by
  rw[VR f ho (by rw[hf] <;> rfl),hf]
 refine I.write (x:=p) (e:=p) (by rw[h];trivial) (.inl rfl) (fun b u hb q=>(VB _ _ (Ne.symm hb)).trans q) ⟨_,e⟩ ?_;exact⟨hz,its',n',r,e⟩
def rSetL:V->V->V->Hp->(Hp->Prop)->Prop:=fun o i v H Q=>∃ p xs k j,o=.ref p/\i=.int k/\H p=some (.lst xs)/\ixN xs.length k=some j/\Q (upd H p (.lst (xs.set j v)))
theorem qe:PSet X rSetL:=by
 intro aa s σ H o i v ov iv u Q I ro ri rv h;obtain⟨p,xs,k,j,rfl,rfl,hp,hj,q⟩:=h;cases ro
 obtain⟨t,rfl⟩:=ri;obtain⟨its,n,r,ho,hz⟩:=I.lst hp;obtain⟨h1,h2,h3,h4⟩:=JT hj;have hl:=r.length;have hn:=zX;have I':Inv X aa σ (upd H p (.lst (xs.set j v))) { s with heap:=s.heap.update p (Obj.mapSeq (·.setIfInBounds j u)) }:=
  I.lstUpd hp ho (Qf its n j u) (r.set rv j) (by rw[VV];exact hz) s.toks
 by_cases h0:0<=k
 ·have hk:k.toNat=j:=by
   rw[seqIndex_of h0 h4] at h1;exact Option.some.inj h1
  exact PySem.W.ki_setAt ho h0 (by omega) (by rw[Vx,<- hl];exact h4) (by rw[hk];exact⟨_,I',q⟩)
 ·have hk:(k + (its.toArray.size:Int)).toNat=j:=by
   rw[seqIndex_neg (by omega) h3] at h1;rw[Vx,<- hl];exact Option.some.inj h1
  exact PySem.W.ki_setBack ho (by omega) (by rw[Vx,<- hl];exact h3) (by omega) (by rw[hk];exact⟨_,I',q⟩)
theorem Sb (lo hi:Option Int) (n:Nat):(sliceBounds lo hi none n).1=((HT.sIx n 0 lo:Nat):Int)/\(sliceBounds lo hi none n).2.1=((HT.sIx n n hi:Nat):Int)/\(sliceBounds lo hi none n).2.2=1:=by
 refine⟨?_,?_,rfl⟩
 ·cases lo with
  | none=>simp[sliceBounds,HT.sIx]
  | some i=>
   simp only[sliceBounds,HT.sIx,Option.getD_none,show(1:Int) > 0 by decide,if_true]
   by_cases h:i<0
   ·simp only[h,if_true] <;> omega
   ·simp only[h,if_false] <;> omega
 ·cases hi with
  | none=>simp[sliceBounds,HT.sIx]
  | some i=>
   simp only[sliceBounds,HT.sIx,Option.getD_none,show(1:Int) > 0 by decide,if_true]
   by_cases h:i<0
   ·simp only[h,if_true] <;> omega
   ·simp only[h,if_false] <;> omega
theorem Qz (its:List Value) (lo hi:Option Int):slicePick its.toArray lo hi none=((its.drop (HT.sIx its.length 0 lo)).take (HT.sIx its.length its.length hi - HT.sIx its.length 0 lo)).toArray:=by
 obtain⟨h1,h2,h3⟩:=Sb lo hi its.toArray.size;unfold slicePick;rw[h1,h2,h3];simp only[sliceRange_one,pick_run,Vx] <;> rfl
def rSlL (K:PySem.W.Frag):V->Option Int->Option Int->Hp->VK->Prop:=fun x lo hi H Q=>∃ a xs,x=.ref a/\SqL K H a xs/\∀ p,H p=none->Q (.ref p) (upd H p (.lst (dW xs lo hi)))
theorem rB:SlR X (rSlL X.K):=by
 intro aa s σ H x v vl vu lo hi sl Q I rx hs pl pu h;obtain⟨a,xs,rfl,hx,q⟩:=h;cases rx
 obtain⟨its,r,ht,hz⟩:=I.list hx;have ai:=r.length;refine⟨"list",_,slot_list_getitem.lookup,ht.isList.typeIs,?_⟩;refine wpAny_getItem_list_slice ht.isList hs pl pu .none (by simp) ?_ (by rw[Vx] <;> omega);rw[Qz,<- ai];refine⟨.ref s.heap.objs.size,_,I.laid (t':=s.toks) (o:=.lst (dW xs lo hi)) (fun b ob q=>Ve _ q) (Vh _) ?_,rfl,q _ (I.hok.fresh (Vh _))⟩;exact⟨VL (Qu xs lo hi) hz,_,0,(r.drop (HT.sIx xs.length 0 lo)).take (HT.sIx xs.length xs.length hi - HT.sIx xs.length 0 lo),Vm _ rfl⟩
def flatV:V->Bool
 | .non=>true
 | .bl _=>true
 | .int _=>true
 | .str _=>true
 | _=>false
def eqV:V->V->Bool
 | .non,.non=>true
 | .bl a,.bl b=>a == b
 | .bl a,.int b=>(if a then 1 else 0) == b
 | .int a,.bl b=>a == (if b then 1 else 0)
 | .int a,.int b=>a == b
 | .str a,.str b=>a == b
 | _,_=>false
theorem fD {A:Around}{s:Shared}{y x:V}{u v:Value} (ry:av y u) (rx:av x v) (fy:flatV y=true) (fx:flatV x=true):SeqAt.EqAt A s u v (eqV y x):=by
 cases y with
 | non=>
  cases ry
  cases x with
  | non=>cases rx;exact SeqAt.EqAt.same _
  | bl b=>cases rx;exact SeqAt.EqAt.none_bool b
  | int b=>obtain⟨t,rfl⟩:=rx;exact SeqAt.EqAt.none_int b t
  | str b=>obtain⟨t,rfl⟩:=rx;exact SeqAt.EqAt.none_str b t
  | _=>exact absurd (show false=true from fx) Vu
 | bl a=>
  cases ry
  cases x with
  | non=>cases rx;exact SeqAt.EqAt.bool_none a
  | bl b=>cases rx;exact SeqAt.EqAt.bool_bool a b
  | int b=>obtain⟨t,rfl⟩:=rx;exact SeqAt.EqAt.bool_int a b t
  | str b=>obtain⟨t,rfl⟩:=rx;exact SeqAt.EqAt.bool_str a b t
  | _=>exact absurd (show false=true from fx) Vu
 | int a=>
  obtain⟨t',rfl⟩:=ry;cases x with
  | non=>cases rx;exact SeqAt.EqAt.int_none a t'
  | bl b=>cases rx;exact SeqAt.EqAt.int_bool a t' b
  | int b=>obtain⟨t,rfl⟩:=rx;exact SeqAt.EqAt.int_int a t' b t
  | str b=>obtain⟨t,rfl⟩:=rx;exact SeqAt.EqAt.int_str a t' b t
  | _=>exact absurd (show false=true from fx) Vu
 | str a=>
  obtain⟨t',rfl⟩:=ry;cases x with
  | non=>cases rx;exact SeqAt.EqAt.str_none a t'
  | bl b=>cases rx;exact SeqAt.EqAt.str_bool a t' b
  | int b=>obtain⟨t,rfl⟩:=rx;exact SeqAt.EqAt.str_int a t' b t
  | str b=>obtain⟨t,rfl⟩:=rx;exact SeqAt.EqAt.str_str a t' b t
  | _=>exact absurd (show false=true from fx) Vu
 | _=>exact absurd (show false=true from fy) Vu
theorem eQ:iC X (.builtin "len") (fun xs H Q=>∃ p ys,xs=[.ref p]/\(SqL X.K H p ys\/SqT X.K H p ys)/\Q (.int ys.length) H):=by
 intro aa s σ H xs us Q I r h;obtain⟨p,ys,rfl,hq,q⟩:=h;obtain⟨u,rfl,rx⟩:=hU r;cases rx
 have hn:=zX;rcases hq with hq|hq
 ·obtain⟨its,r',pl,hz⟩:=I.list hq
  have ai:=r'.length;exact Calls.call_len_list pl.isList (by simp only[Vx] <;> omega) ⟨.int ys.length,H,I.tok _,⟨s.toks + 1,by rw[Vx,ai]⟩,q⟩
 ·obtain⟨its,r',pl,hz⟩:=I.tuple hq
  have ai:=r'.length;exact len_tuple pl (by simp only[Vx] <;> omega) ⟨.int ys.length,H,I.tok _,⟨s.toks + 1,by rw[Vx,ai]⟩,q⟩
theorem T0:iC X (.type "list") (fun xs H Q=>∃ p ys,xs=[.ref p]/\(SqL X.K H p ys\/SqT X.K H p ys)/\∀ l,H l=none->Q (.ref l) (upd H l (.lst ys))):=by
 intro aa s σ H xs us Q I r h;obtain⟨p,ys,rfl,hq,q⟩:=h;obtain⟨u,rfl,rx⟩:=hU r;cases rx
 have aO:∀ (its:List Value),aw ys its->ys.length<=sizeLine->∀ (h':Heap) (c':Nat),(∀ b o',s.heap.get? b=some o'->h'.get? b=some o') ->
   h'.get? s.heap.objs.size=some { cls:=.type "list",dict:=none,data:=.seq its.toArray c',slots:=#[] }->EP X aa σ Q (.ref s.heap.objs.size) { s with heap:=h' }:=fun its r' hz h' c' kp e=>
  ⟨.ref s.heap.objs.size,_,I.laid (t':=s.toks) kp (Vh _) (show cY X.prog X.w _ h' _ (.lst ys) from⟨hz,its,c',r',e⟩),rfl,q _ (I.hok.fresh (Vh _))⟩
 rcases hq with hq|hq
 ·obtain⟨its,r',pl,hz⟩:=I.list hq
  have ai:=r'.length;obtain⟨o,ho,hc,n,hd⟩:=pl.isList;exact call_list_seq p (.inl rfl) ho hc hd (fun h' c' kp e=>aO its r' hz h' c' kp e) (by simp only[Vx] <;> omega)
 ·obtain⟨its,r',pl,hz⟩:=I.tuple hq
  have ai:=r'.length;obtain⟨o,ho,hc,n,hd⟩:=pl;exact call_list_seq p (.inr rfl) ho hc hd (fun h' c' kp e=>aO its r' hz h' c' kp e) (by simp only[Vx] <;> omega)
def tyV (K:PySem.W.Frag) (T:String) (x:V) (H:Hp):Prop:=match x with
 | .str _=>T="str"
 | .int _=>T="int"
 | .ref p=>(T="list"/\∃ xs,SqL K H p xs)\/(T="tuple"/\∃ o,K.lookup p=some o/\o.cls=.type "tuple"/\o.dict=none) \/
   (T="dict"/\((∃ kvs,H p=some (.dK kvs))\/∃ kvs,H p=some (.dT kvs)))\/(T="set"/\∃ S n,H p=some (.set S n))
 | _=>False
theorem J6 {aa:List (Addr×Obj)}{σ:St}{H:Hp}{s:Shared}{T:String}{x:V}{v:Value} (I:Inv X aa σ H s) (r:av x v) (ty:tyV X.K T x H) :
  s.TypeIs v T/\∀ a,v=.ref a->∃ ob,s.heap.get? a=some ob/\ob.dict=none:=by
 cases x with
 | str z=>
  obtain⟨t,rfl⟩:=r;cases (show T="str" from ty)
  exact⟨typeIs_str s z t,fun _ e=>nomatch e⟩
 | int i=>
  obtain⟨t,rfl⟩:=r;cases (show T="int" from ty)
  exact⟨typeIs_int s i t,fun _ e=>nomatch e⟩
 | ref p=>
  cases r
  rcases ty with⟨rfl,xs,hq⟩|⟨rfl,o,hk,hc,hd⟩|⟨rfl,hk⟩|⟨rfl,S,n,hk⟩
  ·obtain⟨its,_,pl,_⟩:=I.list hq
   refine⟨pl.isList.typeIs,fun a e=>?_⟩;cases e
   obtain⟨o,n,e,c,hd,_⟩:=pl;exact⟨o,e,hd⟩
  ·refine⟨⟨o,I.kIn p o hk,hc⟩,fun a e=>?_⟩
   cases e
   exact⟨o,I.kIn _ o hk,hd⟩
  ·have z:∃ o,s.heap.get? p=some o/\o.ExactDict:=by
    rcases hk with⟨kvs,hk⟩|⟨kvs,hk⟩
    ·obtain⟨_,_,_,_,o,_,_,e,ex,_⟩:=I.hok p _ hk
     exact⟨o,e,ex⟩
    ·obtain⟨_,_,_,_,o,_,_,e,ex,_⟩:=I.hok p _ hk
     exact⟨o,e,ex⟩
   obtain⟨o,e,ex⟩:=z;refine⟨⟨o,e,ex.1⟩,fun a e2=>?_⟩;cases e2
   exact⟨o,e,ex.2.1⟩
  ·obtain⟨o,_,_,_,e,ex,_⟩:=I.hok p _ hk
   refine⟨⟨o,e,ex.1⟩,fun a e2=>?_⟩;cases e2
   exact⟨o,e,ex.2.1⟩
 | _=>exact False.elim ty
def tBM0 (K:PySem.W.Frag) (T:String) (r:V->List V->Hp->VK->Prop) (to:TE):TE:=fun σ H Q=>to σ H fun x H1=>tyV K T x H1/\r x [] H1 Q
def tBM (K:PySem.W.Frag) (T:String) (r:V->List V->Hp->VK->Prop) (to:TE) (t:TA):TE:=fun σ H Q=>to σ H fun x H1=>tyV K T x H1/\t σ H1 fun xs H2=>r x xs H2 Q
variable {o e:Expr}{es:List Expr}{to:TE}{t:TA}{name:Str}{bb az:Pos}{T id:String}{r:V->List V->Hp->VK->Prop}
theorem pe_bm0 (pa:PlainAttrs T) (slot:Slot T name id) (E8:typeOf (.builtin id)=pure (.type "method_descriptor")) (hm:MtR X id r) (ho:PE X o to)
  (jj:attributeBase o name X.env (eval o X.env)=eval o X.env:=by rfl) (iM:(bb.endLine == az.line)=true:=by rfl):PE X (.Call (.Attribute o name bb) [] [] az) (tBM0 X.K T r to):=by
 intro aa s σ H Q I h;refine wpAny_Call_method0_late jj iM (thn (ho aa s σ H _ I h) fun v s1=>L2.ex5 fun x H1 I1 r1 bi=>?_);obtain⟨ty,q1⟩:=bi;obtain⟨h1,h2⟩:=J6 I1 r1 ty;exact⟨T,id,pa,slot,E8,h1,h2,Calls.callWith_builtin rfl (PySem.evalArgs_none (hm aa s1 σ H1 x [] v [] Q I1 r1 .nil q1))⟩
theorem iF (pa:PlainAttrs T) (slot:Slot T name id) (E8:typeOf (.builtin id)=pure (.type "method_descriptor")) (hm:MtR X id r) (ho:PE X o to) (ha:PA X (e::es) t)
  (jj:attributeBase o name X.env (eval o X.env)=eval o X.env:=by rfl)
  (Cq:((backTo az (starEach (e::es) X.env)).all (fun x=>!x.1) && (backToKw az (keywordEach [] X.env)).all (fun x=>x.1.isSome)
   && decide ((e::es).length + ([]:List Keyword).length + (if ([]:List Keyword).isEmpty then 0 else 1)<30))=true:=by rfl)
  (iM:(bb.endLine == az.line)=true:=by rfl) (hs:starEach (e::es) X.env=(false,eval e X.env)::starEach es X.env:=by rfl) (nR:(backTo az (starEach es X.env)).any (·.1)=false:=by rfl) :
  PE X (.Call (.Attribute o name bb) (e::es) [] az) (tBM X.K T r to t):=by
 intro aa s σ H Q I h;refine wpAny_Call_method_late jj Cq iM rfl (thn (ho aa s σ H _ I h) fun v s1=>L2.ex5 fun x H1 I1 r1 bi=>?_);obtain⟨ty,q1⟩:=bi;obtain⟨h1,h2⟩:=J6 I1 r1 ty;refine⟨T,id,pa,slot,E8,h1,h2,?_⟩;have hA:=ha az aa s1 σ H1 _ I1 q1;rw[hs] at hA ⊢;refine Calls.callWith_builtin (by show(false || (backTo az (starEach es X.env)).any (·.1))=false;rw[nR] <;> rfl) (Calls.evalArgs_plain ?_);exact thn hA fun us s2=>L2.ex5 fun vs H2 I2 r2 q2=>hm aa s2 σ H2 x vs v us Q I2 r1 r2 q2
end
end L2
namespace L2
open PySem PySem.Spec PyProof.Rows
def MtM (X:Cx) (id:String) (r:V->List V->Hp->VK->Prop):Prop:=
 ∀ (aa:List (Addr×Obj)) (s:Shared) (σ:St) (H:Hp) (x:V) (xs:List V) (v:Value) (us:List Value) (Q:VK),Inv X aa σ H s->av x v->aw xs us->r x xs H Q ->
  wpAny (model X.prog X.w) X.A (call (.builtin id) (v::us)) (EP X aa σ Q) X.xe s
theorem aw.one:∀ {x:V}{us:List Value},aw [x] us->∃ u,us=[u]/\av x u
 | _,_,.cons r .nil=>⟨_,rfl,r⟩
theorem aw.rep {xs:List V}{us:List Value} (h:aw xs us):∀ k:Nat,aw (List.replicate k xs).flatten (List.replicate k us).flatten
 | 0=>.nil
 | k + 1=>by
  rw[WA,WA,WG,WG];exact aw.append h (aw.rep h k)
theorem Kr (its:List Value):∀ (k:Nat) (acc:List Value),
  List.foldl (fun x1 x2=>x1++x2) acc.toArray (List.replicate k its.toArray)=(acc++(List.replicate k its).flatten).toArray
 | 0,acc=>by simp
 | k + 1,acc=>by
  have e:acc.toArray++its.toArray=(acc++its).toArray:=by simp
  have e2:(acc++its)++(List.replicate k its).flatten=acc++(List.replicate (k + 1) its).flatten:=by
   rw[WA,WG,WH]
  rw[<- e2,<- Kr its k (acc++its),<- e,WA,List.foldl_cons]
section
variable {X:Cx}{aa:List (Addr×Obj)}{σ:St}{H:Hp}{s:Shared}{l b:Addr}{xs ys zs:List V}
theorem Inv.lset {its its':List Value}{n:Nat}{f:Array Value->Array Value}{t':Nat} (I:Inv X aa σ H s) (hH:H l=some (.lst xs))
  (e:s.heap.get? l=some { cls:=.type "list",data:=.seq its.toArray n }) (hf:f its.toArray=its'.toArray) (hv:aw ys its') (hz:ys.length<=sizeLine) :
  Inv X aa σ (upd H l (.lst ys)) { s with heap:=s.heap.update l (Obj.mapSeq f),toks:=t' }:=by
 have q:=PySem.IsL.update e f;rw[hf] at q;refine I.write (x:=l) (e:=l) (by rw[hH];exact trivial) (.inl rfl) (fun b' u hb hu=>(VB s.heap (Obj.mapSeq f) (Ne.symm hb)).trans hu) ⟨_,q⟩ ?_;exact⟨hz,its',_,hv,q⟩
theorem Inv.lnew {its:List Value}{t':Nat} (I:Inv X aa σ H s) (hv:aw ys its) (hz:ys.length<=sizeLine) :
  Inv X aa σ (upd H s.heap.objs.size (.lst ys)) { s with heap:=s.heap.push { cls:=.type "list",data:=.seq its.toArray },toks:=t' }:=
 I.laid (fun _ _ q=>Ve _ q) (Vh _) ⟨hz,its,0,hv,Vm _ rfl⟩
theorem Inv.fresh (I:Inv X aa σ H s):H s.heap.objs.size=none:=I.hok.fresh (Vh _)
theorem Inv.lstM (I:Inv X aa σ H s) (hH:H l=some (.lst xs)):xs.length<=sizeLine/\∃ (its:List Value) (n:Nat),aw xs its/\xs.length=its.length/\s.heap.get? l=some { cls:=.type "list",data:=.seq its.toArray n }:=by
 obtain⟨z,its,n,r,e⟩:=I.hok l _ hH;exact⟨z,its,n,r,r.length,e⟩
theorem Kp {n:Nat} (h:n<=sizeLine):Builtin.List.listTooLong n=false:=by
 unfold Builtin.List.listTooLong;exact V5 (by omega)
end
section
variable {X:Cx}
def Sl:V->List V->Hp->VK->Prop:=fun x vs H Q=>∃ l xs y,x=.ref l/\vs=[y]/\H l=some (.lst xs)/\xs.length<sizeLine/\Q .non (upd H l (.lst (xs++[y])))
theorem nv:MtM X "list.append" Sl:=by
 intro aa s σ H x vs v us Q I rx rv h;obtain⟨l,xs,y,rfl,rfl,hH,hz,q⟩:=h;cases rx
 obtain⟨u,rfl,ru⟩:=rv.one;obtain⟨z,its,n,r,hl,e⟩:=I.lstM hH;refine call_meets F.slot_list_append ⟨_,e,rfl⟩ F.entry_list_append (F.args_list_append_2 _ _) (PySem.list_append l its.toArray n u (by rw[Vx];omega)) ⟨e,?_⟩;refine⟨.non,_,I.lset (its':=its++[u]) hH e (by simp) (r.append (.cons ru .nil)) ?_,rfl,q⟩;rw[VD,Xe];omega
def P9:V->List V->Hp->VK->Prop:=fun x vs H Q=>∃ l b xs zs,x=.ref l/\vs=[.ref b]/\H l=some (.lst xs)/\H b=some (.lst zs)/\xs.length + zs.length<=sizeLine/\Q .non (upd H l (.lst (xs++zs)))
theorem Fh:MtM X "list.extend" P9:=by
 intro aa s σ H x vs v us Q I rx rv h;obtain⟨l,b,xs,zs,rfl,rfl,hH,hB,hz,q⟩:=h;cases rx
 obtain⟨u,rfl,ru⟩:=rv.one;cases ru
 obtain⟨z,its,n,r,hl,e⟩:=I.lstM hH;obtain⟨z2,fS,n2,r2,bQ,e2⟩:=I.lstM hB;have hsz:its.toArray.size + fS.toArray.size<=sizeLine:=by rw[Vx,Vx];omega
 have iZ:¬ (!its.toArray.isEmpty && Builtin.List.listTooLong (its.toArray.size + fS.toArray.size))=true:=by
  rw[Kp hsz,Bool.and_false];exact Vu
 refine call_meets F.slot_list_extend ⟨_,e,rfl⟩ F.entry_list_extend (F.args_list_extend_2 _ _)
  (AutoSeq1.list_extend_list_list_0 l its.toArray n b fS.toArray n2 iZ (by rw[Vx];omega) (by omega)) ⟨e,e2,?_⟩
 refine⟨.non,_,I.lset (its':=its++fS) hH e (by simp) (r.append r2) ?_,rfl,q⟩;rw[VD];omega
def rCat:R2:=fun x y H Q=>∃ l b xs zs,x=.ref l/\y=.ref b/\H l=some (.lst xs)/\H b=some (.lst zs)/\xs.length + zs.length<=sizeLine/\∀ p,H p=none->Q (.ref p) (upd H p (.lst (xs++zs)))
theorem op_cat:OpR X (binaryOp .Add) rCat:=by
 intro aa s σ H x y v u Q I rx ry h;obtain⟨l,b,xs,zs,rfl,rfl,hH,hB,hz,q⟩:=h;cases rx
 cases ry
 obtain⟨z,its,n,r,hl,e⟩:=I.lstM hH;obtain⟨z2,fS,n2,r2,bQ,e2⟩:=I.lstM hB;refine PySem.P.add_list e e2 ?_ (by rw[Vx,Vx];omega);have ea:its.toArray++fS.toArray=(its++fS).toArray:=by simp
 rw[ea];exact⟨.ref _,_,I.lnew (t':=s.toks) (r.append r2) (by rw[VD];omega),rfl,q _ I.fresh⟩
def rRep:R2:=fun x y H Q=>∃ l k xs,x=.ref l/\y=.int k/\H l=some (.lst xs)/\-(2 ^ 63)<=k/\k<2 ^ 63/\xs.length * k.toNat<=sizeLine /\
 ∀ p,H p=none->Q (.ref p) (upd H p (.lst (List.replicate k.toNat xs).flatten))
theorem SV {α:Type} (xs:List α) (k:Nat):(List.replicate k xs).flatten.length=k * xs.length:=by
 induction k with
 | zero=>simp
 | succ k ih=>rw[WA,WG,VD,ih,Nat.succ_mul,XJ]
theorem A0:OpR X (binaryOp .Mult) rRep:=by
 intro aa s σ H x y v u Q I rx ry h;obtain⟨l,k,xs,rfl,rfl,hH,h1,h2,hz,q⟩:=h;cases rx
 obtain⟨t,rfl⟩:=ry;obtain⟨z,its,n,r,hl,e⟩:=I.lstM hH;have ai:its.toArray.size * k.toNat<=sizeLine:=by rw[Vx,<- hl];exact hz
 have eL:¬ its.toArray.size * k.toNat > (2 ^ 63 - 1) / 8:=by
  have:(sizeLine:Nat)<=(2 ^ 63 - 1) / 8:=by decide
  omega
 have Eg:¬ (!Builtin.List.listFitsIndex k)=true:=by
  rw[fitsIndex_both h1 h2];exact Vu
 have iZ:¬ Builtin.List.listTooLong (its.toArray.size * k.toNat)=true:=by
  rw[Kp ai];exact Vu
 have cx:List.foldl (fun x1 x2=>x1++x2) #[] (List.replicate (if its.toArray.isEmpty=true then 0 else k.toNat) its.toArray)=(List.replicate k.toNat its).flatten.toArray:=by
  have f0:∀ m:Nat,List.foldl (fun x1 x2=>x1++x2) #[] (List.replicate m its.toArray)=(List.replicate m its).flatten.toArray:=fun m=>by
   have:=Kr its m [];rw[List.nil_append] at this;exact this
  rw[f0];cases its with
  | nil=>simp
  | cons a r'=>rw[if_neg (by simp)]
 refine wpAny_binaryOp_repeat_ref (T:="list") (U:="int") (by decide) ⟨_,e,rfl⟩ (fun s'=>typeIs_int s' k t) noFill_list_mul F.fills_int_mul F.slot_int_rmul repeat_list F.slot_int_index.lookup
  (call_meets F.slot_int_rmul (typeIs_int s k t) F.entry_int_rmul (F.args_int_rmul_2 _ _) (int___rmul___int_list k t l its.toArray n)
   ⟨e,rfl,⟨_,e,rfl⟩,call_meets F.slot_list_mul ⟨_,e,rfl⟩ F.entry_list_mul (F.args_list_mul_2 _ _) (AutoListH.list___mul___list_int_3 l its.toArray n k t Eg eL iZ) ⟨e,?_⟩⟩)
 rw[cx];exact⟨.ref _,_,I.lnew (t':=s.toks) (r.rep k.toNat) (by rw[SV,Nat.mul_comm];exact hz),rfl,q _ I.fresh⟩
end
section
variable {prog:Program}{w:World}{A:Around}{E:Value->Shared->Prop}{s:Shared}
end
section
variable {X:Cx}
end
end L2
namespace L2
open PySem PySem.Spec PyProof.Rows
section
variable {κ:Type} [DecidableEq κ]
def a9 (kvs:List (κ×V)) (k:κ):Option V:=(kvs.find? fun kv=>decide (kv.1=k)).map (·.2)
def aF (kvs:List (κ×V)) (k:κ) (v:V):List (κ×V):=
 if (kvs.any fun kv=>decide (kv.1=k))=true then kvs.map (fun kv=>if kv.1=k then(kv.1,v) else kv) else kvs++[(k,v)]
def dA (kvs:List (κ×V)) (k:κ):List (κ×V):=kvs.filter fun kv=>decide (kv.1≠k)
theorem gK {p:κ×V}{r:List (κ×V)}{k:κ} (e:p.1=k):a9 (p::r) k=some p.2:=by simp[a9,WV,e]
theorem fB {p:κ×V}{r:List (κ×V)}{k:κ} (e:¬ p.1=k):a9 (p::r) k=a9 r k:=by simp[a9,WV,e]
theorem rS (k:κ):∀ kvs:List (κ×V),(kvs.any fun kv=>decide (kv.1=k))=(a9 kvs k).isSome
 | []=>rfl
 | p::r=>by
  rw[W3];by_cases e:p.1=k
  ·simp only[gK e,VG e,Bool.true_or,Option.isSome_some]
  ·rw[fB e,V5 e,Bool.false_or];exact rS k r
theorem KQ (k j:κ) (y:V):∀ kvs:List (κ×V),a9 (kvs.map fun kv=>if kv.1=k then(kv.1,y) else kv) j=(a9 kvs j).map fun x=>if j=k then y else x
 | []=>rfl
 | p::r=>by
  have ih:=KQ k j y r;rw[Wg];by_cases h:p.1=k
  ·rw[if_pos h]
   by_cases e:p.1=j
   ·rw[gK (p:=(p.1,y)) e,gK e,Xl,if_pos (e.symm.trans h)]
   ·rw[fB (p:=(p.1,y)) e,fB e,ih]
  ·rw[if_neg h]
   by_cases e:p.1=j
   ·rw[gK (p:=p) e,gK e,Xl,if_neg (fun z=>h (e.trans z))]
   ·rw[fB (p:=p) e,fB e,ih]
theorem Ld (k j:κ) (y:V):∀ kvs:List (κ×V),a9 kvs k=none->a9 (kvs++[(k,y)]) j=if j=k then some y else a9 kvs j
 | [],_=>by
  by_cases e:k=j
  ·rw[if_pos e.symm];exact gK (p:=(k,y)) e
  ·rw[if_neg (fun z=>e z.symm)];exact fB (p:=(k,y)) e
 | p::r,hn=>by
  rw[List.cons_append];have hk:¬ p.1=k:=fun z=>by rw[gK z] at hn;cases hn
  rw[fB hk] at hn;have ih:=Ld k j y r hn;by_cases e:p.1=j
  ·rw[gK e,gK e,if_neg (fun z=>hk (e.trans z))]
  ·rw[fB e,fB e,ih]
theorem ni (kvs:List (κ×V)) (k j:κ) (y:V):a9 (aF kvs k y) j=if j=k then some y else a9 kvs j:=by
 unfold aF;by_cases a:(kvs.any fun kv=>decide (kv.1=k))=true
 ·rw[if_pos a,KQ]
  rw[rS] at a;by_cases e:j=k
  ·obtain⟨x,hx⟩:=Option.isSome_iff_exists.mp a
   rw[if_pos e,e,hx,Xl,if_pos rfl]
  ·rw[if_neg e]
   cases a9 kvs j with
   | none=>rfl
   | some x=>rw[Xl,if_neg e]
 ·rw[if_neg a]
  refine Ld k j y kvs ?_;rw[rS] at a;cases q:a9 kvs k with
  | none=>rfl
  | some x=>rw[q] at a;exact(a rfl).elim
theorem rM (kvs:List (κ×V)) (k:κ) (v:V):(aF kvs k v).length<=kvs.length + 1:=by
 unfold aF;split
 ·rw[Vd];omega
 ·rw[VD,Vw,List.length_nil];omega
theorem dJ.isSome_eq {o:Option V}{u:Option Value} (r:dJ o u):o.isSome=u.isSome:=by
 cases o with
 | none=>cases u with
  | none=>rfl
  | some _=>exact(show False from r).elim
 | some _=>cases u with
  | none=>exact(show False from r).elim
  | some _=>rfl
theorem dJ.getD {o:Option V}{u:Option Value}{d:V}{d':Value} (r:dJ o u) (rd:av d d'):av (o.getD d) (u.getD d'):=by
 cases o with
 | none=>cases u with
  | none=>exact rd
  | some _=>exact(show False from r).elim
 | some _=>cases u with
  | none=>exact(show False from r).elim
  | some _=>exact r
theorem KV.val {kvs:List (κ×V)}{vs:List (κ×Value)} (r:KV kvs vs) (k:κ):dJ (a9 kvs k) (valueAt vs k):=by
 unfold KV at r
 induction r with
 | nil=>exact True.intro
 | @cons p q ps qs h t ih=>
  obtain⟨h1,h2⟩:=h;by_cases e:p.1=k
  ·have e':q.1=k:=h1.symm.trans e
   have b:valueAt (q::qs) k=some q.2:=by simp[valueAt,WV,e']
   rw[gK e,b];exact h2
  ·have e':¬ q.1=k:=fun z=>e (h1.trans z)
   have b:valueAt (q::qs) k=valueAt qs k:=by simp[valueAt,WV,e']
   rw[fB e,b];exact ih
theorem KV.any {kvs:List (κ×V)}{vs:List (κ×Value)} (r:KV kvs vs) (k:κ):(kvs.any fun kv=>decide (kv.1=k))=vs.any fun kv=>decide (kv.1=k):=by
 unfold KV at r
 induction r with
 | nil=>rfl
 | cons h t ih=>rw[W3,W3,ih,h.1]
theorem KV.repl {kvs:List (κ×V)}{vs:List (κ×Value)} (r:KV kvs vs) (k:κ){y:V}{u:Value} (ry:av y u) :
  KV (kvs.map fun kv=>if kv.1=k then(kv.1,y) else kv) (vs.map fun kv=>if kv.1=k then(kv.1,u) else kv):=by
 unfold KV at r ⊢
 induction r with
 | nil=>exact .nil
 | @cons p q ps qs h t ih=>
  rw[Wg,Wg];refine .cons ?_ ih;obtain⟨h1,h2⟩:=h;by_cases e:p.1=k
  ·rw[if_pos e,if_pos (h1.symm.trans e)];exact⟨h1,ry⟩
  ·rw[if_neg e,if_neg (fun z=>e (h1.trans z))];exact⟨h1,h2⟩
theorem KV.put {kvs:List (κ×V)}{vs:List (κ×Value)} (r:KV kvs vs) (k:κ){y:V}{u:Value} (ry:av y u):KV (aF kvs k y) (stored vs k u):=by
 unfold aF stored;rw[r.any k];by_cases e:(vs.any fun kv=>decide (kv.1=k))=true
 ·rw[if_pos e,if_pos e];exact r.repl k ry
 ·rw[if_neg e,if_neg e];exact Paired.snoc r ⟨rfl,ry⟩
theorem KV.drop {kvs:List (κ×V)}{vs:List (κ×Value)} (r:KV kvs vs) (k:κ):KV (dA kvs k) (without vs k):=by
 unfold KV at r ⊢;unfold dA without
 induction r with
 | nil=>exact .nil
 | @cons p q ps qs h t ih=>
  obtain⟨h1,h2⟩:=h;rw[Wb,Wb];by_cases e:p.1=k
  ·have a:¬ decide (p.1≠k)=true:=by simp[e]
   have b:¬ decide (q.1≠k)=true:=by simp[h1.symm.trans e]
   rw[if_neg a,if_neg b];exact ih
  ·have e':¬ q.1=k:=fun z=>e (h1.trans z)
   have a:decide (p.1≠k)=true:=by simp[e]
   have b:decide (q.1≠k)=true:=by simp[e']
   rw[if_pos a,if_pos b];exact .cons ⟨h1,h2⟩ ih
theorem KV.length {kvs:List (κ×V)}{vs:List (κ×Value)} (r:KV kvs vs):kvs.length=vs.length:=Paired.length r
theorem QH (kvs:List (κ×V)) (k:κ):(dA kvs k).length<=kvs.length:=VZ _ _
end
theorem lm {P:Program}{w:World}{k:Key}{u:Value} (r:av (kV k) u):(cr P w).is k u=true:=by
 cases k with
 | inl i=>obtain⟨t,e⟩:=(show ∃ t,u=Value.int i t from r);subst e;exact Rm P w i t
 | inr x=>obtain⟨t,e⟩:=(show ∃ t,u=Value.str x t from r);subst e;exact QT P w x t
theorem LK {P:Program}{w:World}:∀ {ks:List Key}{us:List Value},aw (ks.map kV) us->ItemsAre (cr P w) ks us
 | [],_,r=>by rw[List.map_nil] at r;cases r;exact .nil
 | k::ks,_,r=>by
  rw[Wg] at r;cases r with
  | cons h t=>exact .cons (lm h) (LK t)
abbrev KT (H:Hp):List (List Key×V)->List (List Key×Addr×Value)->Prop:=Paired fun p q=>p.1=q.1/\H q.2.1=some (.tup (p.1.map kV))/\av p.2 q.2.2
theorem KT.val {H:Hp}{kvs:List (List Key×V)}{xs:List (List Key×Addr×Value)} (r:KT H kvs xs) (k:List Key):dJ (a9 kvs k) ((atKey xs k).map (·.2)):=by
 induction r with
 | nil=>exact True.intro
 | @cons p q ps qs h t ih=>
  obtain⟨h1,_,h2⟩:=h;by_cases e:p.1=k
  ·have e':q.1=k:=h1.symm.trans e
   have b:atKey (q::qs) k=some q.2:=by simp[atKey,WV,e']
   rw[gK e,b];exact h2
  ·have e':¬ q.1=k:=fun z=>e (h1.trans z)
   have b:atKey (q::qs) k=atKey qs k:=by simp[atKey,WV,e']
   rw[fB e,b];exact ih
theorem KT.repl {H:Hp}{kvs:List (List Key×V)}{xs:List (List Key×Addr×Value)} (r:KT H kvs xs) (k:List Key){y:V}{u:Value} (ry:av y u) :
  KT H (kvs.map fun kv=>if kv.1=k then(kv.1,y) else kv) (xs.map (putAt k u)):=by
 induction r with
 | nil=>exact .nil
 | @cons p q ps qs h t ih=>
  rw[Wg,Wg];refine .cons ?_ ih;obtain⟨h1,h2,h3⟩:=h;unfold putAt;by_cases e:p.1=k
  ·rw[if_pos e,if_pos (h1.symm.trans e)];exact⟨h1,h2,ry⟩
  ·rw[if_neg e,if_neg (fun z=>e (h1.trans z))];exact⟨h1,h2,h3⟩
theorem KT.put {H:Hp}{kvs:List (List Key×V)}{xs:List (List Key×Addr×Value)} (r:KT H kvs xs) (k:List Key){b:Addr}{y:V}{u:Value} (hb:H b=some (.tup (k.map kV))) (ry:av y u) :
  KT H (aF kvs k y) (storedH xs k b u):=by
 have e:(kvs.any fun kv=>decide (kv.1=k))=(atKey xs k).isSome:=by
  rw[rS,(r.val k).isSome_eq,XD]
 unfold aF storedH;rw[e];by_cases q:(atKey xs k).isSome=true
 ·rw[if_pos q,if_pos q];exact r.repl k ry
 ·rw[if_neg q,if_neg q];exact Paired.snoc r ⟨rfl,hb,ry⟩
theorem KT.keeps {H H':Hp}{kvs:List (List Key×V)}{xs:List (List Key×Addr×Value)} (r:KT H kvs xs) (ht:∀ b ys,H b=some (.tup ys)->H' b=some (.tup ys)):KT H' kvs xs:=
 Paired.mapP r fun _ _ z=>⟨z.1,ht _ _ z.2.1,z.2.2⟩
section
variable {P:Program}{w:World}{H:Hp}{h:Heap}{a:Addr}
theorem rd_of {u:HO} (ok:HOk P w H h) (e:Rd H a u):cY P w H h a u:=e.ok ok
theorem qg {kvs:List (Key×V)} (ok:HOk P w H h) (e:Rd H a (.dK kvs)):kvs.length<=sizeLine/\(a == sysModules)=false/\∃ vs,KV kvs vs/\h.DictOf (cr P w) a vs:=
 show cY P w H h a (.dK kvs) from rd_of ok e
theorem qP {kvs:List (Key×V)} (ok:HOk P w H h) (e:H a=some (.dK kvs)):kvs.length<=sizeLine/\(a == sysModules)=false/\∃ vs,KV kvs vs/\h.DictOf (cr P w) a vs:=qg ok (.inl e)
theorem qR {ks:List Key} (ok:HOk P w H h) (e:H a=some (.tup (ks.map kV))):(tupleKind (cr P w)).is h ks a:=by
 obtain⟨_,its,r,o,h1,h2,n,h3⟩:=(show cY P w H h a (.tup (ks.map kV)) from ok a _ e);exact⟨o,its.toArray,n,h1,h2,h3,by simpa using LK r⟩
theorem pI {kvs:List (List Key×V)} (ok:HOk P w H h) (e:Rd H a (.dT kvs)):kvs.length<=sizeLine/\(a == sysModules)=false /\
  ∃ xs,KT H kvs xs/\h.DictOfH (tupleKind (cr P w)) a xs:=by
 obtain⟨z,y,xs,r,o,es,ep,h1,h2,h3,h4,h5⟩:=(show cY P w H h a (.dT kvs) from rd_of ok e);refine⟨z,y,xs,r,o,es,ep,h1,h2,h3,h4,fun x hx=>?_,h5⟩;have all:∀ {l:List (List Key×V)}{m:List (List Key×Addr×Value)},KT H l m->∀ x∈m,(tupleKind (cr P w)).is h x.1 x.2.1:=by
  intro l m q
  induction q with
  | nil=>intro x hx;exact nomatch hx
  | @cons p q ps qs hq t ih=>
   intro x hx;rcases VH.mp hx with e|hx
   ·subst e
    exact qR ok (by rw[<- hq.1];exact hq.2.1)
   ·exact ih x hx
 exact all r x hx
theorem dt_of {kvs:List (List Key×V)} (ok:HOk P w H h) (e:H a=some (.dT kvs)):kvs.length<=sizeLine/\(a == sysModules)=false /\
  ∃ xs,KT H kvs xs/\h.DictOfH (tupleKind (cr P w)) a xs:=pI ok (.inl e)
end
def fq (H:Hp) (a:Addr) (y:V) (r:Option V):Prop:=
 (∃ kvs k,Rd H a (.dK kvs)/\y=kV k/\r=a9 kvs k)\/∃ kvs k b,Rd H a (.dT kvs)/\y=.ref b/\H b=some (.tup (k.map kV))/\r=a9 kvs k
def nK (H:Hp) (a:Addr) (y v:V) (H':Hp):Prop:=
 (∃ kvs k,H a=some (.dK kvs)/\y=kV k/\kvs.length<sizeLine/\H'=upd H a (.dK (aF kvs k v))) \/
 ∃ kvs k b,H a=some (.dT kvs)/\y=.ref b/\H b=some (.tup (k.map kV))/\kvs.length<sizeLine/\H'=upd H a (.dT (aF kvs k v))
theorem fq.k {H:Hp}{a:Addr}{kvs:List (Key×V)}{k:Key} (e:H a=some (.dK kvs)):fq H a (kV k) (a9 kvs k):=.inl ⟨kvs,k,.inl e,rfl,rfl⟩
theorem nK.k {H:Hp}{a:Addr}{kvs:List (Key×V)}{k:Key}{v:V} (e:H a=some (.dK kvs)) (hl:kvs.length<sizeLine):nK H a (kV k) v (upd H a (.dK (aF kvs k v))):=.inl ⟨kvs,k,e,rfl,hl,rfl⟩
section
variable {X:Cx}{aa:List (Addr×Obj)}{σ:St}{H:Hp}{s:Shared}{a:Addr}{y v:V}{u r:Value}{o:Option V}{A:Around}{E:Value->Shared->Prop}
theorem Inv.big (I:Inv X aa σ H s):sysModules<s.heap.objs.size:=by
 have h:mainGlobals<s.heap.objs.size:=(I.mod.glob.keeps I.bk).lt;exact Xm (by decide) h
theorem RD {Q:Value->Shared->Prop} (hu:A.units + 1<cLine) (I:Inv X aa σ H s) (g:fq H a y (some v)) (ry:av y u) (h:∀ w' s',Inv X aa σ H s'->av v w'->Q w' s') :
  wpAny (model X.prog X.w) A (getItem (.ref a) u) Q E s:=by
 rcases g with⟨kvs,k,e,ey,l⟩|⟨kvs,k,b,e,ey,eb,l⟩
 ·subst ey
  obtain⟨z,hd,vs,rel,dd⟩:=qg I.hok e;obtain⟨w',hw,dZ⟩:=dJ.some_of (v:=v) (o:=valueAt vs k) (by rw[l];exact rel.val k);exact wpAny_getItem_of (lm ry) dd.mapOf hw (h w' _ (I.tok _) dZ)
 ·subst ey
  cases (show u=Value.ref b from ry)
  obtain⟨z,hd,xs,rel,dd⟩:=pI I.hok e;obtain⟨w',hw,dZ⟩:=dJ.some_of (v:=v) (o:=(atKey xs k).map (·.2)) (by rw[l];exact rel.val k);obtain⟨p,hp,mK⟩:=Option.map_eq_some_iff.mp hw;refine wpAny_getItem_heap (tupleKind_room_in1 hu) (qR I.hok eb) dd hp ?_;rw[mK];exact h w' _ (I.tok _) dZ
theorem d_in {Q:Value->Shared->Prop} (hu:A.units + 1<cLine) (I:Inv X aa σ H s) (g:fq H a y o) (ry:av y u) (h:∀ s',Inv X aa σ H s'->Q (.bool o.isSome) s') :
  wpAny (model X.prog X.w) A (compareOp .In u (.ref a)) Q E s:=by
 rcases g with⟨kvs,k,e,ey,l⟩|⟨kvs,k,b,e,ey,eb,l⟩
 ·subst ey
  obtain⟨z,hd,vs,rel,dd⟩:=qg I.hok e;refine wpAny_in_of (lm ry) hd dd.mapOf ?_;rw[<- (rel.val k).isSome_eq,<- l];exact h _ (I.tok _)
 ·subst ey
  cases (show u=Value.ref b from ry)
  obtain⟨z,hd,xs,rel,dd⟩:=pI I.hok e;refine wpAny_in_heap (tupleKind_room_in1 hu) (qR I.hok eb) hd dd ?_;have q:=(rel.val k).isSome_eq;rw[XD] at q;rw[<- q,<- l];exact h _ (I.tok _)
theorem Qx {Q:Value->Shared->Prop} (hu:A.units + 1<cLine) (I:Inv X aa σ H s) (g:fq H a y o) (ry:av y u) (h:∀ s',Inv X aa σ H s'->Q (.bool (!o.isSome)) s') :
  wpAny (model X.prog X.w) A (compareOp .NotIn u (.ref a)) Q E s:=by
 rcases g with⟨kvs,k,e,ey,l⟩|⟨kvs,k,b,e,ey,eb,l⟩
 ·subst ey
  obtain⟨z,hd,vs,rel,dd⟩:=qg I.hok e;refine wpAny_notIn_of (lm ry) hd dd.mapOf ?_;rw[<- (rel.val k).isSome_eq,<- l];exact h _ (I.tok _)
 ·subst ey
  cases (show u=Value.ref b from ry)
  obtain⟨z,hd,xs,rel,dd⟩:=pI I.hok e;refine wpAny_notIn_heap (tupleKind_room_in1 hu) (qR I.hok eb) hd dd ?_;have q:=(rel.val k).isSome_eq;rw[XD] at q;rw[<- q,<- l];exact h _ (I.tok _)
theorem FF {h':Heap}{t':Nat}{ob:HO} (I:Inv X aa σ H s) (mu:Mut (H a)) (hs:Heap.SameBut a s.heap h') (he:∃ q,h'.get? a=some q) (new:cY X.prog X.w (upd H a ob) h' a ob) :
  Inv X aa σ (upd H a ob) { s with heap:=h',toks:=t' }:=
 I.write (x:=a) (e:=a) mu (.inl rfl) (fun b q hb z=>(hs.2 b hb).trans z) he new
theorem Lj {P:Program}{w:World}{H':Hp}{h':Heap}{kvs:List (Key×V)}{vs:List (Key×Value)} (z:kvs.length<=sizeLine) (hd:(a == sysModules)=false) (rel:KV kvs vs) (dd:h'.DictOf (cr P w) a vs) :
  cY P w H' h' a (.dK kvs):=⟨z,hd,vs,rel,dd⟩
theorem To {H':Hp}{Q:Unit->Shared->Prop} (hu:A.units + 1<cLine) (I:Inv X aa σ H s) (g:nK H a y v H') (ry:av y u) (rv:av v r) (h:∀ s',Inv X aa σ H' s'->Q () s') :
  wpAny (model X.prog X.w) A (setItem (.ref a) u r) Q E s:=by
 rcases g with⟨kvs,k,e,ey,l,eH⟩|⟨kvs,k,b,e,ey,eb,l,eH⟩
 ·subst ey eH
  obtain⟨z,hd,vs,rel,dd⟩:=qP I.hok e;have hz:vs.length<=sizeLine:=by rw[<- rel.length];exact z
  have hl:(aF kvs k v).length<=sizeLine:=by have:=rM kvs k v;omega
  refine wpAny_setItem_pairs (hsz:=hz) (lm ry) dd fun h' oM hs=>h _ ?_
  have he:∃ q,h'.get? a=some q:=let ⟨q,_,_,hq,_⟩:=oM;⟨q,hq⟩
  exact FF I (by rw[e];exact True.intro) hs he (Lj hl hd (rel.put k rv) oM)
 ·subst ey eH
  cases (show u=Value.ref b from ry)
  obtain⟨z,hd,xs,rel,dd⟩:=dt_of I.hok e;have hz:xs.length<=sizeLine:=by rw[<- Paired.length rel];exact z
  have hl:(aF kvs k v).length<=sizeLine:=by have:=rM kvs k v;omega
  refine wpAny_setItem_heap (hsz:=hz) (tupleKind_room_in1 hu) (qR I.hok eb) dd fun h' oM hs=>h _ ?_
  obtain⟨q,es,ep,hq,h2,h3,h4,_,h5⟩:=oM;refine FF I (by rw[e];exact True.intro) hs ⟨q,hq⟩ ⟨hl,hd,_,(rel.put k eb rv).keeps fun c ys ec=>?_,q,es,ep,hq,h2,h3,h4,h5⟩;rw[aj (pS ec e (fun z=>nomatch z))];exact ec
end
section
variable {X:Cx}{aa:List (Addr×Obj)}{σ:St}{H:Hp}{s:Shared}{a:Addr}{kvs:List (Key×V)}{k:Key}{u:Value}{A:Around}{E:Value->Shared->Prop}
theorem d_pop {v:V}{more:List Value}{Q:Value->Shared->Prop} (I:Inv X aa σ H s) (e:H a=some (.dK kvs)) (ry:av (kV k) u) (l:a9 kvs k=some v) (hm:more=[]\/∃ x,more=[x])
  (h:∀ w' s',Inv X aa σ (upd H a (.dK (dA kvs k))) s'->av v w'->Q w' s'):wpAny (model X.prog X.w) A (call (.builtin "dict.pop") (.ref a::u::more)) Q E s:=by
 obtain⟨z,hd,vs,rel,dd⟩:=qP I.hok e;obtain⟨w',hw,dZ⟩:=dJ.some_of (v:=v) (o:=valueAt vs k) (by rw[<- l];exact rel.val k);have hp:(keyPart u).isSome=true:=by
  cases k with
  | inl i=>obtain⟨t,q⟩:=(show ∃ t,u=Value.int i t from ry);subst q;rfl
  | inr x=>obtain⟨t,q⟩:=(show ∃ t,u=Value.str x t from ry);subst q;rfl
 have ha:argsOk "dict.pop" ⟨.ref a::u::more,[]⟩:=by
  rcases hm with q|⟨x,q⟩
  ·subst q;exact PySem.F.args_dict_pop_2 _ _
  ·subst q;exact PySem.F.args_dict_pop_3 _ _ _
 refine call_meetsIn PySem.F.slot_dict_pop dd.typeIs PySem.F.entry_dict_pop ha (meets_dict_pop_there (cr X.prog X.w) a (lm ry) more hm hp)
  ⟨vs,w',dd,by rw[<- rel.length];exact z,hw,fun h' oM hs=>h w' _ ?_ dZ⟩
 have he:∃ q,h'.get? a=some q:=let ⟨q,_,_,hq,_⟩:=oM;⟨q,hq⟩
 exact FF I (by rw[e];exact True.intro) hs he (Lj (VL (QH kvs k) z) hd (rel.drop k) oM)
end
def NoSl (i:Expr):Prop:=∀ ov iv,subscripted i false ov iv=operate [ov,iv] (getItem ov iv)
theorem Rk {prog:Program}{w:World}{A:Around}{E:Value->Shared->Prop}{s:Shared}{env:Env}{value slice:Expr}{pos:Pos}{T id:String}{Q:Value->Shared->Prop}
  (hl:typeLookup (.type T) "__getitem__"=pure (some (.builtin id))) (hs:NoSl slice)
  (h:wpAny (model prog w) A (eval value env) (fun o s₁=>wpAny (model prog w) A (eval slice env) (fun i s₂=>s₂.TypeIs o T/\wpAny (model prog w) A (getItem o i) Q E s₂) E s₁) E s) :
  wpAny (model prog w) A (eval (.Subscript value slice pos) env) Q E s:=by
 refine Subscript_ (V0 h (fun o s₁ h₁=>V0 h₁ (fun i s₂ h₂=>?_) fun _ _ x=>x) fun _ _ x=>x);obtain⟨hT,h₂⟩:=h₂;unfold subscriptTail;refine oW ?_;rw[getitemInPython_of_ne hT.not_modules];refine oW (wpAny_specialOf hT hl ?_);have aO:wpAny (model prog w) A (subscripted slice false o i) (fun r s₃=>wpAny (model prog w) A (letTemporaryGo value o r >>= fun _=>pure r) Q E s₃) E s₂:=by
  rw[hs o i];exact wpAny_operating (V0 h₂ (fun r s₃ h₃=>oW (wpAny_letTemporaryGo (Vi h₃))) fun _ _ x=>x)
 first
  | exact Vi (oW aO)
  | exact oW (Vi (oW aO))
  | exact oW aO
theorem Qm {X:Cx}{aa:List (Addr×Obj)}{σ:St}{H:Hp}{s:Shared}{a:Addr}{y:V}{o:Option V} (I:Inv X aa σ H s) (g:fq H a y o):s.TypeIs (.ref a) "dict":=by
 rcases g with⟨kvs,k,e,_,_⟩|⟨kvs,k,b,e,_,_,_⟩
 ·obtain⟨_,_,vs,_,dd⟩:=qg I.hok e
  exact dd.typeIs
 ·obtain⟨_,_,xs,_,dd⟩:=pI I.hok e
  exact dd.typeIs
def tDGet (td ty:TE):TE:=fun σ H Q=>td σ H fun x H1=>ty σ H1 fun y H2=>∃ a v,x=.ref a/\fq H2 a y (some v)/\Q v H2
def tDIn (ty td:TE):TE:=fun σ H Q=>ty σ H fun y H1=>td σ H1 fun x H2=>∃ a o,x=.ref a/\fq H2 a y o/\Q (.bl o.isSome) H2
def PV (ty td:TE):TE:=fun σ H Q=>ty σ H fun y H1=>td σ H1 fun x H2=>∃ a o,x=.ref a/\fq H2 a y o/\Q (.bl (!o.isSome)) H2
def sDPut (td ty tv:TE):TS:=fun D σ H=>tv σ H fun v H1=>td σ H1 fun x H2=>ty σ H2 fun y H3=>∃ a H4,x=.ref a/\nK H3 a y v H4/\D.nx σ H4
section
variable {X:Cx}{o i e value:Expr}{pos aW tpos:Pos}{td ty tv:TE}
theorem cL (hu:X.A.units + 1<cLine) (ho:PE X o td) (hi:PE X i ty) (hs:NoSl i):PE X (.Subscript o i pos) (tDGet td ty):=by
 intro aa s σ H Q I h;refine Rk PySem.F.slot_dict_getitem.lookup hs (thn (ho aa s σ H _ I h) fun u s1=>L2.ex5 fun x H1 I1 rx q1=>thn (hi aa s1 σ H1 _ I1 q1) fun iv s2=>L2.ex5 fun y H2 I2 ry bi=>?_);obtain⟨a,v,ex,g,q2⟩:=bi;subst ex;obtain rfl:u=Value.ref a:=rx;exact⟨Qm I2 g,RD hu I2 g ry fun w' s3 I3 dZ=>⟨v,H2,I3,dZ,q2⟩⟩
theorem pc_din (hu:X.A.units + 1<cLine) (hi:PE X i ty) (ho:PE X o td):PC X .In i o (tDIn ty td):=by
 intro aa s σ H Q I h;refine thn (hi aa s σ H _ I h) fun iv s1=>L2.ex5 fun y H1 I1 ry q1=>thn (ho aa s1 σ H1 _ I1 q1) fun u s2=>L2.ex5 fun x H2 I2 rx bi=>?_
 obtain⟨a,ov,ex,g,q2⟩:=bi;subst ex;obtain rfl:u=Value.ref a:=rx;exact d_in hu I2 g ry fun s3 I3=>⟨.bl ov.isSome,H2,I3,rfl,q2⟩
theorem JK (hu:X.A.units + 1<cLine) (hi:PE X i ty) (ho:PE X o td):PC X .NotIn i o (PV ty td):=by
 intro aa s σ H Q I h;refine thn (hi aa s σ H _ I h) fun iv s1=>L2.ex5 fun y H1 I1 ry q1=>thn (ho aa s1 σ H1 _ I1 q1) fun u s2=>L2.ex5 fun x H2 I2 rx bi=>?_
 obtain⟨a,ov,ex,g,q2⟩:=bi;subst ex;obtain rfl:u=Value.ref a:=rx;exact Qx hu I2 g ry fun s3 I3=>⟨.bl (!ov.isSome),H2,I3,rfl,q2⟩
theorem j6 (hu:X.A.units + 1<cLine) (ho:PE X o td) (hi:PE X i ty) (hv:PE X value tv) (hs:swapsWith value (some (.Subscript o i aW)) pos.line X.env=pure false) :
  PS X (.Assign [.Subscript o i aW] value pos) (sDPut td ty tv):=by
 intro aa s σ H D I h;refine wpAny_Assign_Subscript (thn (hv aa s σ H _ I h) fun r s1=>L2.ex5 fun v H1 I1 rv q1=>thn (ho aa s1 σ H1 _ I1 q1) fun u s2=>L2.ex5 fun x H2 I2 rx q2=>thn (hi aa s2 σ H2 _ I2 q2) fun iv s3=>L2.ex5 fun y H3 I3 ry bi=>?_) hs;obtain⟨a,H4,ex,g,q3⟩:=bi;subst ex;obtain rfl:u=Value.ref a:=rx;exact To hu I3 g ry rv fun s4 I4=>⟨σ,H4,I4,q3⟩
end
theorem AT {P:Program}{w:World}{H:Hp} (h:Heap) (hb:sysModules<h.objs.size):cY P w H (h.push { cls:=.type "dict",data:=.dict #[] }) h.objs.size (.dK []):=
 ⟨VU _,beq_eq_false_iff_ne.mpr (Ne.symm (Vq hb)),[],.nil,Heap.DictOf.new h⟩
def tDNewK:TE:=fun _ H Q=>∀ p,H p=none->Q (.ref p) (upd H p (.dK []))
section
variable {X:Cx}{pos:Pos}
theorem qh:PE X (.Dict [] [] pos) tDNewK:=fun aa s σ H Q I h=>
 wpAny_Dict_empty ⟨.ref s.heap.objs.size,_,I.laid (a:=s.heap.objs.size) (o:=.dK []) (t':=s.toks) (fun _ _ q=>Ve _ q) (Vh _) (AT s.heap I.big),rfl,h _ (I.hok.fresh (Vh _))⟩
end
structure M1 (X:Cx) (o:Expr) (m:Str) (bb:Pos) (e:Expr) (az:Pos):Prop where
 base:attributeBase o m X.env (eval o X.env)=eval o X.env
 few:((backTo az (starEach [e] X.env)).all (fun x=>!x.1) && (backToKw az (keywordEach [] X.env)).all (fun x=>x.1.isSome)
  && decide (([e]:List Expr).length + ([]:List Keyword).length + (if ([]:List Keyword).isEmpty then 0 else 1)<30))=true
 line:(bb.endLine == az.line)=true
 trees:backTo az (starEach [e] X.env)=[(false,eval e X.env)]
structure M2 (X:Cx) (o:Expr) (m:Str) (bb:Pos) (e f:Expr) (az:Pos):Prop where
 base:attributeBase o m X.env (eval o X.env)=eval o X.env
 few:((backTo az (starEach [e,f] X.env)).all (fun x=>!x.1) && (backToKw az (keywordEach [] X.env)).all (fun x=>x.1.isSome)
  && decide (([e,f]:List Expr).length + ([]:List Keyword).length + (if ([]:List Keyword).isEmpty then 0 else 1)<30))=true
 line:(bb.endLine == az.line)=true
 trees:backTo az (starEach [e,f] X.env)=[(false,eval e X.env),(false,eval f X.env)]
def IsD (H:Hp) (a:Addr):Prop:=(∃ kvs,Rd H a (.dK kvs))\/∃ kvs,Rd H a (.dT kvs)
theorem Kb {X:Cx}{aa:List (Addr×Obj)}{σ:St}{H:Hp}{s:Shared}{a:Addr} (I:Inv X aa σ H s) (d:IsD H a) :
  s.TypeIs (.ref a) "dict"/\(∀ b,Value.ref a=.ref b->∃ ob,s.heap.get? b=some ob/\ob.dict=none)/\(a == sysModules)=false:=by
 rcases d with⟨kvs,e⟩|⟨kvs,e⟩
 ·obtain⟨_,hd,vs,_,dd⟩:=qg I.hok e
  refine⟨dd.typeIs,fun b q=>?_,hd⟩;cases q
  obtain⟨ob,_,_,h1,h2,_⟩:=dd;exact⟨ob,h1,h2.2.1⟩
 ·obtain⟨_,hd,xs,_,dd⟩:=pI I.hok e
  refine⟨dd.typeIs,fun b q=>?_,hd⟩;cases q
  obtain⟨ob,_,_,h1,h2,_⟩:=dd;exact⟨ob,h1,h2.2.1⟩
section
variable {X:Cx}{aa:List (Addr×Obj)}{σ:St}{H:Hp}{s:Shared}{a:Addr}{y d:V}{u r:Value}{o:Option V}{A:Around}{E:Value->Shared->Prop}
theorem d_get2 {Q:Value->Shared->Prop} (hu:A.units + 1<cLine) (I:Inv X aa σ H s) (g:fq H a y o) (ry:av y u) (rd:av d r) (h:∀ w' s',Inv X aa σ H s'->av (o.getD d) w'->Q w' s') :
  wpAny (model X.prog X.w) A (call (.builtin "dict.get") [.ref a,u,r]) Q E s:=by
 rcases g with⟨kvs,k,e,ey,l⟩|⟨kvs,k,b,e,ey,eb,l⟩
 ·subst ey
  obtain⟨z,hd,vs,rel,dd⟩:=qg I.hok e;refine call_meetsIn PySem.F.slot_dict_get dd.typeIs PySem.F.entry_dict_get (PySem.F.args_dict_get_3 _ _ _) (meets_dict_get_default (cr X.prog X.w) a (lm ry) hd r) ⟨_,dd.mapOf,h _ _ (I.tok _) ?_⟩;rw[l];exact(rel.val k).getD rd
 ·subst ey
  cases (show u=Value.ref b from ry)
  obtain⟨z,hd,xs,rel,dd⟩:=pI I.hok e;refine call_meetsIn PySem.F.slot_dict_get dd.typeIs PySem.F.entry_dict_get (PySem.F.args_dict_get_3 _ _ _) (meetsH_dict_get_default (tupleKind (cr X.prog X.w)) a b hd r) ⟨tupleKind_room_in1 hu,k,xs,qR I.hok eb,dd,h _ _ (I.tok _) ?_⟩;rw[l];exact(rel.val k).getD rd
end
def tDGet2 (td ty tx:TE):TE:=fun σ H Q=>td σ H fun x H1=>∃ a,x=.ref a/\IsD H1 a/\ty σ H1 fun y H2=>tx σ H2 fun z H3=>∃ o,fq H3 a y o/\Q (o.getD z) H3
def tDPop1 (td ty:TE):TE:=fun σ H Q=>td σ H fun x H1=>∃ a,x=.ref a/\IsD H1 a/\ty σ H1 fun y H2=>∃ kvs k v,H2 a=some (.dK kvs)/\y=kV k/\a9 kvs k=some v/\Q v (upd H2 a (.dK (dA kvs k)))
section
variable {X:Cx}{o e f:Expr}{bb az:Pos}{td ty tx:TE}
theorem QB (hu:X.A.units + 1<cLine) (ho:PE X o td) (he:PE X e ty) (hf:PE X f tx) (m:M2 X o "get" bb e f az):PE X (.Call (.Attribute o "get" bb) [e,f] [] az) (tDGet2 td ty tx):=by
 intro aa s σ H Q I h;refine Yn m.base m.few m.line PySem.F.plainAttrs_dict PySem.F.slot_dict_get PySem.F.type_dict_get (thn (ho aa s σ H _ I h) fun u s1=>L2.ex5 fun x H1 I1 rx bi=>?_);obtain⟨a,ex,d,q1⟩:=bi;subst ex;obtain rfl:u=Value.ref a:=rx;obtain⟨t1,t2,_⟩:=Kb I1 d;refine⟨t1,t2,?_⟩;rw[m.trees];refine Calls.callWith_builtin rfl (Calls.evalArgs_plain (Calls.spliced_cons (thn (he aa s1 σ H1 _ I1 q1) fun iv s2=>L2.ex5 fun y H2 I2 ry q2=>
  Calls.spliced_cons (thn (hf aa s2 σ H2 _ I2 q2) fun fv s3 ⟨z,H3,I3,rz,ov,g,q3⟩=>Calls.spliced_nil ?_))))
 exact d_get2 hu I3 g ry rz fun w' s4 I4 dZ=>⟨_,H3,I4,dZ,q3⟩
theorem Sg (ho:PE X o td) (he:PE X e ty) (m:M1 X o "pop" bb e az):PE X (.Call (.Attribute o "pop" bb) [e] [] az) (tDPop1 td ty):=by
 intro aa s σ H Q I h;refine Yn m.base m.few m.line PySem.F.plainAttrs_dict PySem.F.slot_dict_pop PySem.F.type_dict_pop (thn (ho aa s σ H _ I h) fun u s1=>L2.ex5 fun x H1 I1 rx bi=>?_);obtain⟨a,ex,d,q1⟩:=bi;subst ex;obtain rfl:u=Value.ref a:=rx;obtain⟨t1,t2,_⟩:=Kb I1 d;refine⟨t1,t2,?_⟩;rw[m.trees];refine Calls.callWith_builtin rfl (Calls.evalArgs_plain (Calls.spliced_cons (thn (he aa s1 σ H1 _ I1 q1) fun iv s2 ⟨y,H2,I2,ry,kvs,k,v,ea,ey,l,q2⟩=>Calls.spliced_nil ?_)));subst ey;exact d_pop I2 ea ry l (.inl rfl) fun w' s3 I3 dZ=>⟨v,_,I3,dZ,q2⟩
end
section
variable {X:Cx}{aa:List (Addr×Obj)}{σ:St}{H:Hp}{s:Shared}{a:Addr}{kvs:List (Key×V)}{A:Around}{E:Value->Shared->Prop}
end
section
variable {X:Cx}{aa:List (Addr×Obj)}{σ:St}{H:Hp}{s:Shared}{a:Addr}{y:V}{u:Value}{A:Around}{E:Value->Shared->Prop}
end
end L2
namespace Att
open PySem PySem.W PySem.Calls PyProof.Rows
theorem RV {P:Params}{h:Heap}:∀ (ns:List Int) (vs:List Value),WellAll P h vs (ns.map WData.int)->IntsAre vs ns:=by
 intro ns
 induction ns with
 | nil=>
  intro vs w;rw[List.map_nil] at w;cases w
  exact .nil
 | cons n ns ih=>
  intro vs w;rw[List.map_cons] at w;cases w with
  | cons a b=>
   cases a
   exact .cons _ _ (ih _ b)
theorem Qw {l:OpenLaw}{n:Nat} (hn:l.most=some n){P:Params}{h:Heap}{args:List WData}{nV:List Value}
  (kf:l.row.toRowW.claim.pre args=true) (bZ:WellAll P h nV args) :
  ∃ a vs ns,nV=[Value.ref a]/\args=[WData.list (ns.map WData.int)]/\h.get? a=some { cls:=.type "list",data:=.seq vs.toArray }/\IntsAre vs ns/\ns.length<=n:=by
 have ND:WShape.hasAll [] args [.list .int]=true:=(pre_splitW kf).1;have hc:l.pre.holds [] { args:=args }=true:=(pre_splitW kf).2;obtain⟨d,r,rfl,h1,h2⟩:=hasAllW_cons ND;obtain rfl:=hasAllW_nil h2;obtain⟨xs,rfl,h3⟩:=hasW_list h1;obtain⟨ns,rfl⟩:=items_int h3;have ai:ns.length<=n:=by
  unfold OpenLaw.pre at hc;have h4:(WTm.not (.lt (.lit (.int (n:Int))) (.len (.arg 0)))).holds [] { args:=[.list (ns.map .int)] }=true:=by
   have h4:=(holds_andW hc).1;rw[hn] at h4;exact h4
  have h5:=condW_of h4 (w_not (w_lt w_lit (w_len_list (w_arg rfl))));rw[List.length_map] at h5;refine Nat.le_of_not_lt fun q=>?_
  have q':(n:Int)<((ns.length:Nat):Int):=by omega
  first
   | (rw[decide_eq_true q'] at h5;exact absurd h5 (by decide))
   | (simp at h5;omega)
 cases bZ with
 | cons w1 w2=>
  cases w2
  cases w1 with
  | list ho BZ=>exact⟨_,_,ns,rfl,rfl,ho,RV ns _ BZ,ai⟩
theorem TW (l:OpenLaw) (args:List WData):l.row.toRowW.claim.post args (.bool true) args=true:=
 postW_of (r:=l.row.toRowW) (X:=(true == true))
  (show WShape.has [] (.bool true) .bool=true by first|rfl|decide|simp[WShape.has,WShape.arms,WShape.armsAll])
  (show(WTm.eq .res (.lit (.bool true))).value [] { args:=args,res:=some (.bool true),after:=args }=some (.bool (true == true)) from w_eq_bool (w_res rfl) w_lit) rfl
theorem zgc {l:OpenLaw}{n:Nat}{q:Program}{dF:List Str}{XP:(Str->Option Value)->Heap->Prop}{YP:World->Heap->Prop}{d:DefRec}
  (hn:l.most=some n) (mV:d.params.defaults=[])
  (call:∀ (w:World) (s₀ s₁:Shared) (mg mb:Str->Option Value) (fa:Addr) (o:Obj) (pm cd dY:Value) (a:Addr) (vs:List Value) (ns:List Int),
   Ground q dF [] XP w s₀ mg mb s₁.heap->YP w s₁.heap ->
   s₁.heap.get? fa=some o->o.data=.func (docDef d.name d.params d.body d.scope pm cd dY)->s₁.heap.CodeRec cd d.name->mg d.name=some (.ref fa) ->
   s₁.heap.get? a=some { cls:=.type "list",data:=.seq vs.toArray }->IntsAre vs ns->ns.length<=n->s₁.gens=#[] ->
   codeAny (model l.prog w) callerA (.call (.ref fa) ⟨[.ref a],[]⟩) (fun r s'=>r=.ok (.ret (.bool true))/\OldK s₁.heap s'.heap/\s'.os=s₁.os/\AllBare s'.gens) s₁) :
  WalkO q dF XP YP l.row.toRowW d [] (fun f vs=>PySem.call f vs):=by
 intro w s₀ s₁ mg mb G Y fa o pm cd dY dV kV ho hd fk hD xT hg args nV as kf Ps Va bZ Up;obtain rfl:dV=.none:=Dflts.none hD mV;obtain rfl:kV=.none:=Dflts.noKw hD;obtain⟨a,vs,ns,rfl,rfl,o6,iJ,ai⟩:=Qw hn kf bZ;refine enter_call (codeAny_mono (call w s₀ s₁ mg mb fa o pm cd dY a vs ns G Y ho (fd_plain hd) fk xT o6 iJ ai hg) fun r s' hq=>?_);obtain⟨rfl,h2,h3,h4⟩:=hq;exact⟨.inl ⟨.bool true,.bool true,[],rfl,fun _=>rfl,.bool true,TW l _,fun _=>⟨List.Pairwise.nil,fun _ hm=>(nomatch hm)⟩⟩,h2,h3,h4⟩
section
variable {prog:Program}{w:World}{A:Around}{E:Value->Shared->Prop}{s:Shared}{K:Frag}
end
end Att
namespace L2
open PySem PySem.Spec PyProof.Rows
theorem Kh:∀ {vs:List Value}{ns:List Int},IntsAre vs ns->aw (ns.map V.int) vs
 | _,_,.nil=>.nil
 | _,_,.cons n t h=>.cons ⟨t,rfl⟩ (Kh h)
end L2
namespace L2
open PySem PySem.Spec PyProof.Rows
end L2
namespace L2
open PySem PySem.Spec PyProof.Rows
def AW (s:Stmt) (j:Nat):Stmt:=match s with
 | .ClassDef _ _ _ body _ _ _ _ _ _ _=>body.getD j (.Pass ⟨0,0,0,0⟩)
 | _=>.Pass ⟨0,0,0,0⟩
def br (s:Stmt):Arguments:=match s with
 | .FunctionDef _ a _ _ _ _ _ _ _ _=>a
 | _=>{ posonlyargs:=[],args:=[],vararg:=none,kwonlyargs:=[],kw_defaults:=[],kwarg:=none,defaults:=[] }
def bg (s:Stmt):List Stmt:=match s with
 | .FunctionDef _ _ b _ _ _ _ _ _ _=>b
 | _=>[]
def aq (s:Stmt):Scope:=match s with
 | .FunctionDef _ _ _ _ _ _ sc _ _ _=>sc
 | _=>{ kind:=.function,names:=[],isGenerator:=false,isCoroutine:=false }
abbrev CX0:CXT:=fun _ _ _ _ _ _=>False
abbrev E0:XK:=fun _ _ _=>False
theorem Fw {X:Cx}:qd CX0 X E0:=fun _ _ _ _ _ _ _ h=>h.elim
structure Fun (K:PySem.W.Frag) (x qual:Str) (st:Stmt) (f:Addr) (fd:FuncData):Prop where
 ex:∃ (oc:Value) (od:Option Addr) (kV dY pm:Value) (an:Option Addr) (aJ ct:Value) (iu:Array (Option Value)),
  fd=PySem.W.fnOf x qual (br st) (bg st) (aq st) .none kV dY pm an aJ ct/\K.lookup f=some ⟨oc,od,.func fd,iu⟩/\PySem.W.codeIn K aJ qual=true
 kp:PySem.W.keepIn K (.ref f)=true
section
variable {P:Program}{w:World}{K:PySem.W.Frag}{mg:Str->Option Value}{base:Heap}
end
theorem bu {A:Around}{k:Nat} (hr:bn k A):A.units + 1<cLine:=Ww (Nat.add_le_add_left (by decide:1<=64) _) hr.units
section
variable {X:Cx}
theorem pv (i:Nat){x:Str}{pos:Pos} (hN:X.N[i]?=some x:=by rfl) (hv:Vis X.env.scope x:=by first|exact Or.inl rfl|exact Or.inr (Or.inl rfl)|exact Or.inr (Or.inr rfl)) (hd:(x == ("__debug__":Str))=false:=by decide)
  (fk:(x == ("__classdict__":Str))=false:=by decide):PE X (.Name x pos) (tVar i):=pe_var hN hv hd fk
end
theorem ka {A B:Prop} (h:B):if false=true then A else B:=by
 rw[if_neg Vu];exact h
theorem gb {A B:Prop} (h:A):if true=true then A else B:=by
 rw[if_pos rfl];exact h
def ad (H H':Hp):Prop:=∀ b o,H b=some o->H' b=some o
theorem ad.refl (H:Hp):ad H H:=fun _ _ h=>h
theorem ad.trans {H H1 H2:Hp} (a:ad H H1) (b:ad H1 H2):ad H H2:=fun c o h=>b c o (a c o h)
theorem ad.seq {K:PySem.W.Frag}{H H':Hp}{a:Addr}{xs:List V} (e:ad H H') (h:SqL K H a xs):SqL K H' a xs:=by
 rcases h with(h|⟨o,h⟩)|h
 ·exact .inl (.inl (e _ _ h))
 ·exact .inl (.inr ⟨o,e _ _ h⟩)
 ·exact .inr h
section
variable {κ:Type} [DecidableEq κ]
end
end L2
namespace L2
open PySem PySem.Spec PyProof.Rows
def dm (cells:List (Str×Addr)):List (Str×NameKind)->List (Str×Addr)->List (Str×Addr)
 | [],acc=>acc
 | (n,k)::r,acc=>dm cells r (if (k == NameKind.free)=true then(n,(cells.lookup n).getD 0)::acc else acc)
theorem FM {scope:Scope}{env:Env} (h:∀ y∈scope.names,y.2=.free->(env.cells.lookup y.1).isSome=true) :
  closureFor scope env=pure (dm env.cells scope.names []):=by
 simp only[closureFor]
 generalize scope.names=l at h ⊢;generalize ([]:List (Str×Addr))=acc
 induction l generalizing acc with
 | nil=>rfl
 | cons x r ih=>
  obtain⟨n,k⟩:=x;have hr:=fun y hy=>h y (Vt _ hy)
  by_cases hk:k=.free
  ·subst hk
   obtain⟨c,hc⟩:=Option.isSome_iff_exists.mp (h (n,.free) Vz rfl);have vM:=ih hr ((n,c)::acc);simp only[W4,cellOf,hc,dm,beq_self_eq_true,if_true,Option.getD_some] at vM ⊢
   exact vM
  ·have hb:(k == NameKind.free)=false:=by simpa using hk
   have vM:=ih hr acc;simp only[W4,dm,hb,V2,if_false] at vM ⊢
   exact vM
theorem zv {cells:List (Str×Addr)}{x:Str}{c:Addr}:∀ {l:List (Str×NameKind)}{acc:List (Str×Addr)},(∀ y∈l,y.2=.free->(cells.lookup y.1).isSome=true) ->
  (dm cells l acc).lookup x=some c->acc.lookup x=some c\/cells.lookup x=some c
 | [],_,_,h=>.inl h
 | (n,k)::r,acc,hf,h=>by
  have hr:∀ y∈r,y.2=.free->(cells.lookup y.1).isSome=true:=fun y hy=>hf y (Vt _ hy)
  by_cases hk:k=.free
  ·subst hk
   rcases zv (l:=r) hr (show(dm cells r ((n,(cells.lookup n).getD 0)::acc)).lookup x=some c from h) with q|q
   ·rw[Wp] at q
    by_cases hx:x=n
    ·subst hx
     rw[beq_self_eq_true] at q;obtain⟨c',hc⟩:=Option.isSome_iff_exists.mp (hf (x,.free) Vz rfl);have hc:cells.lookup x=some c':=hc;rw[hc] at q ⊢;exact .inr q
    ·rw[beq_eq_false_iff_ne.mpr hx] at q
     exact .inl q
   ·exact .inr q
  ·have hb:¬ (k == NameKind.free)=true:=by simpa using hk
   have h':(dm cells r (if (k == NameKind.free)=true then(n,(cells.lookup n).getD 0)::acc else acc)).lookup x=some c:=h;rw[if_neg hb] at h';exact zv hr h'
theorem zV {cells:List (Str×Addr)}{x:Str}:∀ {l:List (Str×NameKind)}{acc:List (Str×Addr)},((x,NameKind.free)∈l\/(acc.lookup x).isSome=true)->((dm cells l acc).lookup x).isSome=true
 | [],_,h=>by
  rcases h with h|h
  ·cases h
  ·exact h
 | (n,k)::r,acc,h=>by
  show((dm cells r (if (k == NameKind.free)=true then(n,(cells.lookup n).getD 0)::acc else acc)).lookup x).isSome=true;refine zV ?_;rcases h with h|h
  ·rcases VH.mp h with e|e
   ·cases e
    right
    rw[if_pos (by rfl),Wp,beq_self_eq_true];rfl
   ·exact .inl e
  ·right
   by_cases hb:(k == NameKind.free)=true
   ·rw[if_pos hb,Wp]
    cases hx:x == n with
    | true=>rfl
    | false=>exact h
   ·rw[if_neg hb]
    exact h
theorem K0 (c:Bool){n x:Str}{k:NameKind}{r:List (Str×NameKind)} (hx:(x == n)=true):((if c=true then(n,NameKind.cell) else(n,k))::r).lookup x=some (if c=true then .cell else k):=by
 cases c <;> simp[Wp,hx]
theorem Jl (c:Bool){n x:Str}{k:NameKind}{r:List (Str×NameKind)} (hx:(x == n)=false):((if c=true then(n,NameKind.cell) else(n,k))::r).lookup x=r.lookup x:=by
 cases c <;> simp[Wp,hx]
theorem Jo {env:Env}:∀ {names:List (Str×NameKind)}{x:Str},names.lookup x=some .free ->
  (names.map fun(n,k)=>if (k == NameKind.free && env.scope.kind == .function && env.kindOf n == some .cell) then(n,NameKind.cell) else(n,k)).lookup x=some .cell \/
  (names.map fun(n,k)=>if (k == NameKind.free && env.scope.kind == .function && env.kindOf n == some .cell) then(n,NameKind.cell) else(n,k)).lookup x=some .free
 | [],_,h=>by simp at h
 | (n,k)::r,x,h=>by
  have ih:=@Jo env r x;rw[Wp] at h;rw[Wg];cases hx:x == n with
  | true=>
   rw[hx] at h;cases h
   dsimp only;rw[K0 _ hx];cases (NameKind.free == NameKind.free && env.scope.kind == .function && env.kindOf n == some .cell) with
   | true=>exact .inl rfl
   | false=>exact .inr rfl
  | false=>
   rw[hx] at h;dsimp only;rw[Jl _ hx];exact ih h
theorem FQ {env:Env}:∀ {names:List (Str×NameKind)}{x:Str}{k':NameKind},(k'=.cell\/k'=.free) ->
  (names.map fun(n,k)=>if (k == NameKind.free && env.scope.kind == .function && env.kindOf n == some .cell) then(n,NameKind.cell) else(n,k)).lookup x=some k' ->
  ∃ k,(k=.free\/k=.cell)/\(x,k)∈names
 | [],_,_,_,h=>by simp at h
 | (n,k)::r,x,k',hk,h=>by
  have ih:=@FQ env r x k' hk;rw[Wg] at h;dsimp only at h;cases hx:x == n with
  | true=>
   have e:x=n:=eq_of_beq hx;subst e;rw[K0 _ hx] at h;cases hc:(k == NameKind.free && env.scope.kind == .function && env.kindOf x == some .cell) with
   | true=>
    simp only[VT,beq_iff_eq] at hc
    obtain⟨⟨rfl,_⟩,_⟩:=hc;exact⟨.free,.inl rfl,Vz⟩
   | false=>
    rw[hc] at h;have h:some k=some k':=h;cases h
    rcases hk with rfl|rfl
    ·exact⟨_,.inr rfl,Vz⟩
    ·exact⟨_,.inl rfl,Vz⟩
  | false=>
   rw[Jl _ hx] at h;obtain⟨k2,h1,h2⟩:=ih h;exact⟨k2,h1,Vt _ h2⟩
def hJ (X:Cx) (scope:Scope) (cl:List (Str×Addr)) (C:Addr) (N:List Str) (s:Shared) (H:Hp) (fp:List Addr) (aa:List (Addr×Obj)):Cx:=
 { X with N:=N,s₀:=s,H₀:=H,env:=compEnvC scope cl C X.env,outer:=X.stack,stack:=X.stack,ex:=fp,fn:=fun _=>false,pn:=X.pn++aa,xe:=fun _ _=>False }
def gG (cap:List (Option Nat)) (σ:St):St:=cap.map fun o=>o.bind fun j=>(σ[j]?).join
def isCF:Option NameKind->Bool
 | some .cell=>true
 | some .free=>true
 | _=>false
def fY (sc:Scope) (XN:List Str):List (Option Nat)->List Str->Bool
 | [],[]=>true
 | some j::r,x::xs=>(XN[j]? == some x) && (sc.names.lookup x == some NameKind.free) && fY sc XN r xs
 | none::r,_::xs=>fY sc XN r xs
 | _,_=>false
def dI (osc sc:Scope) (XN N:List Str) (cap:List (Option Nat)):Bool:=
 (sc.kind == ScopeKind.function) && sc.names.all (fun y=>y.2 != NameKind.cell) && sc.names.all (fun y=>y.2 != NameKind.local || sc.names.lookup y.1 == some NameKind.local) &&
 sc.names.all (fun y=>y.2 != NameKind.free || isCF (osc.names.lookup y.1)) && fY sc XN cap N
theorem Be {sc:Scope}{XN:List Str}:∀ {cap:List (Option Nat)}{N:List Str},fY sc XN cap N=true->cap.length=N.length
 | [],[],_=>rfl
 | some _::r,_::xs,h=>by
  simp only[fY,VT] at h
  simp[Be h.2]
 | none::r,_::xs,h=>by
  simp only[fY] at h
  simp[Be h]
 | [],_::_,h=>by simp[fY] at h
 | some _::_,[],h=>by simp[fY] at h
 | none::_,[],h=>by simp[fY] at h
theorem Bi {sc:Scope}{XN:List Str}:∀ {cap:List (Option Nat)}{N:List Str}{i j:Nat}{x:Str},fY sc XN cap N=true->cap[i]?=some (some j)->N[i]?=some x->XN[j]?=some x/\sc.names.lookup x=some .free
 | [],_,i,_,_,_,h,_=>by simp at h
 | some _::r,y::xs,0,j,x,h,h1,h2=>by
  simp only[fY,VT,beq_iff_eq] at h
  simp at h1 h2
  subst h1;subst h2
  exact⟨h.1.1,h.1.2⟩
 | some _::r,y::xs,i + 1,j,x,h,h1,h2=>by
  simp only[fY,VT] at h
  exact Bi (i:=i) h.2 (by simpa using h1) (by simpa using h2)
 | none::r,y::xs,0,j,x,h,h1,h2=>by simp at h1
 | none::r,y::xs,i + 1,j,x,h,h1,h2=>by
  simp only[fY] at h
  exact Bi (i:=i) h (by simpa using h1) (by simpa using h2)
 | some _::_,[],_,_,_,h,_,_=>by simp[fY] at h
 | none::_,[],_,_,_,h,_,_=>by simp[fY] at h
section
variable {X:Cx}{aa:List (Addr×Obj)}{σ:St}{H:Hp}{s:Shared}{scope:Scope}{N:List Str}{cap:List (Option Nat)}{fp:List Addr}
theorem Inv.clos (I:Inv X aa σ H s) (ok:dI X.env.scope scope X.N N cap=true):∀ y∈scope.names,y.2=.free->(X.env.cells.lookup y.1).isSome=true:=fun y hy hf=>by
 simp only[dI,VT,Wq] at ok
 have h:=ok.1.2 y hy;rw[hf] at h;have h':isCF (X.env.scope.names.lookup y.1)=true:=by simpa using h
 have hk:X.env.kindOf y.1=some .cell\/X.env.kindOf y.1=some .free:=by
  show X.env.scope.names.lookup y.1=_\/X.env.scope.names.lookup y.1=_;cases e:X.env.scope.names.lookup y.1 with
  | none=>rw[e] at h';cases h'
  | some k=>
   rw[e] at h';cases k <;> first|exact .inl rfl|exact .inr rfl|cases h'
 obtain⟨c,e⟩:=I.ok.has y.1 hk;rw[e];rfl
theorem Inv.comp (I:Inv X aa σ H s) (ok:dI X.env.scope scope X.N N cap=true) (f:∀ b∈fp,bC X aa H b) (fo:∀ b∈fp,∃ o,s.heap.get? b=some o){h₁:Heap}{tk:Nat}{Mm:Obj}
  (hn:h₁.Ns (s.heap.push { cls:=.type "list",data:=.seq #[] }).objs.size (fun _=>none))
  (hs:Heap.SameBut (s.heap.push { cls:=.type "list",data:=.seq #[] }).objs.size ((s.heap.push { cls:=.type "list",data:=.seq #[] }).push Mm) h₁) :
  Inv (hJ X scope (dm X.env.cells scope.names []) (s.heap.push { cls:=.type "list",data:=.seq #[] }).objs.size N { s with heap:=s.heap.push { cls:=.type "list",data:=.seq #[] } } (upd H s.heap.objs.size (.lst [])) fp aa)
   [] (gG cap σ) (upd H s.heap.objs.size (.lst [])) { s with heap:=h₁,toks:=tk }:=by
 have lQ:=ok;simp only[dI,VT,Wq,beq_iff_eq] at ok
 obtain⟨⟨⟨⟨bf,bB⟩,_⟩,_⟩,eL⟩:=ok;have cl:=I.clos lQ;have hC:(s.heap.push { cls:=.type "list",data:=.seq #[] }).objs.size=s.heap.objs.size + 1:=VI ..;generalize GB:(s.heap.push { cls:=.type "list",data:=.seq #[] }).objs.size=C at hn hs hC ⊢;have below:∀ b o,s.heap.get? b=some o->b≠C/\b≠s.heap.objs.size:=fun b o e=>by
  have:=Vk e;exact⟨by rw[hC];exact Vq (V7 this),Vq this⟩
 have old:∀ b o,s.heap.get? b=some o->h₁.get? b=some o:=fun b o e=>hs.extBut b o (below b o e).1 (Ve _ (Ve _ e))
 have GA:∀ b o,s.heap.get? b=some o->(s.heap.push { cls:=.type "list",data:=.seq #[] }).get? b=some o:=fun b o e=>Ve _ e
 have yy:∀ b o,(s.heap.push { cls:=.type "list",data:=.seq #[] }).get? b=some o->h₁.get? b=some o:=fun b o e=>by
  have:b<C:=by rw[<- GB];exact Vk e
  exact hs.extBut b o (Vq this) (Ve _ e)
 have hD:H s.heap.objs.size=none:=I.hok.fresh (Vh _);have gi:∀ b o,s.heap.get? b=some o->H b=none->upd H s.heap.objs.size (.lst []) b=none:=fun b o e n=>by rw[aj (below b o e).2];exact n
 have OU:upd H s.heap.objs.size (.lst []) C=none:=by
  rw[aj (by rw[hC];exact V9 (Wa _))];exact I.hok.fresh (by rw[hC];exact V8 _)
 have aH:∀ x c,(dm X.env.cells scope.names []).lookup x=some c->X.env.cells.lookup x=some c:=fun x c e=>by
  rcases zv cl e with q|q
  ·simp at q
  ·exact q
 have mR:∀ x c,(dm X.env.cells scope.names []).lookup x=some c->∃ v o,s.heap.IsCell c v/\s.heap.get? c=some o:=fun x c e=>by
  obtain⟨v,q⟩:=I.cell x c (aH x c e);obtain⟨o,ho,_⟩:=id q;exact⟨v,o,q,ho⟩
 have EO:HOk X.prog X.w (upd H s.heap.objs.size (.lst [])) h₁:=I.hok.laid old (Vh _) (show cY X.prog X.w _ h₁ s.heap.objs.size (.lst []) from⟨VU _,[],0,.nil,yy _ _ (Vm _ rfl)⟩);have E5:∀ b∈frs X.stack,∃ o,s.heap.get? b=some o:=fun b hb=>by
  obtain⟨_,o,ho,_⟩:=I.stack.mem hb;exact⟨o,ho⟩
 refine⟨⟨I.ok.mod,bf,I.ok.glob,I.ok.blt,W5 GB,fun y z c h1 h2=>I.ok.inj y z c (aH y c h1) (aH z c h2),fun y hy=>?_,fun y c hf _=>Bool.noConfusion hf,I.hdAt.new hD,I.ok.frames,.inl rfl,fun b hb=>?_,
   fun b o e=>⟨GA b o (I.bs b o e).1,gi b o (I.bs b o e).1 (I.bs b o e).2⟩,?_,fun b o e hb=>?_,fun b hb Nd=>?_,?_,fun b hb=>?_⟩,
  rfl,I.bare,Un.kept yy,⟨_,hn,fun i x v h1 h2 h3=>?_⟩,fun x c e=>?_,OU,fun x c e=>?_,fun p hp=>?_,EO,?_⟩
 ·-- has
  have hy:(relabel scope X.env).names.lookup y=some .cell\/(relabel scope X.env).names.lookup y=some .free:=hy;have:(y,NameKind.free)∈scope.names:=by
   rcases hy with q|q
   ·obtain⟨k,hk,hm⟩:=FQ (.inl rfl) q
    rcases hk with rfl|rfl
    ·exact hm
    ·exact absurd (show(NameKind.cell != NameKind.cell)=true from bB _ hm) (by decide)
   ·obtain⟨k,hk,hm⟩:=FQ (.inr rfl) q
    rcases hk with rfl|rfl
    ·exact hm
    ·exact absurd (show(NameKind.cell != NameKind.cell)=true from bB _ hm) (by decide)
  exact Option.isSome_iff_exists.mp (zV (.inl this))
 ·-- exf
  obtain⟨o,e⟩:=fo b hb;exact⟨(below b o e).1,fun x c q=>(f b hb).2.2.2.2.1 x c (aH x c q)⟩
 ·-- bsz
  show X.base.objs.size<=(s.heap.push { cls:=.type "list",data:=.seq #[] }).objs.size;rw[VI];exact Yo (VL I.ok.bsz I.sz)
 ·-- noex
  rcases(f b hb).2.2.2.1 with q|q
  ·exact I.ok.noex b o e q
  ·exact absurd (Vy (Vk (I.ok.bs b o e).1) q) (VE _)
 ·-- exfs
  rcases VH.mp (I.stkSub b Nd) with q|q
  ·exact(f b hb).2.1 q
  ·exact(f b hb).2.2.1 q
 ·-- funs
  exact I.stack.of_keeps fun b o e _=>⟨o,GA b o e,rfl⟩
 ·-- frf
  obtain⟨o,e⟩:=E5 b hb;exact gi b o e (I.stkFree b hb)
 ·-- loc
  have hi:∃ j,cap[i]?=some (some j)/\σ[j]?=some (some v):=by
   unfold gG at h2;rw[Vp] at h2;cases e:cap[i]? with
   | none=>rw[e] at h2;cases h2
   | some o=>
    rw[e] at h2;cases o with
    | none=>cases h2
    | some j=>
     refine⟨j,rfl,?_⟩;have fj:(σ[j]?).join=some v:=Option.some.inj h2;cases e2:σ[j]? with
     | none=>rw[e2] at fj;cases fj
     | some o2=>rw[e2] at fj;rw[show o2=some v from fj]
  obtain⟨j,hj,hv⟩:=hi;obtain⟨hX,nY⟩:=Bi eL hj h1;have jy:(x,NameKind.free)∈scope.names:=PySem.mem_of_lookup nY;have vo:=lQ;simp only[dI,VT,Wq] at vo
  have h':isCF (X.env.scope.names.lookup x)=true:=by simpa using vo.1.2 _ jy
  have hk:X.env.scope.names.lookup x=some .cell\/X.env.scope.names.lookup x=some .free:=by
   cases e:X.env.scope.names.lookup x with
   | none=>rw[e] at h';cases h'
   | some k=>
    rw[e] at h';cases k <;> first|exact .inl rfl|exact .inr rfl|cases h'
  obtain⟨m,_,hl⟩:=I.loc;obtain⟨u,ru,lk⟩:=hl j x v hX hv (hk.elim (fun q=>.inr (.inl q)) fun q=>.inr (.inr q));refine⟨u,ru,.inr ⟨Jo nY,?_⟩⟩;rcases lk with⟨q,_⟩|⟨_,c,hc,pc⟩
  ·have q':X.env.scope.names.lookup x=some .local:=q
   rcases hk with z|z
   ·rw[z] at q';cases q'
   ·rw[z] at q';cases q'
  ·obtain⟨c',kB⟩:=Option.isSome_iff_exists.mp (zV (cells:=X.env.cells) (acc:=[]) (.inl jy))
   have:c'=c:=by
    have:=aH x c' kB;rw[hc] at this;exact(Option.some.inj this).symm
   subst this;obtain⟨o,ho,hd⟩:=pc;exact⟨c',kB,o,old c' o ho,hd⟩
 ·-- cell
  obtain⟨v,o,⟨o',ho,hd⟩,_⟩:=mR x c e;exact⟨v,o',old c o' ho,hd⟩
 ·-- freeC
  obtain⟨v,o,_,ho⟩:=mR x c e;exact gi c o ho (I.freeC x c (aH x c e))
 ·-- aa
  have ON:p∈X.pn++aa:=by simpa [hJ] using hp
  obtain⟨e,n,ne,nf,d⟩:=I.pin p ON;refine⟨old _ _ e,gi _ _ e n,(below _ _ e).1,fun z=>?_,d⟩;rcases VH.mp (I.stkSub p.1 z) with q|q
  ·exact ne q
  ·exact nf q
 ·-- len
  show(gG cap σ).length=N.length;unfold gG;rw[Vd];exact Be eL
end
section
variable {prog:Program}{w:World}{A:Around}{R:Result->Shared->Prop}{s:Shared}
theorem Qk {fN bV iter:Expr}{fV:List Expr}{scope:Scope}{pos:Pos}{it acc:Value}{env:Env} (J:Nat->Shared->Prop)
  (aY:∀ n s,J n s->wpAny (model prog w) A (pyNext it) (fun r s₁=>match r with
   | none=>R (.ok .next) s₁
   | some v=>wpAny (model prog w) A (letOwnedTupleGo bV it v) (fun _ s₂=>wpAny (model prog w) A (assign bV env v) (fun _ s₃=>
     wpAny (model prog w) A (forIn fV true fun c r=>if r=true then do let ok <- isTrue c env (eval c env);pure (ForInStep.yield ok) else pure (ForInStep.yield r)) (fun ok s₄=>
      if ok=true then wpAny (model prog w) A (eval fN env) (fun x s₅=>
       wpAny (model prog w) A (call (.builtin "list.append") [acc,x]) (fun _ s₆=>∃ m,m<n/\J m s₆) (fun _ _=>False) s₅) (fun _ _=>False) s₄
      else ∃ m,m<n/\J m s₄) (fun _ _=>False) s₃) (fun _ _=>False) s₂) (fun _ _=>False) s₁) (fun _ _=>False) s)
  (n:Nat) (h:J n s):codeAny (model prog w) A (.compLoop (.ListComp fN [⟨bV,iter,fV,0⟩] scope pos) 0 it acc env) R s:=by
 have no:∀ {E:Value->Shared->Prop} (e:Value) (s':Shared),(fun(_:Value) (_:Shared)=>False) e s'->E e s':=fun _ _ z=>z.elim
 refine codeAny_loop rfl J (fun n s hI=>?_) n h;show wpAny _ A ((compTurn (.ListComp fN [⟨bV,iter,fV,0⟩] scope pos) 0 it acc env).onRaise (fun x=>do noteFrame x env;theTreesLotGoes x)) _ _ s;refine wpAny_noted ?_;rw[compTurn_list];refine oW (W2 (oW (V0 (aY n s hI) (fun r s₁ h₁=>?_) no)));cases r with
 | none=>exact Vi h₁
 | some v=>
  refine oW (V0 h₁ (fun _ s₂ h₂=>oW (V0 h₂ (fun _ s₃ h₃=>oW (V0 h₃ (fun ok s₄ h₄=>?_) no)) no)) no);cases ok with
  | false=>exact Vi ⟨rfl,h₄⟩
  | true=>
   exact oW (oW (V0 h₄ (fun x s₅ h₅=>oW (V0 h₅ (fun _ s₆ h₆=>Vi (Vi ⟨rfl,h₆⟩)) no)) no))
end
def PIf (X:Cx) (cs:List Expr) (t:TT):Prop:=
 ∀ (aa:List (Addr×Obj)) (s:Shared) (σ:St) (H:Hp) (Q:Bool->Hp->Prop),Inv X aa σ H s->t σ H Q ->
  wpAny (model X.prog X.w) X.A (forIn cs true fun c r=>if r=true then do let ok <- isTrue c X.env (eval c X.env);pure (ForInStep.yield ok) else pure (ForInStep.yield r)) (TP X aa σ Q) X.xe s
def c5:TT:=fun _ H Q=>Q true H
theorem cZ {X:Cx}:PIf X [] c5:=fun _ _ _ H _ I h=>wpAny_tests_nil ⟨H,I,h⟩
theorem K9 {X:Cx}{c:Expr}{t:TT} (h:PT X c t):PIf X [c] t:=fun aa s σ H Q I hq=>wpAny_tests_one (h aa s σ H Q I hq)
def pX (J:It) (D:Addr) (τ:St) (H:Hp) (g:TG) (tt:TT) (te:TE) (Q:VK):Prop:=
 ∃ W:Nat->Nat->St->Hp->Prop,(∃ m,W 0 m τ H)/\∀ i m τ H,W i m τ H ->
  (J.stop i H/\Q (.ref D) H)\/(J.go i H/\∃ M:St->Hp->Prop,(∀ τ' H',M τ' H'->∃ m',m'<m/\W (i + 1) m' τ' H')/\∀ x H',J.yld i H x H'->g x τ H' fun τ2 H2=>tt τ2 H2 fun b H3=>
   if b=true then te τ2 H3 fun y H4=>∃ ys,H4 D=some (.lst ys)/\ys.length<sizeLine/\M τ2 (upd H4 D (.lst (ys++[y]))) else M τ2 H3)
def tComp (wi:TI) (cap:List (Option Nat)) (g:TG) (tt:TT) (te:TE):TE:=fun σ H Q=>wi σ H fun J H1=>∀ D,H1 D=none->pX J D (gG cap σ) (upd H1 D (.lst [])) g tt te Q
section
variable {X:Cx}{fN tg iter:Expr}{fV:List Expr}{scope:Scope}{pos:Pos}{N:List Str}{cap:List (Option Nat)}{wi:TI}{g:TG}{tt:TT}{te:TE}
theorem J3 {aa:List (Addr×Obj)}{σ:St}{H:Hp}{s:Shared}{J:It}{fp:List Addr}{it:Addr}{tn:Nat->Heap->Prop}{Q:VK}{E:Value->Shared->Prop}{RR:Value->Addr->Result->Shared->Prop}
  (hc:X.calm=true) (ok:dI X.env.scope scope X.N N cap=true)
  (hg:∀ cl C s H fp aa,PG (hJ X scope cl C N s H fp aa) tg g) (hf:∀ cl C s H fp aa,PIf (hJ X scope cl C N s H fp aa) fV tt) (he:∀ cl C s H fp aa,PE (hJ X scope cl C N s H fp aa) fN te)
  (I:Inv X aa σ H s) (T:m5 X.prog X.w X.K tg J fp it tn) (st:tn 0 s.heap) (f:∀ b∈fp,bC X aa H b)
  (q:∀ D,H D=none->pX J D (gG cap σ) (upd H D (.lst [])) g tt te Q)
  (aO:∀ D C H' s' m,Inv X aa σ H' s'->bC X aa H' C->s'.heap.Ns C m->Q (.ref D) H'->RR (.ref D) C (.ok .next) s') :
  wpAny (model X.prog X.w) X.A (newList []) (fun acc s₃=>wpAny (model X.prog X.w) X.A (newFunctionEnv scope X.env.globals (dm X.env.cells scope.names []) [] X.env.qual none .none (some X.env)) (fun uq s₄=>
   codeAny (model X.prog X.w) X.A (.compStart (.ListComp fN [⟨tg,iter,fV,0⟩] scope pos) 0 (.ref it) acc { uq with scope:=relabel scope X.env }) (RR acc uq.locals) s₄) E s₃) E s:=by
 have lI:=ok;simp only[dI,VT,Wq,beq_iff_eq] at lI
 obtain⟨⟨⟨⟨bf,bB⟩,_⟩,_⟩,eL⟩:=lI;refine WP (X8 (fun y hy=>by simpa using bB y hy) (by intro y hy;simp at hy) (fun h₁ wG oV=>?_) bf);dsimp only at wG oV ⊢;have fo:∀ b∈fp,∃ o,s.heap.get? b=some o:=fun b hb=>let ⟨o,e,_⟩:=T.obj _ _ st b hb;⟨o,e⟩
 have J0:=I.comp (h₁:=h₁) (tk:=s.toks + ([]:List (Str×Value)).length) ok f fo wG oV;have iK:H s.heap.objs.size=none:=I.hok.fresh (Vh _);obtain⟨W,⟨m0,w0⟩,aY⟩:=q _ iK;generalize hY:hJ X scope (dm X.env.cells scope.names []) (s.heap.push { cls:=.type "list",data:=.seq #[] }).objs.size N { s with heap:=s.heap.push { cls:=.type "list",data:=.seq #[] } } (upd H s.heap.objs.size (.lst [])) fp aa=Y at J0;have below:∀ b∈fp,b<s.heap.objs.size:=fun b hb=>let ⟨o,e⟩:=fo b hb;Vk e
 have cl:=I.clos ok;have fK:∀ {H':Hp},(∀ b∈fp,H' b=none)->∀ b∈fp,bC Y [] H' b:=fun {H'} hn b hb=>by
  subst hY;refine⟨hn b hb,?_,fun z=>?_,.inl hb,fun x c e=>?_,fun p hp=>?_⟩
  ·show b≠(s.heap.push { cls:=.type "list",data:=.seq #[] }).objs.size
   rw[VI];exact Vq (V7 (below b hb))
  ·rcases VH.mp (I.stkSub b z) with q|q
   ·exact(f b hb).2.1 q
   ·exact(f b hb).2.2.1 q
  ·refine(f b hb).2.2.2.2.1 x c ?_
   rcases zv cl e with z|z
   ·simp at z
   ·exact z
  ·exact(f b hb).2.2.2.2.2 p (by simpa [hJ] using hp)
 have O7:PG Y tg g:=hY ▸ hg _ _ _ _ _ _;have NJ:PIf Y fV tt:=hY ▸ hf _ _ _ _ _ _;have M3:PE Y fN te:=hY ▸ he _ _ _ _ _ _;have e1:Y.prog=X.prog:=by subst hY;rfl
 have e2:Y.w=X.w:=by subst hY;rfl
 have e3:Y.K=X.K:=by subst hY;rfl
 have e4:Y.calm=true:=by subst hY;exact hc
 have e5:Y.A=X.A:=by subst hY;rfl
 have e6:Y.env=compEnvC scope (dm X.env.cells scope.names []) (s.heap.push { cls:=.type "list",data:=.seq #[] }).objs.size X.env:=by subst hY;rfl
 have e7:Y.xe=fun _ _=>False:=by subst hY;rfl
 have D5:∀ b∈fp,upd H s.heap.objs.size (.lst []) b=none:=fun b hb=>by rw[aj (Vq (below b hb))];exact(f b hb).1
 have st0:tn 0 h₁:=T.keep _ _ _ st fun b hb o e=>oV.extBut b o (by
  have:=below b hb;rw[VI];exact Vq (V7 this)) (Ve _ (Ve _ e))
 have loop:∀ s₃:Shared,s₃={ s with heap:=h₁,toks:=s.toks + ([]:List (Str×Value)).length } ->
   codeAny (model X.prog X.w) X.A (.compLoop (.ListComp fN [⟨tg,iter,fV,0⟩] scope pos) 0 (.ref it) (.ref s.heap.objs.size)
    (compEnvC scope (dm X.env.cells scope.names []) (s.heap.push { cls:=.type "list",data:=.seq #[] }).objs.size X.env)) (RR (.ref s.heap.objs.size) (s.heap.push { cls:=.type "list",data:=.seq #[] }).objs.size) s₃:=by
  rintro s₃ rfl
  refine Qk (fun n s'=>∃ i τ H',Inv Y [] τ H' s'/\tn i s'.heap/\(∀ b∈fp,H' b=none)/\W i n τ H') ?_ m0 ⟨0,_,_,J0,st0,D5,w0⟩;rintro n s' ⟨i,τ,H',I',jP,Iw,w'⟩
  rcases aY i n τ H' w' with⟨stop,qn⟩|⟨go,M,hM,step⟩
  ·have z:=T.done Y e1 e2 e3 e4 i [] s' τ H' (fun _ _=>False) I' (fK Iw) jP stop
   rw[e5] at z;refine thn z fun r s4 ⟨hr,I4⟩=>?_
   subst hr;subst hY;obtain⟨m,mz,_⟩:=I4.loc;have ho:s4.os=s.os:=I4.os;have un:Un (frs X.stack) fp H H' s.heap s4.heap:=by
    have u1:Un (frs X.stack) fp H (upd H s.heap.objs.size (.lst [])) s.heap (s.heap.push { cls:=.type "list",data:=.seq #[] }):=Un.laid (fun b u e=>Ve _ e) (Vh _) iK;exact u1.trans I4.base
   have IX:Inv X aa σ H' s4:=I.call' ho un I4.hok I4.bare fun b hb=>⟨(f b hb).2.2.2.1,(f b hb).2.1,(f b hb).2.2.2.2.1,(f b hb).2.2.2.2.2⟩
   exact aO _ _ H' s4 m IX (I.fpOk (by rw[VI];exact V8 _) I4.free) mz qn
  ·have z:=T.item Y e1 e2 e3 e4 i [] s' τ H' (fun _ _=>False) I' (fK Iw) jP go
   rw[e5] at z;refine thn z fun r s4 ⟨u,hr,h4⟩=>?_
   subst hr;refine thn h4 fun _ s5=>L2.ex5 fun x H5 I5 r5 bi=>?_
   obtain⟨y5,eh,B3⟩:=bi;have Du:=I5.pinned (fK B3) (T.obj _ _ eh);have zg:=O7 _ s5 τ H5 x u _ Du r5 (step x H5 y5);rw[e1,e2,e5,e6,e7] at zg;refine thn zg fun _ s6 ⟨τ6,H6,I6,q6⟩=>?_
   have zf:=NJ _ s6 τ6 H6 _ I6 q6;rw[e1,e2,e5,e6,e7] at zf;refine thn zf fun b s7=>L2.ex3 fun H7 I7 q7=>?_
   have again:∀ {H8:Hp}{s8:Shared},Inv Y ([]++zK fp s5.heap) τ6 H8 s8->M τ6 H8->∃ m,m<n/\∃ i τ H',Inv Y [] τ H' s8/\tn i s8.heap/\(∀ b∈fp,H' b=none)/\W i m τ H':=fun {H8 s8} I8 w8=>by
    obtain⟨m',hm,w8⟩:=hM _ _ w8;refine⟨m',hm,i + 1,τ6,H8,I8.unpinned,T.keep _ _ _ eh fun b hb o e=>(I8.pin (b,o) (Vr _ (Vr _ (Bk hb e)))).1,fun b hb=>?_,w8⟩;obtain⟨o,e,d⟩:=T.obj _ _ eh b hb;exact(I8.pin (b,o) (Vr _ (Vr _ (Bk hb e)))).2.1
   cases b with
   | false=>exact again I7 q7
   | true=>
    have ze:=M3 _ s7 τ6 H7 _ I7 q7;rw[e1,e2,e5,e6,e7] at ze;refine thn ze fun v s8=>L2.ex5 fun y H8 I8 r8 bi=>?_
    obtain⟨ys,hD,hz,q8⟩:=bi;have za:=nv (X:=Y) _ s8 τ6 H8 (.ref s.heap.objs.size) [y] (.ref s.heap.objs.size) [v] (fun _ H9=>H9=upd H8 s.heap.objs.size (.lst (ys++[y]))) I8 rfl (.cons r8 .nil) ⟨_,ys,y,rfl,rfl,hD,hz,rfl⟩;rw[e1,e2,e5,e7] at za;refine thn za fun _ s9 ⟨_,H9,I9,_,e9⟩=>?_
    subst e9;exact again I9 q8
 exact codeAny_compStart_list (loop _ rfl) (T.self X.A 0 _ _ _ st0 (loop _ rfl))
theorem cF {osc:Scope}{XN:List Str} (h1:X.env.scope=osc) (h2:X.N=XN) (ok:dI osc scope XN N cap=true):dI X.env.scope scope X.N N cap=true:=by
 rw[h1,h2];exact ok
theorem d7 (hc:X.calm=true) (ok:dI X.env.scope scope X.N N cap=true) (hi:PI X tg iter wi)
  (hg:∀ cl C s H fp aa,PG (hJ X scope cl C N s H fp aa) tg g) (hf:∀ cl C s H fp aa,PIf (hJ X scope cl C N s H fp aa) fV tt) (he:∀ cl C s H fp aa,PE (hJ X scope cl C N s H fp aa) fN te)
  (hs:∀ x,foldedSetIterable iter X.env x=pure x:=by intro _;rfl):PE X (.ListComp fN [⟨tg,iter,fV,0⟩] scope pos) (tComp wi cap g tt te):=by
 intro aa s σ H Q I h;have lI:=ok;simp only[dI,VT,Wq,beq_iff_eq] at lI
 obtain⟨⟨⟨⟨bf,_⟩,fO⟩,_⟩,_⟩:=lI;rw[eval_ListComp];refine XL (use:=none) rfl hs (FM (I.clos ok)) bf (fun y hy hl=>by simpa [hl] using fO y hy) (thn (hi aa s σ H _ I h) fun xv s1 h1=>thn h1 fun Av s2 h2=>?_);obtain⟨it,fp,tn,J,H2,e,I2,T,h8,f2,q⟩:=h2;subst e;refine J3 (RR:=fun acc C=>compPost (model X.prog X.w) X.A X.xe none (EP X aa σ Q) acc C) hc ok hg hf he I2 T h8 f2 q ?_;intro D C H' s' m I' fC hn qn;obtain⟨f0,f1,On,f3,f4,f5⟩:=fC;exact⟨m,hn,fun h' sb=>⟨.ref D,H',I'.turned (t':=s'.toks) (fun b o hb e=>sb.extBut b o hb e) f0 f1 f3 f4 f5,rfl,qn⟩⟩
theorem rE {i:Nat}{x:Str}{aW yF:Pos} (hN:X.N.Nodup) (Oq:X.N[i]?=some x) (hx:X.env.scope.names.lookup x=some .local) (hc:X.calm=true) (ok:dI X.env.scope scope X.N N cap=true) (hi:PI X tg iter wi)
  (hg:∀ cl C s H fp aa,PG (hJ X scope cl C N s H fp aa) tg g) (hf:∀ cl C s H fp aa,PIf (hJ X scope cl C N s H fp aa) fV tt) (he:∀ cl C s H fp aa,PE (hJ X scope cl C N s H fp aa) fN te)
  (hsw:swapsWith (.ListComp fN [⟨tg,iter,fV,0⟩] scope pos) (some (.Name x aW)) yF.line X.env=pure true)
  (hs:∀ x,foldedSetIterable iter X.env x=pure x:=by intro _;rfl) :
  PS X (.Assign [.Name x aW] (.ListComp fN [⟨tg,iter,fV,0⟩] scope pos) yF) (tAsg (tComp wi cap g tt te) (bJ i)):=by
 intro aa s σ H D I h;have lI:=ok;simp only[dI,VT,Wq,beq_iff_eq] at lI
 obtain⟨⟨⟨⟨bf,_⟩,fO⟩,_⟩,_⟩:=lI;rw[exec_Assign_Name_used _ _ _ _ hsw];refine oW (W2 (oW ?_));show wpAny _ X.A (do let _ <- comprehension (.ListComp fN [⟨tg,iter,fV,0⟩] scope pos) scope X.env _ (newList []) false (eval iter X.env) (some (assign (.Name x aW) X.env))) _ _ s;refine oW (V0 (XL (use:=some (assign (.Name x aW) X.env)) (Q:=fun _ s'=>SP X aa D .next s') rfl hs (FM (I.clos ok)) bf (fun y hy hl=>by simpa [hl] using fO y hy)
  (thn (hi aa s σ H _ I h) fun xv s1 h1=>thn h1 fun Av s2 h2=>?_)) (fun _ s' hq=>Vi (Vi hq)) fun _ _ e=>e)
 obtain⟨it,fp,tn,J,H2,e,I2,T,h8,f2,q⟩:=h2;subst e;refine J3 (RR:=fun acc C=>compPost (model X.prog X.w) X.A X.xe (some (assign (.Name x aW) X.env)) (fun _ s'=>SP X aa D .next s') acc C) hc ok hg hf he I2 T h8 f2 q ?_;intro Dd C H' s' m I' fC hn qn;obtain⟨f0,f1,On,f3,f4,f5⟩:=fC;show wpAny _ X.A (assign (.Name x aW) X.env (.ref Dd)) _ _ _;refine Yl (Kj I' hN Oq (.inl hx) (v:=.ref Dd) rfl (fun s3 I3 ⟨a,sb,ha⟩=>?_) (.inr hx));have Nr:C≠a:=by
  rcases ha with z|z
  ·rw[z];exact f1
  ·exact fun w=>f4 x a z w.symm
 refine⟨m,hn.sameBut sb Nr,fun h' NB=>?_⟩;exact⟨_,H',I3.turned (t':=s3.toks) (fun b o hb e=>NB.extBut b o hb e) f0 f1 f3 f4 f5,qn⟩
theorem eP {K:PySem.W.Frag}{a D:Addr}{xs:List V}{τ:St}{H:Hp}{Q:VK} (Pv:Nat->St->Hp->Prop) (h0:Pv 0 τ H) (hl:∀ i τ H,i<=xs.length->Pv i τ H->SqL K H a xs)
  (hs:∀ i x τ H,xs[i]?=some x->Pv i τ H->g x τ H fun τ2 H2=>tt τ2 H2 fun b H3=>
   if b=true then te τ2 H3 fun y H4=>∃ ys,H4 D=some (.lst ys)/\ys.length<sizeLine/\Pv (i + 1) τ2 (upd H4 D (.lst (ys++[y]))) else Pv (i + 1) τ2 H3)
  (hd:∀ τ H,Pv xs.length τ H->Q (.ref D) H):pX (Itl K a) D τ H g tt te Q:=by
 refine⟨fun i m τ H=>m=xs.length - i/\i<=xs.length/\Pv i τ H,⟨xs.length,by simp,VU _,h0⟩,?_⟩;rintro i m τ H ⟨rfl,hi,p⟩
 have q:=hl i τ H hi p;by_cases aE:i<xs.length
 ·refine .inr ⟨⟨xs,xs[i],q,by simp[aE]⟩,Pv (i + 1),fun τ' H' p'=>⟨xs.length - (i + 1),by omega,rfl,aE,p'⟩,fun x H' y=>?_⟩
  obtain⟨e,y⟩:=y;subst e;exact hs i x τ _ (y xs q) p
 ·have e:i=xs.length:=by omega
  subst e;exact .inl ⟨⟨xs,q,Vh _⟩,hd τ H p⟩
theorem Ge {lo:Int}{n:Nat}{D:Addr}{τ:St}{H:Hp}{Q:VK} (Pv:Nat->St->Hp->Prop) (h0:Pv 0 τ H)
  (hs:∀ i τ H,i<n->Pv i τ H->g (.int (lo + i)) τ H fun τ2 H2=>tt τ2 H2 fun b H3=>
   if b=true then te τ2 H3 fun y H4=>∃ ys,H4 D=some (.lst ys)/\ys.length<sizeLine/\Pv (i + 1) τ2 (upd H4 D (.lst (ys++[y]))) else Pv (i + 1) τ2 H3)
  (hd:∀ τ H,Pv n τ H->Q (.ref D) H):pX (Itr lo n) D τ H g tt te Q:=by
 refine⟨fun i m τ H=>m=n - i/\i<=n/\Pv i τ H,⟨n,by simp,VU _,h0⟩,?_⟩;rintro i m τ H ⟨rfl,hi,p⟩
 by_cases aE:i<n
 ·refine .inr ⟨aE,Pv (i + 1),fun τ' H' p'=>⟨n - (i + 1),by omega,rfl,aE,p'⟩,fun x H' y=>?_⟩
  obtain⟨e,y⟩:=y;subst e y;exact hs i τ _ aE p
 ·have e:i=n:=by omega
  subst e;exact .inl ⟨Vh _,hd τ H p⟩
end
end L2
namespace L2
open PySem PySem.Spec PyProof.Rows PySem.SeqAt
inductive Dt where
 | non | bl (b:Bool) | int (i:Int) | str (x:Str) | lst (xs:List Dt) | tup (xs:List Dt)
mutual
def DtV (K:PySem.W.Frag) (H:Hp):Dt->V->Prop
 | .non,x=>x=.non
 | .bl b,x=>x=.bl b
 | .int i,x=>x=.int i
 | .str z,x=>x=.str z
 | .lst ds,x=>∃ a xs,x=.ref a/\SqL K H a xs/\aN K H ds xs
 | .tup ds,x=>∃ a xs,x=.ref a/\SqT K H a xs/\aN K H ds xs
def aN (K:PySem.W.Frag) (H:Hp):List Dt->List V->Prop
 | [],xs=>xs=[]
 | d::ds,xs=>∃ y ys,xs=y::ys/\DtV K H d y/\aN K H ds ys
end
mutual
def nu:Nat->Dt->Prop
 | n + 1,.lst ds=>eV n ds
 | n + 1,.tup ds=>eV n ds
 | 0,.lst _=>False
 | 0,.tup _=>False
 | _,.non=>True
 | _,.bl _=>True
 | _,.int _=>True
 | _,.str _=>True
def eV:Nat->List Dt->Prop
 | _,[]=>True
 | n,d::ds=>nu n d/\eV n ds
end
mutual
def eqD:Dt->Dt->Bool
 | .non,.non=>true
 | .bl a,.bl b=>a == b
 | .bl a,.int b=>(if a then 1 else 0) == b
 | .int a,.bl b=>a == (if b then 1 else 0)
 | .int a,.int b=>a == b
 | .str a,.str b=>a == b
 | .lst xs,.lst ys=>dv xs ys
 | .tup xs,.tup ys=>dv xs ys
 | _,_=>false
def dv:List Dt->List Dt->Bool
 | [],[]=>true
 | x::xs,y::ys=>eqD x y && dv xs ys
 | _,_=>false
end
mutual
theorem PZ:∀ d:Dt,eqD d d=true
 | .non=>rfl
 | .bl b=>by simp[eqD]
 | .int i=>by simp[eqD]
 | .str x=>by simp[eqD]
 | .lst xs=>by
  rw[eqD];exact zH xs
 | .tup xs=>by
  rw[eqD];exact zH xs
theorem zH:∀ ds:List Dt,dv ds ds=true
 | []=>rfl
 | d::ds=>by rw[dv,PZ d,zH ds];rfl
end
theorem aN.length {K:PySem.W.Frag}{H:Hp}:∀ {ds:List Dt}{xs:List V},aN K H ds xs->ds.length=xs.length
 | [],xs,h=>by
  have e:xs=[]:=h;subst e;rfl
 | d::ds,xs,h=>by
  obtain⟨y,ys,e,_,h2⟩:=h;subst e;simp[aN.length h2]
theorem aN.get {K:PySem.W.Frag}{H:Hp}:∀ {ds:List Dt}{xs:List V}{j:Nat}{d:Dt},aN K H ds xs->ds[j]?=some d->∃ x,xs[j]?=some x/\DtV K H d x
 | [],_,_,_,_,e=>by simp at e
 | d::ds,xs,j,d',h,e=>by
  obtain⟨y,ys,e2,h1,h2⟩:=h;subst e2;cases j with
  | zero=>
   simp at e
   subst e;exact⟨y,rfl,h1⟩
  | succ j=>
   obtain⟨x,hx,hd⟩:=aN.get (j:=j) h2 (by simpa using e);exact⟨x,by simpa using hx,hd⟩
theorem aN.snoc {K:PySem.W.Frag}{H:Hp}{d:Dt}{x:V} (hd:DtV K H d x):∀ {ds:List Dt}{xs:List V},aN K H ds xs->aN K H (ds++[d]) (xs++[x])
 | [],xs,h=>by
  have e:xs=[]:=h;subst e;exact⟨x,[],rfl,hd,rfl⟩
 | e::ds,xs,h=>by
  obtain⟨y,ys,e2,h1,h2⟩:=h;subst e2;exact⟨y,ys++[x],rfl,h1,h2.snoc hd⟩
theorem aN.append {K:PySem.W.Frag}{H:Hp}{es:List Dt}{zs:List V} (hd:aN K H es zs):∀ {ds:List Dt}{xs:List V},aN K H ds xs->aN K H (ds++es) (xs++zs)
 | [],xs,h=>by
  have e:xs=[]:=h;subst e;exact hd
 | e::ds,xs,h=>by
  obtain⟨y,ys,e2,h1,h2⟩:=h;subst e2;exact⟨y,ys++zs,rfl,h1,aN.append hd h2⟩
theorem eV.get {n:Nat}:∀ {ds:List Dt}{j:Nat}{d:Dt},eV n ds->ds[j]?=some d->nu n d
 | [],_,_,_,e=>by simp at e
 | d::ds,j,d',h,e=>by
  cases j with
  | zero=>
   simp at e
   subst e;exact h.1
  | succ j=>exact eV.get (j:=j) h.2 (by simpa using e)
theorem eV.of {n:Nat}:∀ {ds:List Dt},(∀ d∈ds,nu n d)->eV n ds
 | [],_=>trivial
 | d::ds,h=>⟨h d Vz,eV.of fun e he=>h e (Vt _ he)⟩
theorem ad.sqL {K:PySem.W.Frag}{H H':Hp}{a:Addr}{xs:List V} (e:ad H H') (h:SqL K H a xs):SqL K H' a xs:=e.seq h
theorem ad.sqT {K:PySem.W.Frag}{H H':Hp}{a:Addr}{xs:List V} (e:ad H H') (h:SqT K H a xs):SqT K H' a xs:=by
 rcases h with(h|⟨o,h⟩)|h
 ·exact .inl (.inl (e _ _ h))
 ·exact .inl (.inr ⟨o,e _ _ h⟩)
 ·exact .inr h
mutual
theorem ad.dt {K:PySem.W.Frag}{H H':Hp} (e:ad H H'):∀ {d:Dt}{x:V},DtV K H d x->DtV K H' d x
 | .non,_,h=>h
 | .bl _,_,h=>h
 | .int _,_,h=>h
 | .str _,_,h=>h
 | .lst ds,_,h=>by
  obtain⟨a,xs,e1,h1,h2⟩:=h;exact⟨a,xs,e1,e.sqL h1,e.dts h2⟩
 | .tup ds,_,h=>by
  obtain⟨a,xs,e1,h1,h2⟩:=h;exact⟨a,xs,e1,e.sqT h1,e.dts h2⟩
theorem ad.dts {K:PySem.W.Frag}{H H':Hp} (e:ad H H'):∀ {ds:List Dt}{xs:List V},aN K H ds xs->aN K H' ds xs
 | [],_,h=>h
 | d::ds,_,h=>by
  obtain⟨y,ys,e1,h1,h2⟩:=h;exact⟨y,ys,e1,e.dt h1,e.dts h2⟩
end
theorem ad.new {H:Hp}{p:Addr}{o:HO} (h:H p=none):ad H (upd H p o):=fun b u e=>by
 rw[aj (ap e h)];exact e
section
variable {X:Cx}{aa:List (Addr×Obj)}{σ:St}{H:Hp}{s:Shared}
theorem Inv.notBoth (I:Inv X aa σ H s){a:Addr}{xs ys:List V} (h:SqL X.K H a xs) (h':SqT X.K H a ys):False:=by
 obtain⟨its,_,pl,_⟩:=I.list h;obtain⟨its',_,pt,_⟩:=I.tuple h';obtain⟨o,n,e,c,_⟩:=pl;obtain⟨o',e',c',_⟩:=pt;rw[e] at e';cases e'
 rw[c] at c';exact absurd c' (by simp)
mutual
theorem Inv.dtUniq (I:Inv X aa σ H s):∀ {d e:Dt}{x:V},DtV X.K H d x->DtV X.K H e x->d=e
 | .non,e,_,h,h'=>by
  have h:_=V.non:=h;subst h;cases e with
  | non=>rfl
  | bl _=>exact nomatch (show V.non=_ from h')
  | int _=>exact nomatch (show V.non=_ from h')
  | str _=>exact nomatch (show V.non=_ from h')
  | lst _=>obtain⟨_,_,q,_⟩:=h';cases q
  | tup _=>obtain⟨_,_,q,_⟩:=h';cases q
 | .bl b,e,_,h,h'=>by
  have h:_=V.bl b:=h;subst h;cases e with
  | non=>exact nomatch (show V.bl b=_ from h')
  | bl c=>
   have q:V.bl b=V.bl c:=h';cases q
   rfl
  | int _=>exact nomatch (show V.bl b=_ from h')
  | str _=>exact nomatch (show V.bl b=_ from h')
  | lst _=>obtain⟨_,_,q,_⟩:=h';cases q
  | tup _=>obtain⟨_,_,q,_⟩:=h';cases q
 | .int b,e,_,h,h'=>by
  have h:_=V.int b:=h;subst h;cases e with
  | non=>exact nomatch (show V.int b=_ from h')
  | bl c=>exact nomatch (show V.int b=_ from h')
  | int c=>
   have q:V.int b=V.int c:=h';cases q
   rfl
  | str _=>exact nomatch (show V.int b=_ from h')
  | lst _=>obtain⟨_,_,q,_⟩:=h';cases q
  | tup _=>obtain⟨_,_,q,_⟩:=h';cases q
 | .str b,e,_,h,h'=>by
  have h:_=V.str b:=h;subst h;cases e with
  | non=>exact nomatch (show V.str b=_ from h')
  | bl c=>exact nomatch (show V.str b=_ from h')
  | int _=>exact nomatch (show V.str b=_ from h')
  | str c=>
   have q:V.str b=V.str c:=h';cases q
   rfl
  | lst _=>obtain⟨_,_,q,_⟩:=h';cases q
  | tup _=>obtain⟨_,_,q,_⟩:=h';cases q
 | .lst ds,e,_,h,h'=>by
  obtain⟨a,xs,e1,h1,h2⟩:=h;subst e1;cases e with
  | non=>exact nomatch (show V.ref a=_ from h')
  | bl c=>exact nomatch (show V.ref a=_ from h')
  | int _=>exact nomatch (show V.ref a=_ from h')
  | str _=>exact nomatch (show V.ref a=_ from h')
  | lst es=>
   obtain⟨b,ys,e2,h3,h4⟩:=h';cases e2
   have q:=I.list_inj h1 h3;subst q;rw[I.dtsUniq h2 h4]
  | tup es=>
   obtain⟨b,ys,e2,h3,h4⟩:=h';cases e2
   exact(I.notBoth h1 h3).elim
 | .tup ds,e,_,h,h'=>by
  obtain⟨a,xs,e1,h1,h2⟩:=h;subst e1;cases e with
  | non=>exact nomatch (show V.ref a=_ from h')
  | bl c=>exact nomatch (show V.ref a=_ from h')
  | int _=>exact nomatch (show V.ref a=_ from h')
  | str _=>exact nomatch (show V.ref a=_ from h')
  | lst es=>
   obtain⟨b,ys,e2,h3,h4⟩:=h';cases e2
   exact(I.notBoth h3 h1).elim
  | tup es=>
   obtain⟨b,ys,e2,h3,h4⟩:=h';cases e2
   have q:=I.tuple_inj h1 h3;subst q;rw[I.dtsUniq h2 h4]
theorem Inv.dtsUniq (I:Inv X aa σ H s):∀ {ds es:List Dt}{xs:List V},aN X.K H ds xs->aN X.K H es xs->ds=es
 | [],es,_,h,h'=>by
  have h:_=[]:=h;subst h;cases es with
  | nil=>rfl
  | cons e es=>obtain⟨_,_,q,_⟩:=h';cases q
 | d::ds,es,_,h,h'=>by
  obtain⟨y,ys,e1,h1,h2⟩:=h;subst e1;cases es with
  | nil=>exact nomatch (show y::ys=[] from h')
  | cons e es=>
   obtain⟨z,zs,q,h3,h4⟩:=h';cases q
   rw[I.dtUniq h1 h3,I.dtsUniq h2 h4]
end
def lh (ds es:List Dt) (j:Nat):Bool:=eqD (ds.getD j .non) (es.getD j .non)
theorem zL:∀ ds es:List Dt,((List.range (min ds.length es.length)).all (lh ds es) && ds.length == es.length)=dv ds es
 | [],[]=>rfl
 | [],_::_=>by simp[dv]
 | _::_,[]=>by simp[dv]
 | d::ds,e::es=>by
  have ih:=zL ds es;have e1:min (d::ds).length (e::es).length=min ds.length es.length + 1:=by simp only[Vw];omega
  have e2:((d::ds).length == (e::es).length)=(ds.length == es.length):=by simp
  have e3:(List.range (min ds.length es.length + 1)).all (lh (d::ds) (e::es))=(eqD d e && (List.range (min ds.length es.length)).all (lh ds es)):=by
   rw[Xc,Ya,Yg];rfl
  rw[e1,e2,e3,dv,<- ih,Bool.and_assoc]
theorem JP {ds es:List Dt} (h:ds.length=es.length):(List.range ds.length).all (lh ds es)=dv ds es:=by
 have:=zL ds es;rw[<- h,Nat.min_self] at this
 simpa using this
theorem Kk {ds es:List Dt} (h:ds.length≠es.length):dv ds es=false:=by
 rw[<- zL ds es];simp[h]
end
section
variable {X:Cx}{aa:List (Addr×Obj)}{σ:St}{H:Hp}{s:Shared}
theorem Inv.isL (I:Inv X aa σ H s){a:Addr}{xs:List V} (h:SqL X.K H a xs):∃ its:List Value,aw xs its/\s.heap.IsList a its.toArray:=
 let ⟨its,r,pl,_⟩:=I.list h
 ⟨its,r,pl.isList⟩
theorem Inv.isT (I:Inv X aa σ H s){a:Addr}{xs:List V} (h:SqT X.K H a xs):∃ its:List Value,aw xs its/\s.heap.IsTuple a its.toArray:=
 let ⟨its,r,pt,_⟩:=I.tuple h
 ⟨its,r,pt⟩
theorem FD {ds es:List Dt}{j:Nat}{d e:Dt} (h1:ds[j]?=some d) (h2:es[j]?=some e):lh ds es j=eqD d e:=by
 unfold lh;rw[Vf,Vf,h1,h2];rfl
theorem gJ {α:Type}{l:List α}{j:Nat} (h:j<l.length):∃ x,l[j]?=some x:=⟨l[j],by simp[h]⟩
mutual
theorem Inv.eqAt (I:Inv X aa σ H s):∀ {d e:Dt}{x y:V}{u v:Value}{n:Nat}{A:Around},DtV X.K H d x->DtV X.K H e y->av x u->av y v->nu n d->A.units + n<cLine->EqAt A s u v (eqD d e)
 | .non,e,x,y,u,v,n,A,h,h',rx,ry,_,hu=>by
  have hu:A.units<cLine:=Ww (VO _ _) hu;have h:x=V.non:=h;subst h;cases e with
  | non=>
   have h':y=V.non:=h';subst h';exact fD rx ry rfl rfl
  | bl c=>
   have h':y=V.bl c:=h';subst h';exact fD rx ry rfl rfl
  | int c=>
   have h':y=V.int c:=h';subst h';exact fD rx ry rfl rfl
  | str c=>
   have h':y=V.str c:=h';subst h';exact fD rx ry rfl rfl
  | lst es=>
   obtain⟨a,ys,rfl,h1,_⟩:=h';obtain rfl:v=Value.ref a:=ry;obtain⟨its,_,hl⟩:=I.isL h1;obtain rfl:u=Value.none:=rx;exact EqAt.none_list hl hu
  | tup es=>
   obtain⟨a,ys,rfl,h1,_⟩:=h';obtain rfl:v=Value.ref a:=ry;obtain⟨its,_,hl⟩:=I.isT h1;obtain rfl:u=Value.none:=rx;exact EqAt.none_tuple hl hu
 | .bl b,e,x,y,u,v,n,A,h,h',rx,ry,_,hu=>by
  have hu:A.units<cLine:=Ww (VO _ _) hu;have h:x=V.bl b:=h;subst h;cases e with
  | non=>
   have h':y=V.non:=h';subst h';exact fD rx ry rfl rfl
  | bl c=>
   have h':y=V.bl c:=h';subst h';exact fD rx ry rfl rfl
  | int c=>
   have h':y=V.int c:=h';subst h';exact fD rx ry rfl rfl
  | str c=>
   have h':y=V.str c:=h';subst h';exact fD rx ry rfl rfl
  | lst es=>
   obtain⟨a,ys,rfl,h1,_⟩:=h';obtain rfl:v=Value.ref a:=ry;obtain⟨its,_,hl⟩:=I.isL h1;obtain rfl:u=Value.bool b:=rx;exact EqAt.bool_list b hl hu
  | tup es=>
   obtain⟨a,ys,rfl,h1,_⟩:=h';obtain rfl:v=Value.ref a:=ry;obtain⟨its,_,hl⟩:=I.isT h1;obtain rfl:u=Value.bool b:=rx;exact EqAt.bool_tuple b hl hu
 | .int b,e,x,y,u,v,n,A,h,h',rx,ry,_,hu=>by
  have hu:A.units<cLine:=Ww (VO _ _) hu;have h:x=V.int b:=h;subst h;cases e with
  | non=>
   have h':y=V.non:=h';subst h';exact fD rx ry rfl rfl
  | bl c=>
   have h':y=V.bl c:=h';subst h';exact fD rx ry rfl rfl
  | int c=>
   have h':y=V.int c:=h';subst h';exact fD rx ry rfl rfl
  | str c=>
   have h':y=V.str c:=h';subst h';exact fD rx ry rfl rfl
  | lst es=>
   obtain⟨a,ys,rfl,h1,_⟩:=h';obtain rfl:v=Value.ref a:=ry;obtain⟨its,_,hl⟩:=I.isL h1;obtain⟨t,rfl⟩:=rx;exact EqAt.int_list b t hl hu
  | tup es=>
   obtain⟨a,ys,rfl,h1,_⟩:=h';obtain rfl:v=Value.ref a:=ry;obtain⟨its,_,hl⟩:=I.isT h1;obtain⟨t,rfl⟩:=rx;exact EqAt.int_tuple b t hl hu
 | .str b,e,x,y,u,v,n,A,h,h',rx,ry,_,hu=>by
  have hu:A.units<cLine:=Ww (VO _ _) hu;have h:x=V.str b:=h;subst h;cases e with
  | non=>
   have h':y=V.non:=h';subst h';exact fD rx ry rfl rfl
  | bl c=>
   have h':y=V.bl c:=h';subst h';exact fD rx ry rfl rfl
  | int c=>
   have h':y=V.int c:=h';subst h';exact fD rx ry rfl rfl
  | str c=>
   have h':y=V.str c:=h';subst h';exact fD rx ry rfl rfl
  | lst es=>
   obtain⟨a,ys,rfl,h1,_⟩:=h';obtain rfl:v=Value.ref a:=ry;obtain⟨its,_,hl⟩:=I.isL h1;obtain⟨t,rfl⟩:=rx;exact EqAt.str_list b t hl hu
  | tup es=>
   obtain⟨a,ys,rfl,h1,_⟩:=h';obtain rfl:v=Value.ref a:=ry;obtain⟨its,_,hl⟩:=I.isT h1;obtain⟨t,rfl⟩:=rx;exact EqAt.str_tuple b t hl hu
 | .lst ds,e,x,y,u,v,n,A,h,h',rx,ry,hd,hu=>by
  obtain⟨a,xs,rfl,g1,g2⟩:=h;obtain rfl:u=Value.ref a:=rx;obtain⟨its,rv,hl⟩:=I.isL g1;cases n with
  | zero=>exact False.elim hd
  | succ n=>
  have cy:A.units<cLine:=Ww (VO _ _) hu;cases e with
  | non=>
   have h':y=V.non:=h';subst h';obtain rfl:v=Value.none:=ry;exact EqAt.list_none hl cy
  | bl c=>
   have h':y=V.bl c:=h';subst h';obtain rfl:v=Value.bool c:=ry;exact EqAt.list_bool c hl cy
  | int c=>
   have h':y=V.int c:=h';subst h';obtain⟨t,rfl⟩:=ry;exact EqAt.list_int c t hl cy
  | str c=>
   have h':y=V.str c:=h';subst h';obtain⟨t,rfl⟩:=ry;exact EqAt.list_str c t hl cy
  | tup es=>
   obtain⟨b,ys,rfl,h1,_⟩:=h';obtain rfl:v=Value.ref b:=ry;obtain⟨its',_,cV⟩:=I.isT h1;exact EqAt.list_tuple hl cV cy
  | lst es=>
   obtain⟨b,ys,rfl,h1,h2⟩:=h';obtain rfl:v=Value.ref b:=ry;obtain⟨its',cK,cV⟩:=I.isL h1;show EqAt A s (.ref a) (.ref b) (dv ds es);by_cases qI:a=b
   ·subst qI
    have e:Dt.lst ds=Dt.lst es:=I.dtUniq ⟨a,xs,rfl,g1,g2⟩ ⟨a,ys,rfl,h1,h2⟩;injection e with e
    subst e;rw[zH];exact EqAt.same _
   ·have n1:ds.length=its.length:=g2.length.trans rv.length
    have n2:es.length=its'.length:=h2.length.trans cK.length;have items:∀ j (h1:j<its.toArray.size) (h2:j<its'.toArray.size),EqAt A.in1 s its.toArray[j] its'.toArray[j] (lh ds es j):=fun j j1 j2=>by
     have j1:j<its.length:=by simpa using j1
     have j2:j<its'.length:=by simpa using j2
     obtain⟨d',cH⟩:=gJ (l:=ds) (j:=j) (by omega);obtain⟨e',dX⟩:=gJ (l:=es) (j:=j) (by omega);obtain⟨x',d5,kx⟩:=g2.get cH;obtain⟨y',cU,ky⟩:=h2.get dX;obtain⟨u',nU,ru⟩:=rv.get d5;obtain⟨v',eE,wW⟩:=cK.get cU;have q1:its.toArray[j]=u':=by
      have:=List.getElem?_eq_some_iff.mp nU
      simpa using this.2
     have q2:its'.toArray[j]=v':=by
      have:=List.getElem?_eq_some_iff.mp eE
      simpa using this.2
     rw[q1,q2,FD cH dX];exact Inv.eqAtI I ds j cH kx ky ru wW (eV.get hd cH) (show A.units + 1 + n<cLine by omega)
    by_cases hsz:its.toArray.size=its'.toArray.size
    ·have o5:ds.length=es.length:=by simpa [n1,n2] using hsz
     rw[<- JP o5,n1,<- Vx];exact EqAt.of_refs qI (RcAt.lists hl cV hsz cy items)
    ·rw[Kk (by simpa [n1,n2] using hsz)]
     exact EqAt.of_refs qI (RcAt.lists_lengths hl cV (by simpa using hsz) cy)
 | .tup ds,e,x,y,u,v,n,A,h,h',rx,ry,hd,hu=>by
  obtain⟨a,xs,rfl,g1,g2⟩:=h;obtain rfl:u=Value.ref a:=rx;obtain⟨its,rv,hl⟩:=I.isT g1;cases n with
  | zero=>exact False.elim hd
  | succ n=>
  have cy:A.units<cLine:=Ww (VO _ _) hu;cases e with
  | non=>
   have h':y=V.non:=h';subst h';obtain rfl:v=Value.none:=ry;exact EqAt.tuple_none hl cy
  | bl c=>
   have h':y=V.bl c:=h';subst h';obtain rfl:v=Value.bool c:=ry;exact EqAt.tuple_bool c hl cy
  | int c=>
   have h':y=V.int c:=h';subst h';obtain⟨t,rfl⟩:=ry;exact EqAt.tuple_int c t hl cy
  | str c=>
   have h':y=V.str c:=h';subst h';obtain⟨t,rfl⟩:=ry;exact EqAt.tuple_str c t hl cy
  | lst es=>
   obtain⟨b,ys,rfl,h1,_⟩:=h';obtain rfl:v=Value.ref b:=ry;obtain⟨its',_,cV⟩:=I.isL h1;exact EqAt.tuple_list hl cV cy
  | tup es=>
   obtain⟨b,ys,rfl,h1,h2⟩:=h';obtain rfl:v=Value.ref b:=ry;obtain⟨its',cK,cV⟩:=I.isT h1;show EqAt A s (.ref a) (.ref b) (dv ds es);by_cases qI:a=b
   ·subst qI
    have e:Dt.tup ds=Dt.tup es:=I.dtUniq ⟨a,xs,rfl,g1,g2⟩ ⟨a,ys,rfl,h1,h2⟩;injection e with e
    subst e;rw[zH];exact EqAt.same _
   ·have n1:ds.length=its.length:=g2.length.trans rv.length
    have n2:es.length=its'.length:=h2.length.trans cK.length;have items:∀ j (h1:j<its.toArray.size) (h2:j<its'.toArray.size),EqAt A.in1 s its.toArray[j] its'.toArray[j] (lh ds es j):=fun j j1 j2=>by
     have j1:j<its.length:=by simpa using j1
     have j2:j<its'.length:=by simpa using j2
     obtain⟨d',cH⟩:=gJ (l:=ds) (j:=j) (by omega);obtain⟨e',dX⟩:=gJ (l:=es) (j:=j) (by omega);obtain⟨x',d5,kx⟩:=g2.get cH;obtain⟨y',cU,ky⟩:=h2.get dX;obtain⟨u',nU,ru⟩:=rv.get d5;obtain⟨v',eE,wW⟩:=cK.get cU;have q1:its.toArray[j]=u':=by
      have:=List.getElem?_eq_some_iff.mp nU
      simpa using this.2
     have q2:its'.toArray[j]=v':=by
      have:=List.getElem?_eq_some_iff.mp eE
      simpa using this.2
     rw[q1,q2,FD cH dX];exact Inv.eqAtI I ds j cH kx ky ru wW (eV.get hd cH) (show A.units + 1 + n<cLine by omega)
    have q:=EqAt.of_refs qI (RcAt.tuples hl cV cy items);rw[<- zL ds es,n1,n2]
    simpa using q
theorem Inv.eqAtI (I:Inv X aa σ H s):∀ (ds:List Dt) (j:Nat){d e:Dt}{x y:V}{u v:Value}{n:Nat}{A:Around},ds[j]?=some d->DtV X.K H d x->DtV X.K H e y->av x u->av y v->nu n d->A.units + n<cLine->EqAt A s u v (eqD d e)
 | [],j,_,_,_,_,_,_,_,_,h,_,_,_,_,_,_=>by simp at h
 | c::_,0,d,e,x,y,u,v,n,A,h,hx,hy,ru,rv,hd,hu=>by
  simp at h
  subst h;exact Inv.eqAt I hx hy ru rv hd hu
 | _::cs,j + 1,d,e,x,y,u,v,n,A,h,hx,hy,ru,rv,hd,hu=>Inv.eqAtI I cs j (by simpa using h) hx hy ru rv hd hu
end
theorem Inv.items (I:Inv X aa σ H s){ds es:List Dt}{xs ys:List V}{its its':List Value}{n:Nat}{A:Around} (g2:aN X.K H ds xs) (h2:aN X.K H es ys) (rv:aw xs its) (cK:aw ys its') (hd:eV n ds)
  (hu:A.units + 1 + n<cLine):∀ j (h1:j<its.toArray.size) (h2:j<its'.toArray.size),EqAt A.in1 s its.toArray[j] its'.toArray[j] (lh ds es j):=fun j j1 j2=>by
 have n1:ds.length=its.length:=g2.length.trans rv.length;have n2:es.length=its'.length:=h2.length.trans cK.length;have j1:j<its.length:=by simpa using j1
 have j2:j<its'.length:=by simpa using j2
 obtain⟨d',cH⟩:=gJ (l:=ds) (j:=j) (by omega);obtain⟨e',dX⟩:=gJ (l:=es) (j:=j) (by omega);obtain⟨x',d5,kx⟩:=g2.get cH;obtain⟨y',cU,ky⟩:=h2.get dX;obtain⟨u',nU,ru⟩:=rv.get d5;obtain⟨v',eE,wW⟩:=cK.get cU;have q1:its.toArray[j]=u':=by
  have:=List.getElem?_eq_some_iff.mp nU
  simpa using this.2
 have q2:its'.toArray[j]=v':=by
  have:=List.getElem?_eq_some_iff.mp eE
  simpa using this.2
 rw[q1,q2,FD cH dX];exact I.eqAt kx ky ru wW (eV.get hd cH) hu
def Bj:Dt->Bool
 | .lst _=>true
 | .tup _=>true
 | _=>false
theorem Inv.rcAt (I:Inv X aa σ H s){d e:Dt}{x y:V}{u v:Value}{n:Nat}{A:Around} (bd:Bj d=true) (be:Bj e=true) (h:DtV X.K H d x) (h':DtV X.K H e y) (rx:av x u) (ry:av y v) (hd:nu n d) (hu:A.units + n<cLine) :
  RcAt A s u v (eqD d e)/\RcNeAt A s u v (!eqD d e):=by
 cases n with
 | zero=>cases d <;> first | exact False.elim hd | cases bd
 | succ n=>
 have cy:A.units<cLine:=Ww (VO _ _) hu;have AD:A.units + 1 + n<cLine:=by omega
 cases d with
 | lst ds=>
  obtain⟨a,xs,rfl,g1,g2⟩:=h;obtain rfl:u=Value.ref a:=rx;obtain⟨its,rv,hl⟩:=I.isL g1;cases e with
  | lst es=>
   obtain⟨b,ys,rfl,h1,h2⟩:=h';obtain rfl:v=Value.ref b:=ry;obtain⟨its',cK,cV⟩:=I.isL h1;have n1:ds.length=its.length:=g2.length.trans rv.length;have n2:es.length=its'.length:=h2.length.trans cK.length;show RcAt A s (.ref a) (.ref b) (dv ds es)/\RcNeAt A s (.ref a) (.ref b) (!dv ds es);by_cases hsz:its.toArray.size=its'.toArray.size
   ·have o5:ds.length=es.length:=by simpa [n1,n2] using hsz
    rw[<- JP o5,n1,<- Vx];exact⟨RcAt.lists hl cV hsz cy (I.items g2 h2 rv cK hd AD),RcNeAt.lists hl cV hsz cy (I.items g2 h2 rv cK hd AD)⟩
   ·rw[Kk (by simpa [n1,n2] using hsz)]
    exact⟨RcAt.lists_lengths hl cV (by simpa using hsz) cy,RcNeAt.lists_lengths hl cV (by simpa using hsz) cy⟩
  | tup es=>
   obtain⟨b,ys,rfl,h1,_⟩:=h';obtain rfl:v=Value.ref b:=ry;obtain⟨its',_,cV⟩:=I.isT h1;exact⟨RcAt.list_tuple hl cV cy,RcNeAt.list_tuple hl cV cy⟩
  | _=>cases be
 | tup ds=>
  obtain⟨a,xs,rfl,g1,g2⟩:=h;obtain rfl:u=Value.ref a:=rx;obtain⟨its,rv,hl⟩:=I.isT g1;cases e with
  | tup es=>
   obtain⟨b,ys,rfl,h1,h2⟩:=h';obtain rfl:v=Value.ref b:=ry;obtain⟨its',cK,cV⟩:=I.isT h1;have n1:ds.length=its.length:=g2.length.trans rv.length;have n2:es.length=its'.length:=h2.length.trans cK.length;have q:=RcAt.tuples hl cV cy (I.items g2 h2 rv cK hd AD);have q':=RcNeAt.tuples hl cV cy (I.items g2 h2 rv cK hd AD);show RcAt A s (.ref a) (.ref b) (dv ds es)/\RcNeAt A s (.ref a) (.ref b) (!dv ds es);rw[<- zL ds es,n1,n2];exact⟨by simpa using q,by simpa using q'⟩
  | lst es=>
   obtain⟨b,ys,rfl,h1,_⟩:=h';obtain rfl:v=Value.ref b:=ry;obtain⟨its',_,cV⟩:=I.isL h1;exact⟨RcAt.tuple_list hl cV cy,RcNeAt.tuple_list hl cV cy⟩
  | _=>cases be
 | _=>cases bd
def rEqD (K:PySem.W.Frag) (vj:Bool):R2:=fun x y H Q=>∃ d e,Bj d=true/\Bj e=true/\DtV K H d x/\DtV K H e y/\nu 60 d/\Q (.bl (if vj then !eqD d e else eqD d e)) H
theorem Jk (hu:X.A.units + 64<cLine):OpR X (compareOp .NotEq) (rEqD X.K true):=by
 intro aa s σ H x y v u Q I rx ry h;obtain⟨d,e,bd,be,h1,h2,hd,q⟩:=h;exact(I.rcAt bd be h1 h2 rx ry hd (by omega)).2 X.prog X.w _ _ ⟨.bl _,H,I,rfl,q⟩
end
end L2
namespace L2
open PySem PySem.Spec PyProof.Rows
section
variable {X:Cx}
end
end L2
namespace L2
open PySem PySem.Spec PyProof.Rows
structure ExcAt (H:Hp) (h:Heap) (a:Addr) (c:Value) (dd:Option Addr) (tb:Option (Addr×Value)):Prop where
 ob:∃ o vs,h.get? a=some o/\o.cls=c/\o.dict=dd/\o.data=.fields vs/\vs.size=6/\(∃ cs,jF H cs/\vs[2]?=some (nxt cs 0))/\vs[1]?=some (match tb with|none=>.none|some p=>.ref p.1)
 tr:∀ p,tb=some p->p.1≠a/\∃ oT ts,h.get? p.1=some oT/\oT.data=.fields ts/\ts[3]?=some p.2
structure Exc (X:Cx) (aa:List (Addr×Obj)) (H:Hp) (h:Heap) (a:Addr) (c:Value) (dd:Option Addr) (tb:Option (Addr×Value)):Prop where
 fp:bC X aa H a
 fpT:∀ p,tb=some p->bC X aa H p.1
 at_:ExcAt H h a c dd tb
theorem Uj (o:Obj) (f:Array Value->Array Value):(o.mapFields f).dict=o.dict:=by
 obtain⟨c,d,dt,sl⟩:=o;cases dt <;> rfl
section
variable {X:Cx}{aa:List (Addr×Obj)}{σ:St}{H:Hp}{s:Shared}{a:Addr}{c:Value}{dd:Option Addr}
theorem Inv.slot0 {h':Heap}{ch:List Addr}{tk:Nat} (I:Inv X aa σ H s) (eZ:∀ b∈ch,bC X aa H b) (keep:∀ b o,b∉frs X.stack->b∉ch->s.heap.get? b=some o->h'.get? b=some o)
  (slot:∀ b o,b∈frs X.stack->s.heap.get? b=some o->∃ sl,h'.get? b=some { o with slots:=sl }):Inv X aa σ H { s with heap:=h',toks:=tk }:=by
 have any:∀ b o,b∉ch->s.heap.get? b=some o->∃ sl,h'.get? b=some { o with slots:=sl }:=fun b o hc e=>by
  by_cases hb:b∈frs X.stack
  ·exact slot b o hb e
  ·exact⟨o.slots,keep b o hb hc e⟩
 have sub:∀ b,b∈frs X.stack->b=X.env.locals\/b∈X.fs:=fun b hb=>VH.mp (I.stkSub b hb)
 refine I.step (g':=s.gens) (d':=s.drawn) (ch:=ch) (fun b hb=>?_) (fun b o hL hf hc e _=>keep b o (fun z=>(sub b z).elim hL hf) hc e) (fun b o _ _ hc e _=>any b o hc e) (fun _ _ _ _ n=>n) (fun b o hc e=>?_)
  (fun _ _ e=>e) (fun _ _ _ e=>e) (fun _ _ _ e=>e) (fun m hm=>?_) (fun b u e=>?_) I.bare
 ·obtain⟨_,f1,_,f3,f4,f5⟩:=eZ b hb
  exact⟨f3,f1,f4,f5⟩
 ·obtain⟨sl,q⟩:=any b o hc e
  exact⟨_,q⟩
 ·obtain⟨o,es,ep,ho,r⟩:=hm
  obtain⟨sl,q⟩:=any _ o (fun z=>(eZ _ z).2.1 rfl) ho;exact⟨_,es,ep,q,r⟩
 ·have nf:∀ d v,H d=some v->d∉frs X.stack/\d∉ch:=fun d v q=>⟨fun z=>(by rw[I.stkFree d z] at q;cases q),fun z=>(by rw[(eZ d z).1] at q;cases q)⟩
  refine(I.hok b u e).stay (fun d v hd q=>?_) (fun _ q=>q) fun _ _ q=>q
  rcases hd with z|z
  ·subst z
   exact keep d v (nf d _ e).1 (nf d _ e).2 q
  ·exact keep d v (nf d _ z).1 (nf d _ z).2 q
theorem Inv.slots {h':Heap}{ch:List Addr}{tk:Nat} (I:Inv X aa σ H s) (eZ:∀ b∈ch,bC X aa H b) (keep:∀ b o,b∉frs X.stack->b∉ch->s.heap.get? b=some o->h'.get? b=some o)
  (slot:∀ b o,b∈frs X.stack->s.heap.get? b=some o->∃ sl,h'.get? b=some { o with slots:=sl }) (_:∀ b∈ch,∀ o,s.heap.get? b=some o->∃ o',h'.get? b=some o'):Inv X aa σ H { s with heap:=h',toks:=tk }:=I.slot0 eZ keep slot
def Body (X:Cx):Prop:=X.stack=X.env::X.outer/\X.env.frame=some X.env.locals
theorem KW {M:Model}{E:Value->Shared->Prop}{Q:Unit->Shared->Prop}{o:Obj}{vs:Array Value}{r9:Value}{kj:Bool} (B:Body X) (I:Inv X aa σ H s) (fp:bC X aa H a) (he:s.heap.get? a=some o) (hd:o.data=.fields vs) (hz:vs.size=6)
  (hQ:∀ s' T,Inv X aa σ H s'->s.heap.objs.size<=T->bC X aa H T->T≠a->s'.heap.get? a=some (o.mapFields (·.setIfInBounds 1 (.ref T)))->(∃ oT ts,s'.heap.get? T=some oT/\oT.data=.fields ts/\ts[3]?=some (rawInt X.env.locals))->Q () s') :
  wpAny M X.A (do let f <- frameOf X.env;let pl <- entryPlaceOf X.env.locals kj;let b <- EntryCells.newEntry r9 f .none (rawInt X.env.locals) .none pl;setField (.ref a) 1 b) Q E s:=by
 have hl:=I.stack;rw[B.1] at hl;have nY:X.A.frames=some (X.env::X.outer):=by rw[I.ok.frames,B.1]
 have kX:∀ b,bC X aa H b->b∉frs X.stack:=fun b f z=>(VH.mp (I.stkSub b z)).elim f.2.1 f.2.2.1
 refine oW (wpAny_frameOf_fun nY hl B.2 fun h₁ bA=>?_);rw[<- B.1] at bA;refine oW (wpAny_entryPlaceOf fun pl bX=>?_);simp only[EntryCells.newEntry,newFields]
 refine oW (WP ?_ (bX.sizeOk5 _ _ _ _ _));generalize GH:({ cls:=.type "traceback",dict:=none,data:=.fields ([r9,.ref X.env.locals,.none,rawInt X.env.locals,.none]++(if pl.isEmpty then List.replicate 6 Value.none else pl)).toArray }:Obj)=oT;have e1:h₁.get? a=some o:=(bA.2.1 a (kX a fp)).trans he;have e2:(h₁.push oT).get? a=some o:=Ve _ e1;have hsz:s.heap.objs.size=h₁.objs.size:=bA.1.symm;have HE:h₁.objs.size≠a:=V9 (Vk e1);have dL:=Obj.data_mapFields hd (·.setIfInBounds 1 (Value.ref h₁.objs.size));have e3:=VR (Obj.mapFields (·.setIfInBounds 1 (Value.ref h₁.objs.size))) e2 (Obj.isFreed_of_fields dL);have eT:((h₁.push oT).update a (Obj.mapFields (·.setIfInBounds 1 (Value.ref h₁.objs.size)))).get? h₁.objs.size=some oT:=
  (VB _ _ (Ne.symm HE)).trans (Vm h₁ (by rw[<- GH];rfl))
 have kp:∀ b q,b≠a->h₁.get? b=some q->((h₁.push oT).update a (Obj.mapFields (·.setIfInBounds 1 (Value.ref h₁.objs.size)))).get? b=some q:=fun b q hb e=>
  (VB _ _ (Ne.symm hb)).trans (Ve _ e)
 refine WC e2 hd (by rw[hz];decide) ?_;refine hQ _ h₁.objs.size (I.slots (ch:=[a]) (tk:=s.toks) (fun b hb=>?_) (fun b q hb hc e=>?_) (fun b q hb e=>?_) (fun b hb q e=>?_)) (W5 hsz) (I.fpOk (W5 hsz) (I.hok.fresh (W5 hsz))) HE e3 ⟨oT,_,eT,by rw[<- GH],?_⟩
 ·rw[W7.mp hb];exact fp
 ·exact kp b q (fun z=>hc (by simp[z])) ((bA.2.1 b hb).trans e)
 ·obtain⟨sl,q'⟩:=bA.2.2 b q e
  refine⟨sl,kp b _ (fun z=>?_) q'⟩;subst z;exact kX b fp hb
 ·rw[W7.mp hb];exact⟨_,e3⟩
 ·first|(simp;done)|(rcases bX with rfl|⟨_,_,_,_,_,_,_,rfl⟩ <;> simp)
theorem vs_set {vs:Array Value}{v:Value}{H:Hp} (hz:vs.size=6) (h2:∃ cs,jF H cs/\vs[2]?=some (nxt cs 0)):(vs.setIfInBounds 1 v).size=6/\(∃ cs,jF H cs/\(vs.setIfInBounds 1 v)[2]?=some (nxt cs 0))/\(vs.setIfInBounds 1 v)[1]?=some v:=by
 refine⟨by simpa using hz,?_,?_⟩
 ·obtain⟨cs,hc,h2⟩:=h2
  exact⟨cs,hc,by rw[Xf (by decide)];exact h2⟩
 ·simp[hz]
theorem Inv.note {M:Model}{E:Value->Shared->Prop}{Q:Unit->Shared->Prop}{tb:Option (Addr×Value)} (B:Body X) (I:Inv X aa σ H s) (x:Exc X aa H s.heap a c dd tb) (ia:∀ p,tb=some p->p.2=.none\/p.2=rawInt X.env.locals)
  (hQ:∀ s' T,Inv X aa σ H s'->Exc X aa H s'.heap a c dd (some (T,rawInt X.env.locals))->Q () s'):wpAny M X.A (noteFrame (.ref a) X.env) Q E s:=by
 obtain⟨o,vs,h1,hc,gO,hd,hz,h2,xx⟩:=x.at_.ob;have aO:∀ s' T,Inv X aa σ H s'->bC X aa H T->T≠a->s'.heap.get? a=some (o.mapFields (·.setIfInBounds 1 (.ref T)))->(∃ oT ts,s'.heap.get? T=some oT/\oT.data=.fields ts/\ts[3]?=some (rawInt X.env.locals))->Q () s':=fun s' T I' fT ne e' tr=>by
  obtain⟨z1,z2,z3⟩:=vs_set (v:=.ref T) hz h2;refine hQ s' T I' ⟨x.fp,fun p q=>?_,⟨_,_,e',(Obj.cls_mapFields _ _).trans hc,(Uj _ _).trans gO,Obj.data_mapFields hd _,z1,z2,z3⟩,fun p q=>?_⟩
  ·cases q;exact fT
  ·cases q;exact⟨ne,tr⟩
 unfold noteFrame;simp only[B.2]
 cases tb with
 | none=>
  refine oW (VF h1 hd xx ?_);rw[if_neg (by decide)];exact KW B I x.fp h1 hd hz fun s' T I' _ fT ne e' tr=>aO s' T I' fT ne e' tr
 | some p=>
  obtain⟨T,fl⟩:=p;obtain⟨ne,oT,ts,hT,oO,h3⟩:=x.at_.tr _ rfl;refine oW (VF h1 hd xx ?_);rw[if_pos (show(Value.ref T != Value.none)=true from by simp)];refine oW (VF hT oO h3 ?_);rcases ia _ rfl with z|z
  ·have z:fl=.none:=z
   subst z;rw[if_neg (show ¬ ((Value.none == rawInt X.env.locals)=true) from by simp[rawInt])];refine oW (WC hT oO (Array.getElem?_eq_some_iff.mp h3).1 ?_);have other:∀ b,b≠T->(s.heap.update T (Obj.mapFields (·.setIfInBounds 3 Value.none))).get? b=s.heap.get? b:=fun b hb=>VB _ _ (Ne.symm hb)
   have kX:T∉frs X.stack:=fun z=>(VH.mp (I.stkSub T z)).elim (x.fpT _ rfl).2.1 (x.fpT _ rfl).2.2.1
   have I1:Inv X aa σ H { s with heap:=s.heap.update T (Obj.mapFields (·.setIfInBounds 3 Value.none)) }:=I.slots (ch:=[T]) (tk:=s.toks) (fun b hb=>by rw[W7.mp hb];exact x.fpT _ rfl)
    (fun b q _ hc e=>(other b fun z=>hc (by simp[z])).trans e) (fun b q hb e=>⟨q.slots,(other b fun z=>kX (z ▸ hb)).trans e⟩)
    (fun b hb q e=>(by obtain rfl:=W7.mp hb;exact⟨_,VR _ hT (Obj.isFreed_of_fields (Obj.data_mapFields oO _))⟩))
   exact KW B I1 x.fp ((other a (Ne.symm ne)).trans h1) hd hz fun s' T' I' _ Oj MH e' tr=>aO s' T' I' Oj MH e' tr
  ·have z:fl=rawInt X.env.locals:=z
   subst z;rw[if_pos (show(rawInt X.env.locals == rawInt X.env.locals)=true from beq_self_eq_true _)];exact Vi (hQ s T I x)
theorem Inv.land {M:Model}{E:Value->Shared->Prop}{Q:Unit->Shared->Prop}{T:Addr}{fl:Value}{A:Around} (I:Inv X aa σ H s) (x:Exc X aa H s.heap a c dd (some (T,fl)))
  (hQ:∀ s',Inv X aa σ H s'->Exc X aa H s'.heap a c dd (some (T,.none))->Q () s'):wpAny M A (setFlight (.ref a) none) Q E s:=by
 obtain⟨o,vs,h1,hc,gO,hd,hz,h2,xx⟩:=x.at_.ob;obtain⟨ne,oT,ts,hT,oO,h3⟩:=x.at_.tr _ rfl;have Hl:3<ts.size:=(Array.getElem?_eq_some_iff.mp h3).1;unfold setFlight;refine oW (VF h1 hd xx ?_);rw[if_pos (show(Value.ref T != Value.none)=true from by simp)];refine WC hT oO Hl ?_;have other:∀ b,b≠T->(s.heap.update T (Obj.mapFields (·.setIfInBounds 3 ((none:Option Addr).elim Value.none fun f=>rawInt f)))).get? b=s.heap.get? b:=fun b hb=>VB _ _ (Ne.symm hb)
 have self:=VR (Obj.mapFields (·.setIfInBounds 3 ((none:Option Addr).elim Value.none fun f=>rawInt f))) hT (Obj.isFreed_of_fields (Obj.data_mapFields oO _));have kX:T∉frs X.stack:=fun z=>(VH.mp (I.stkSub T z)).elim (x.fpT _ rfl).2.1 (x.fpT _ rfl).2.2.1
 refine hQ _ (I.slots (ch:=[T]) (tk:=s.toks) (fun b hb=>by rw[W7.mp hb];exact x.fpT _ rfl) (fun b q _ hc e=>(other b fun z=>hc (by simp[z])).trans e)
  (fun b q hb e=>⟨q.slots,(other b fun z=>kX (z ▸ hb)).trans e⟩) (fun b hb q e=>(by obtain rfl:=W7.mp hb;exact⟨_,self⟩))) ⟨x.fp,fun p q=>?_,⟨o,vs,(other a (Ne.symm ne)).trans h1,hc,gO,hd,hz,h2,xx⟩,fun p q=>?_⟩
 ·cases q;exact x.fpT (T,fl) rfl
 ·cases q;exact⟨ne,_,_,self,Obj.data_mapFields oO _,by simp[Hl]⟩
end
def CXe (P:Program) (w:World):CXT:=fun outer H s E e s'=>∃ a c dd T H',e=.ref a/\s'.os=s.os/\AllBare s'.gens/\Un (frs outer) [] H H' s.heap s'.heap/\HOk P w H' s'.heap /\
 (s.heap.objs.size<=a/\H' a=none)/\(s.heap.objs.size<=T/\H' T=none)/\ExcAt H' s'.heap a c dd (some (T,.none))/\E c dd H'
abbrev RK:=St->XK
def PX (X:Cx) (R:RK):Prop:=∀ (aa:List (Addr×Obj)) (σ:St) (H:Hp) (s:Shared) (a:Addr) (c:Value) (dd:Option Addr) (tb:Option Addr),Inv X aa σ H s->Exc X aa H s.heap a c dd (tb.map fun T=>(T,Value.none))->R σ c dd H->X.xe (.ref a) s
theorem map_tb {tb:Option Addr}{v:Value}:∀ p,(tb.map fun T=>(T,Value.none))=some p->p.2=Value.none\/p.2=v:=fun p e=>by
 cases tb with
 | none=>cases e
 | some T=>cases e;exact .inl rfl
theorem pT {P:Program}{w:World}{K:PySem.W.Frag}{mg:Str->Option Value}{base:Heap}{N:List Str}{qual:Str}{scope:Scope}{f:Addr}{cd:Value}{A:Around}{outer:List Env}{s:Shared}{H:Hp}{E:XK} :
  PX (jD (CXe P w) P w K mg base N qual scope f cd A outer s H E) (fun _=>E):=by
 intro aa σ H' s1 a c dd tb I x hE;have B:Body (jD (CXe P w) P w K mg base N qual scope f cd A outer s H E):=⟨rfl,rfl⟩;show wpAny _ _ (leaving _ (.ref a)) _ _ s1;unfold leaving;refine oW (I.note B x map_tb fun s2 T I2 x2=>?_);refine I2.land x2 fun s3 I3 x3=>?_
 have sz:∀ b,bC (jD (CXe P w) P w K mg base N qual scope f cd A outer s H E) aa H' b->s.heap.objs.size<=b/\H' b=none:=fun b fb=>by
  refine⟨?_,fb.1⟩;rcases fb.2.2.2.1 with z|z
  ·exact absurd (show b∈([]:List Addr) from z) (by simp)
  ·exact z
 exact⟨a,c,dd,T,H',rfl,I3.os,I3.bare,I3.base,I3.hok,sz a x3.fp,sz T (x3.fpT _ rfl),x3.at_,hE⟩
theorem R5 {X:Cx}{R:RK} (hp:PX X R):∀ (aa:List (Addr×Obj)) (σ:St) (H:Hp) (s:Shared) (e:Value) (s':Shared),Inv X aa σ H s->CXe X.prog X.w X.stack H s (R σ) e s'->X.xe e s':=by
 intro aa σ H s e s' I h;obtain⟨a,c,dd,T,H',rfl,os,bare,un,hok,ha,hT,x,hE⟩:=h;have I':Inv X aa σ H' s':=I.call' os un hok bare fun b z=>absurd z (by simp)
 refine hp aa σ H' s' a c dd (some T) I' ⟨I.fpOk ha.1 ha.2,fun p q=>?_,x⟩ hE;cases q
 exact I.fpOk hT.1 hT.2
end L2
namespace L2
open PySem PySem.Spec PyProof.Rows
section
variable {prog:Program}{w:World}{A:Around}{E:Value->Shared->Prop}{h:Heap}{g:Array GenState}{d:Drawn}{t:Nat}{os:OsState}
variable {nm q:Str}{C N:Addr}{bs bm iN:List Value}{hdct:Bool}{sn:List Str}{sub:List Value}{ab:Bool}{col:Option Bool}{dd:Option Addr}{k0 k1 k2 k3 k5:Option Value}{B newId fX:String}
abbrev ly (C t:Addr):Obj:={ cls:=.ref C,data:=.fields #[.ref t,.none,.none,.none,.bool false,.none] }
abbrev nB (aP:List Value):Obj:={ cls:=.type "tuple",data:=.seq aP.toArray }
theorem Ub (F:ExcBaseFacts B newId fX iN) (T:OwnTail h iN bm){aP:List Value}{Q:Value->Shared->Prop}
  (oC:h.get? C=some (excClassObj nm q C N bs bm hdct sn sub ab col dd k0 k1 k2 k3 k5 newId)) (lk:PySem.W.Looks (model prog w) h (typeLookup (.ref C) "__init__") (some (.builtin fX))) (few:aP.length<=sizeLine)
  (aO:∀ h',(∀ b o,h.get? b=some o->h'.get? b=some o)->h'.get? (h.objs.size + 1)=some (ly C (h.objs.size + 2))->Q (.ref (h.objs.size + 1)) ⟨h',g,d,t,os⟩) :
  wpAny (model prog w) A (call (.ref C) aP) Q E ⟨h,g,d,t,os⟩:=by
 have l1:=tc_lookup;have l2:=tc_bind (.ref C);have Me:(⟨h,g,d,t,os⟩:Shared).TypeIs (.ref C) "type":=⟨_,oC,rfl⟩;refine WU (codeAny_of_tree ?_);show wpAny _ _ (callAny (.ref C) _) _ _ _
 repeat (any_goals (first|assumption|(with_reducible refine Wy oC ?_)|wp_step))
 refine⟨rfl,codeAny_call_builtin_at (Code.quiet_builtin _ (by decide +kernel)) entry_typeCall (XF oC ?_)⟩;show wpAny _ (A.under (.builtin "type.__call__" ⟨.ref C::aP,[]⟩)) (Builtin.«type.__call__» ⟨.ref C::aP,[]⟩) _ _ _
 repeat (first|(with_reducible refine Wy oC ?_)|(with_reducible refine wpAny_madeBy_exc oC ?_)|wp_step)
 refine codeAny_call_builtin_code (Code.quiet_builtin _ F.quiet) (X9 F T oC (codeAny_exc_new_subT F T oC ?_ few));show wpAny _ _ _ _ _ _;have kk:∀ b o,h.get? b=some o->((h.push (nB aP)).push (ly C h.objs.size)).get? b=some o:=fun b o e=>Ve _ (Ve _ e)
 have Ao:=kk _ _ oC;have oX:((h.push (nB aP)).push (ly C h.objs.size)).get? (h.objs.size + 1)=some { cls:=.ref C,data:=.fields #[.ref h.objs.size,.none,.none,.none,.bool false,.none] }:=by heap_get
 have DL:(Value.ref C::bm).contains (.ref C)=true:=by simp
 have T1:=T.keeps kk;unfold isInstance
 repeat (first|(with_reducible refine Wy oX ?_)|(with_reducible refine Xw Ao ?_;rw[DL])|wp_step)
 show wpAny _ _ (typeLookup (.ref C) _) _ _ _;refine lk _ _ _ _ kk ?_;refine VJ (oW (Wl (F.init.bind _) (oW (WU (codeAny_call_builtin F.init.plain F.initEntry (wpAny_check_init_subT F T1 Ao oX rfl ?_))))))
 wp_walk
 refine aO _ (fun b o hb=>?_) ?_
 ·rw[VB _ _ (V9 (V7 (Vk hb)))]
  exact Ve _ (kk b o hb)
 ·rw[VR _ (Ve _ oX) rfl]
  simp only[VI];rfl
theorem Rp (F:ExcBaseFacts B newId fX iN) (T:OwnTail h iN bm){aP:List Value}{fI:Addr}{oI:Obj}{Q:Value->Shared->Prop}
  (oC:h.get? C=some (excClassObj nm q C N bs bm hdct sn sub ab col dd k0 k1 k2 k3 k5 newId)) (lk:PySem.W.Looks (model prog w) h (typeLookup (.ref C) "__init__") (some (.ref fI))) (oF:h.get? fI=some oI) (fF:oI.cls=.type "function") (few:aP.length<=sizeLine)
  (aO:wpAny (model prog w) (A.under (.builtin "type.__call__" ⟨.ref C::aP,[]⟩)) (call (.ref fI) (.ref (h.objs.size + 1)::aP)) (fun r s'=>r=.none/\Q (.ref (h.objs.size + 1)) s') E ⟨(h.push (nB aP)).push (ly C h.objs.size),g,d,t,os⟩) :
  wpAny (model prog w) A (call (.ref C) aP) Q E ⟨h,g,d,t,os⟩:=by
 have l1:=tc_lookup;have l2:=tc_bind (.ref C);have Me:(⟨h,g,d,t,os⟩:Shared).TypeIs (.ref C) "type":=⟨_,oC,rfl⟩;refine WU (codeAny_of_tree ?_);show wpAny _ _ (callAny (.ref C) _) _ _ _
 repeat (any_goals (first|assumption|(with_reducible refine Wy oC ?_)|wp_step))
 refine⟨rfl,codeAny_call_builtin_at (Code.quiet_builtin _ (by decide +kernel)) entry_typeCall (XF oC ?_)⟩;show wpAny _ (A.under (.builtin "type.__call__" ⟨.ref C::aP,[]⟩)) (Builtin.«type.__call__» ⟨.ref C::aP,[]⟩) _ _ _
 repeat (first|(with_reducible refine Wy oC ?_)|(with_reducible refine wpAny_madeBy_exc oC ?_)|wp_step)
 refine codeAny_call_builtin_code (Code.quiet_builtin _ F.quiet) (X9 F T oC (codeAny_exc_new_subT F T oC ?_ few));show wpAny _ _ _ _ _ _;have kk:∀ b o,h.get? b=some o->((h.push (nB aP)).push (ly C h.objs.size)).get? b=some o:=fun b o e=>Ve _ (Ve _ e)
 have Ao:=kk _ _ oC;have M0:=kk _ _ oF;have oX:((h.push (nB aP)).push (ly C h.objs.size)).get? (h.objs.size + 1)=some { cls:=.ref C,data:=.fields #[.ref h.objs.size,.none,.none,.none,.bool false,.none] }:=by heap_get
 have DL:(Value.ref C::bm).contains (.ref C)=true:=by simp
 unfold isInstance
 repeat (first|(with_reducible refine Wy oX ?_)|(with_reducible refine Xw Ao ?_;rw[DL])|wp_step)
 show wpAny _ _ (typeLookup (.ref C) _) _ _ _;refine lk _ _ _ _ kk ?_;refine VJ (oW ?_);unfold bindSpecial;refine oW (W6 (T:="function") ⟨_,M0,fF⟩ ?_);rw[if_pos (by decide)];refine Vi (oW (V0 aO (fun r s' z=>?_) fun _ _ x=>x));obtain⟨rfl,z⟩:=z
 wp_walk
 exact z
theorem Rl {M:Model}{env:Env}{s:Shared}{x:Sem Value}{Q:Flow->Shared->Prop} (hb:bm.contains (.type "BaseException")=true)
  (hx:wpAny M A x (fun v s₁=>∃ e t dx,v=.ref e/\s₁.heap.get? C=some (excClassObj nm q C N bs bm hdct sn sub ab col dd k0 k1 k2 k3 k5 newId)/\s₁.heap.get? e=some { cls:=.ref C,dict:=dx,data:=.fields #[.ref t,.none,.none,.none,.bool false,.none] }/\wpAny M A (raiseNew (.ref e):Sem Flow) Q E s₁) E s) :
  wpAny M A (raiseStmt env (some x) none) Q E s:=by
 have Nl:(Value.ref C::bm).contains (.type "BaseException")=true:=by rw[Yh,hb,Yi]
 unfold raiseStmt;refine oW (V0 hx (fun v s₁ z=>?_) fun _ _ y=>y);obtain⟨e,t,dx,rfl,oC,oe,z⟩:=z;obtain⟨hp,g,d,tk,os⟩:=s₁
 repeat (first|exact z|(with_reducible refine Wy oe ?_)|(with_reducible refine Wy oC ?_)|(with_reducible refine Xw oC ?_;rw[Nl])|wp_step)
end
def pY (K:PySem.W.Frag) (C:Addr) (iN:List Value) (newId:String):Bool:=match K.lookup C with
 | some ⟨.type "type",_,.cls cd,sl⟩=>(match cd.mro,sl.toList with
  | .ref C1::bm,[_,_,_,_,some (.builtin n),_]=>C1 == C && n == newId && !cd.hasDel && PySem.W.tailIn K iN bm
  | _,_=>false)
 | _=>false
structure XCls (h:Heap) (C:Addr) (iN bm:List Value) (newId:String):Prop where
 obj:∃ nm q N bs hdct sn sub ab col dd k0 k1 k2 k3 k5,h.get? C=some (excClassObj nm q C N bs bm hdct sn sub ab col dd k0 k1 k2 k3 k5 newId)
 tail:OwnTail h iN bm
theorem zJ {K:PySem.W.Frag}{h:Heap}{C:Addr}{iN:List Value}{newId:String} (X:K.In h) (e:pY K C iN newId=true):∃ bm,XCls h C iN bm newId:=by
 unfold pY at e;split at e
 ·rename_i d1 c1 s1 at1
  split at e
  ·rename_i C1 bm j0 j1 j2 j3 n1 j5 m1 z1
   simp only[VT,beq_iff_eq,Bool.not_eq_true'] at e
   obtain⟨⟨⟨rfl,rfl⟩,nd⟩,tl⟩:=e;obtain⟨f1,f2,f3,f4,f5,f6,f7,f8,f9,OZ,UL⟩:=c1;dsimp only at m1 nd;subst m1 nd;obtain rfl:s1=#[j0,j1,j2,j3,some (.builtin n1),j5]:=by
    obtain⟨l1⟩:=s1;simp only at z1
    rw[z1]
   exact⟨bm,⟨f1,f5,f4,f2,f6,f7,f8,f9,OZ,d1,j0,j1,j2,j3,j5,X _ _ at1⟩,PySem.W.tail_of_in X tl⟩
  ·cases e
 ·cases e
end L2
namespace L2
open PySem PySem.Spec PyProof.Rows PySem.Builtin.ObjectAttr
abbrev bmV:List Value:=[.type "ValueError",.type "Exception",.type "BaseException",.type "object"]
theorem passV (self:Value):refuseLoop self "__setattr__" bmV=pure ():=by kernel_rfl
def rF:List Value->Bool
 | .ref _::r=>rF r
 | l=>l == bmV
theorem LP (self:Value):∀ {l:List Value},rF l=true->refuseLoop self "__setattr__" l=pure ()
 | .ref c::r,e=>by rw[refuseLoop_ref];exact LP self (l:=r) (by simpa [rF] using e)
 | [],e=>by cases e
 | .type n::r,e=>by rw[beq_iff_eq.mp (show((Value.type n::r) == bmV)=true from e)];exact passV self
 | .none::r,e=>by cases e
 | .bool _::r,e=>by cases e
 | .int _ _::r,e=>by cases e
 | .str _ _::r,e=>by cases e
 | .bytes _ _::r,e=>by cases e
 | .float _ _::r,e=>by cases e
 | .builtin _::r,e=>by cases e
 | .notImplemented::r,e=>by cases e
 | .ellipsis::r,e=>by cases e
theorem JD:∀ {l:List Value},rF l=true->l.contains (.type "object")=true
 | .ref c::r,e=>by rw[Yh,JD (l:=r) (by simpa [rF] using e),Yi]
 | [],e=>by cases e
 | .type n::r,e=>by rw[beq_iff_eq.mp (show((Value.type n::r) == bmV)=true from e)];rfl
 | .none::r,e=>by cases e
 | .bool _::r,e=>by cases e
 | .int _ _::r,e=>by cases e
 | .str _ _::r,e=>by cases e
 | .bytes _ _::r,e=>by cases e
 | .float _ _::r,e=>by cases e
 | .builtin _::r,e=>by cases e
 | .notImplemented::r,e=>by cases e
 | .ellipsis::r,e=>by cases e
def LD (K:PySem.W.Frag) (C:Addr):Bool:=(PySem.W.clsIn K C).any fun cd=>rF cd.mro
structure XSet (K:PySem.W.Frag) (C:Addr) (f:Str):Prop where
 sa:PySem.W.findIn K (.ref C) "__setattr__"=some (some (.builtin "object.__setattr__"))
 ov:LD K C=true
 tk:PySem.W.takerIn K C f=some none
 hd:PySem.W.hasDictIn K C=true
section
variable {prog:Program}{w:World}{A:Around}{E:Value->Shared->Prop}{s:Shared}{K:PySem.W.Frag}{C x:Addr}{name:Str}{v:Value}{vs:Array Value}
theorem Su {Q:Unit->Shared->Prop} (X:K.In s.heap) (hx:s.heap.get? x=some { cls:=.ref C,data:=.fields vs }) (Z:XSet K C name)
  (aO:∀ h',(∀ b o,b≠x->s.heap.get? b=some o->h'.get? b=some o)->h'.get? x=some { cls:=.ref C,dict:=some s.heap.objs.size,data:=.fields vs } ->
   h'.Ns1 s.heap.objs.size (fun y=>if y=name then some v else none)->Q () { s with heap:=h',toks:=s.toks + 2 }):wpAny (model prog w) A (setAttr (.ref x) name v) Q E s:=by
 have J:PySem.W.InstAt s.heap x { cls:=.ref C,data:=.fields vs } C none:=⟨hx,rfl,rfl,True.intro⟩;refine PySem.W.set_plain X J Z.sa ?_;have SF:=PySem.F.store_object;obtain⟨cd,hc,ho⟩:=PySem.W.any_some Z.ov;have ne:cd.mro.isEmpty=false:=by cases q:cd.mro with|nil=>rw[q] at ho;cases ho|cons _ _=>rfl
 have L9:PySem.W.Looks (model prog w) s.heap (isInstance (.ref x) (.type "object")) true:=J.type.andThen (PySem.W.looks_mroIn X (by unfold PySem.W.mroIn;rw[hc,Option.bind_some,if_neg (by rw[ne];decide),JD ho]));refine codeAny_call_builtin SF.slot.plain SF.entry (@PySem.W.check_slot (model prog w) _ _ { s with toks:=s.toks + 1 } "object.__setattr__" "object" "__setattr__" (.ref x) [.str name s.toks,v] [] _ SF.kind SF.split L9 (SF.args (.ref x) (.str name s.toks) v) ?_);obtain⟨wC,ha,hr⟩:=Option.bind_eq_some_iff.mp Z.tk;have mr:PySem.W.Looks (model prog w) s.heap (mroOf (.ref C)) cd.mro:=(PySem.W.looks_clsIn X hc).andThen .now;have tk:PySem.W.Looks (model prog w) s.heap (storeTaker? wC) none:=by
  cases wC with
  | none=>cases hr;exact .now
  | some a=>
   obtain⟨b,hb,z⟩:=Option.map_eq_some_iff.mp hr;refine(PySem.W.looks_takesIn X hb).andThen ?_;cases b with
   | true=>cases z
   | false=>exact .now
 rw[PySem.W.osa_eq,refuse_eq];refine oW (oW (PySem.W.Looks.here (s:={ s with toks:=s.toks + 1 }) J.type (oW (PySem.W.Looks.here (s:={ s with toks:=s.toks + 1 }) mr ?_))));rw[LP _ ho];refine Vi (oW (PySem.W.Looks.here (s:={ s with toks:=s.toks + 1 }) J.type (oW (PySem.W.Looks.here (s:={ s with toks:=s.toks + 1 }) (PySem.W.looks_findIn X ha) (oW (PySem.W.Looks.here (s:={ s with toks:=s.toks + 1 }) tk ?_))))));obtain⟨UR,kB,cH⟩:=PySem.W.any_some Z.hd;refine oW (Vi (oW (oW (wpAny_loadPart hx (oW (PySem.W.Looks.here (s:={ s with toks:=s.toks + 1 }) (PySem.W.looks_clsIn X kB) ?_))))));rw[cH];have lt:=Vk hx;have xs:x≠s.heap.objs.size:=Vq lt;have kE:(s.heap.push { cls:=.type "dict",data:=.dict #[] }).get? x=some { cls:=.ref C,data:=.fields vs }:=Ve _ hx;refine oW (wpAny_alloc' (oW (wpAny_update' kE (Vi (oW (Vi (oW ?_)))))));generalize hG:(s.heap.push { cls:=.type "dict",data:=.dict #[] }).update x (fun o=>{ cls:=o.cls,dict:=some s.heap.objs.size,data:=o.data,slots:=o.slots })=G;have jM:∀ b,b≠x->G.get? b=(s.heap.push { cls:=.type "dict",data:=.dict #[] }).get? b:=fun b hb=>by rw[<- hG];exact VB _ _ (Ne.symm hb)
 have gd:G.get? s.heap.objs.size=some { cls:=.type "dict",data:=.dict #[] }:=(jM _ (Ne.symm xs)).trans (Vm _ rfl);have gx:G.get? x=some { cls:=.ref C,dict:=some s.heap.objs.size,data:=.fields vs }:=by rw[<- hG,VR _ kE rfl]
 have n0:G.Ns s.heap.objs.size (fun _=>none):=⟨_,#[],_,gd,rfl,fun e he=>absurd he (by simp),fun _=>rfl⟩;refine wpAny_nsSet1 (s:=⟨G,s.gens,s.drawn,s.toks + 1,s.os⟩) (Ym n0) fun h' oQ et=>?_
 obtain⟨oD,OJ,MD,DA,EF,CT⟩:=oQ.count (ns:=[name]) (fun y hy=>by
  split at hy
  ·rename_i z;simp[z]
  ·exact absurd rfl hy)
 refine oW (wpAny_lookBehind DA (by rw[EF];exact pastItsLine_dict (VL CT (by simp[Vo]))) ?_);refine Vi (aO h' (fun b o hb q=>?_) ((et.2 _ xs).trans gx) oQ);exact(et.2 b (Vq (Vk q))).trans ((jM b hb).trans (Ve _ q))
end
structure XGet (K:PySem.W.Frag) (C:Addr) (f:Str):Prop where
 ga:PySem.W.findIn K (.ref C) "__getattribute__"=some (some (.builtin "BaseException.__getattribute__"))
 gt:PySem.W.findIn K (.ref C) "__getattr__"=some none
 ba:PySem.W.mroIn K C (.type "BaseException")=some true
 na:PySem.W.findIn K (.ref C) f=some none
 hd:PySem.W.hasDictIn K C=true
section
variable {prog:Program}{w:World}{A:Around}{E:Value->Shared->Prop}{s:Shared}{K:PySem.W.Frag}{C x dx:Addr}{name:Str}{v:Value}{o:Obj}{mA:Str->Option Value}
end
end L2
namespace L2
open PySem PySem.Spec PyProof.Rows
def del (H:Hp) (a:Addr):Hp:=fun b=>if b=a then none else H b
theorem Jv {H:Hp}{a:Addr}:del H a a=none:=by unfold del;rw[if_pos rfl]
theorem pW {H:Hp}{a b:Addr} (h:b≠a):del H a b=H b:=by unfold del;rw[if_neg h]
def kc (C t a:Addr) (dx:Option Addr):HO:=.ext fun h=>h.get? a=some { cls:=.ref C,dict:=dx,data:=.fields #[.ref t,.none,.none,.none,.bool false,.none] }
section
variable {X:Cx}{aa:List (Addr×Obj)}{σ:St}{H:Hp}{s:Shared}
theorem Inv.del {a:Addr}{φ:Heap->Prop} (I:Inv X aa σ H s) (e:H a=some (.ext φ)):Inv X aa σ (del H a) s:=by
 have ne:∀ b u,H b=some u->(∀ ψ,u≠.ext ψ)->b≠a:=fun b u q n z=>by rw[z,e] at q;cases q;exact n _ rfl
 have un:Un X.fs X.ex X.H₀ (L2.del H a) X.s₀.heap s.heap:=by
  obtain⟨b1,b2,b3,b4,b5,b6,b7⟩:=I.base;refine⟨b1,b2,fun b o q n x=>?_,b4,fun b xs q=>?_,fun b o u q=>?_,fun b pp pq q=>?_⟩
  ·unfold L2.del;split
   ·rfl
   ·exact b3 b o q n x
  ·have:=b5 b xs q
   rw[pW (ne b _ this (by intro ψ z;cases z))];exact this
  ·have:=b6 b o u q
   rw[pW (ne b _ this (by intro ψ z;cases z))];exact this
  ·have:=b7 b pp pq q
   rw[pW (ne b _ this (by intro ψ z;cases z))];exact this
 have none_of:∀ b,H b=none->L2.del H a b=none:=fun b q=>by unfold L2.del;split <;> first|rfl|exact q
 refine { I with base:=un,free:=none_of _ I.free,freeC:=fun x c q=>none_of _ (I.freeC x c q),pin:=fun p hp=>?_,hok:=fun b o q=>?_ }
 ·obtain⟨p1,p2,p3⟩:=I.pin p hp
  exact⟨p1,none_of _ p2,p3⟩
 ·by_cases hb:b=a
  ·subst hb;rw[Jv] at q;cases q
  ·rw[pW hb] at q
   refine(I.hok b o q).stay (fun c u _ r=>r) (fun c r=>?_) (fun c xs r=>?_) fun c ob r=>?_
   ·rw[pW (ne c _ r (by intro ψ z;cases z))];exact r
   ·rw[pW (ne c _ r (by intro ψ z;cases z))];exact r
   ·rw[pW (ne c _ r (by intro ψ z;cases z))];exact r
theorem KS {R:RK}{C t a:Addr}{dx:Option Addr}{Q:Flow->Shared->Prop} (hp:PX X R) (I:Inv X aa σ H s) (fp:bC X aa H a)
  (he:s.heap.get? a=some { cls:=.ref C,dict:=dx,data:=.fields #[.ref t,.none,.none,.none,.bool false,.none] }) (hR:R σ (.ref C) dx H):wpAny (model X.prog X.w) X.A (raiseNew (.ref a):Sem Flow) Q X.xe s:=by
 obtain⟨f0,f1,f2,f3,f4,f5⟩:=id fp;refine Gm (s:=s) ?_ he rfl (by simp) fun h' o' lX k1 k2 k3 k4 k5 k6 k7 k8=>?_
 ·rcases I.hdAt with z|⟨b,cs,z,c⟩
  ·exact .inl z
  ·exact .inr ⟨b,cs,z,c.chn I.hok,c.not_mem f0⟩
 ·have I':Inv X aa σ H { s with heap:=h' }:=I.turned (t':=s.toks) k1 f0 f1 f3 f4 f5
  refine hp aa σ H _ a (.ref C) dx none I' ⟨fp,fun p q=>(by cases q),⟨⟨o',lX,k2,k3,k4,k5,k6,?_,?_⟩,fun p q=>(by cases q)⟩⟩ hR
  ·rcases I.hdAt with z|⟨b,cs,z,c⟩
   ·rw[z] at k8
    exact⟨[],⟨Wr,fun j a q=>by simp at q⟩,k8⟩
   ·rw[z] at k8
    exact⟨b::cs,c,k8⟩
  ·exact k7
end
structure XC0 (K:PySem.W.Frag) (C:Addr):Prop where
 at_:pY K C bmV "ValueError.__new__"=true
 kp:PySem.W.keepIn K (.ref C)=true
 init:PySem.W.findIn K (.ref C) "__init__"=some (some (.builtin "ValueError.__init__"))
structure XCI (K:PySem.W.Frag) (C f:Addr):Prop where
 at_:pY K C bmV "ValueError.__new__"=true
 kp:PySem.W.keepIn K (.ref C)=true
 init:PySem.W.findIn K (.ref C) "__init__"=some (some (.ref f))
 fn:PySem.W.isFn K (.ref f)=true
def Tb (C:Addr) (R:RK) (t:TA):TS:=fun _ σ H=>t σ H fun vs H1=>vs.length<=sizeLine/\R σ (.ref C) none H1
def KO (C:Addr) (sp:Sp) (aS:List V) (R:RK) (t:TA):TS:=fun _ σ H=>t σ H fun vs H1=>vs.length<=sizeLine/\∀ a t',H1 a=none ->
 sp (.ref a::(vs++aS)) (upd H1 a (kc C t' a none)) (fun v H2=>v=.non/\∃ dx,H2 a=some (kc C t' a dx)/\R σ (.ref C) dx (del H2 a)) (R σ)
section
variable {X:Cx}{R:RK}{C:Addr}{x:Str}{np az pos:Pos}{e:Expr}{es:List Expr}{t:TA}
theorem Jw {a:List Expr}{s:Shared}{bm:List Value}{Q:Flow->Shared->Prop} (hx:XCls s.heap C bmV bm "ValueError.__new__")
  (h:wpAny (model X.prog X.w) X.A (eval (.Call (.Name x np) a [] az) X.env) (fun v s₁=>∃ b t dx,v=.ref b/\(∀ o,s.heap.get? C=some o->s₁.heap.get? C=some o)/\s₁.heap.get? b=some { cls:=.ref C,dict:=dx,data:=.fields #[.ref t,.none,.none,.none,.bool false,.none] }/\wpAny (model X.prog X.w) X.A (raiseNew (.ref b):Sem Flow) Q X.xe s₁) X.xe s) :
  wpAny (model X.prog X.w) X.A (exec (.Raise (some (.Call (.Name x np) a [] az)) none pos) X.env) Q X.xe s:=by
 obtain⟨⟨nm,q,N,bs,hdct,sn,sub,ab,col,dd,k0,k1,k2,k3,k5,oC⟩,T⟩:=hx;rw[arm_exec_Raise];refine oW (W2 (Rl (C:=C) (nm:=nm) (q:=q) (N:=N) (bs:=bs) (bm:=bm) (hdct:=hdct) (sn:=sn) (sub:=sub) (ab:=ab) (col:=col) (dd:=dd) (k0:=k0) (k1:=k1) (k2:=k2) (k3:=k3) (k5:=k5) (newId:="ValueError.__new__") (T.hasType rfl) (oW (V0 h (fun v s1 z=>oW (W2 (Vi ?_))) fun _ _ y=>y))));obtain⟨b,t,dx,z1,z2,z3,z4⟩:=z;exact⟨b,t,dx,z1,z2 _ oC,z3,z4⟩
theorem Rn {aa:List (Addr×Obj)}{σ:St}{H:Hp}{s0 s:Shared}{us:List Value}{Q:Flow->Shared->Prop} (hp:PX X R) (c:XC0 X.K C) (I:Inv X aa σ H s) (hz:us.length<=sizeLine) (hs:∀ o,s0.heap.get? C=some o->s.heap.get? C=some o) (hR:R σ (.ref C) none H) :
  wpAny (model X.prog X.w) X.A (call (.ref C) us) (fun v s₁=>∃ b t dx,v=.ref b/\(∀ o,s0.heap.get? C=some o->s₁.heap.get? C=some o)/\s₁.heap.get? b=some { cls:=.ref C,dict:=dx,data:=.fields #[.ref t,.none,.none,.none,.bool false,.none] }/\wpAny (model X.prog X.w) X.A (raiseNew (.ref b):Sem Flow) Q X.xe s₁) X.xe s:=by
 obtain⟨bm,⟨nm,q,N,bs,hdct,sn,sub,ab,col,dd,k0,k1,k2,k3,k5,oC⟩,T⟩:=zJ I.kIn c.at_;have I0:=I;obtain⟨h,g,d,tk,os⟩:=s;refine Ub PySem.F.excBase_ValueError T oC (PySem.W.looks_findIn I.kIn c.init) hz fun h' k' e'=>?_
 have I':Inv X aa σ H ⟨h',g,d,tk,os⟩:=I0.kept (t':=tk) k';refine⟨_,_,none,rfl,fun o q=>k' _ _ (hs o q),e',KS hp I' ?_ e' hR⟩;exact I0.fpOk (s:=⟨h,g,d,tk,os⟩) (V8 _) (I0.hok.fresh (V8 _))
theorem FT (hp:PX X R) (c:XC0 X.K C) (hg:Gl X x) (hm:X.mg x=some (.ref C)) (dk:(x == ("__debug__":Str))=false:=by decide):PS X (.Raise (some (.Call (.Name x np) [] [] az)) none pos) (Tb C R tNil):=by
 intro aa s σ H D I h;obtain⟨bm,xc⟩:=zJ I.kIn c.at_;refine Jw xc (V3 (rL I hg hm ?_ dk));exact PySem.W.callWith_K0 I.kIn c.kp (Rn hp c I h.1 (fun _ q=>q) h.2)
variable {CX:CXT}{k:Nat}{f:Addr}{fd:FuncData}{ps:List Str}{sp:Sp}{aS:List V}{ds:List Value}
theorem Q0 (hp:PX X R) (c:XCI X.K C f) (F:cD X.prog X.w X.K X.mg X.base CX k f fd ps sp) (hr:bn (k + 1) X.A) (hb:eU X.K fd ps ds) (hd:aw aS ds) (EN:∀ σ,qd CX X (R σ)) (hg:Gl X x) (hm:X.mg x=some (.ref C)) (ha:PA X (e::es) t)
  (dk:(x == ("__debug__":Str))=false:=by decide) (he:starEach (e::es) X.env=(false,eval e X.env)::starEach es X.env:=by rfl) (bX:(backTo az (starEach es X.env)).any (·.1)=false:=by rfl) :
  PS X (.Raise (some (.Call (.Name x np) (e::es) [] az)) none pos) (KO C sp aS R t):=by
 intro aa s σ H D I h;obtain⟨UC,xc⟩:=zJ I.kIn c.at_;refine Jw xc (V3 (rL I hg hm ?_ dk));refine PySem.W.callWith_K (h₀:=X.base) I.ok.mod.kin c.kp (thn (ha az aa s σ H _ I h) fun us s1 ⟨vs,H1,I1,r,z,q⟩=>⟨I1.kIn,?_⟩) he bX;obtain⟨Uo,⟨Uv,q2,N2,UI,GY,Ux,Py,Ur,Mr,UB,l0,l1,l2,l3,l5,HW⟩,_⟩:=zJ I.ok.mod.kin c.at_;have C0:∀ o,s.heap.get? C=some o->X.base.get? C=some o:=fun o q=>by rw[I.bk _ _ HW] at q;rw[<- q];exact HW
 obtain⟨bm,⟨nm,qn,N,bs,hdct,sn,sub,ab,col,dd,k0,k1,k2,k3,k5,oC⟩,T⟩:=zJ I1.kIn c.at_;have Ae:(X.K.lookup f).map (·.cls)=some (.type "function"):=beq_iff_eq.mp c.fn;obtain⟨oF,hF,hFc⟩:∃ oF,X.K.lookup f=some oF/\oF.cls=.type "function":=by
  cases hk:X.K.lookup f with
  | none=>rw[hk] at Ae;cases Ae
  | some oF=>rw[hk] at Ae;exact⟨oF,rfl,Option.some.inj Ae⟩
 have hz:us.length<=sizeLine:=by rw[<- r.length];exact z
 have J:=I1;obtain⟨cR,g,d,tk,os⟩:=s1;refine Rp PySem.F.excBase_ValueError T oC (PySem.W.looks_findIn I1.kIn c.init) (I1.kIn _ _ hF) hFc hz ?_;have kk:∀ b o,cR.get? b=some o->((cR.push (nB us)).push (ly C cR.objs.size)).get? b=some o:=fun b o e=>Ve _ (Ve _ e)
 have oX:((cR.push (nB us)).push (ly C cR.objs.size)).get? (cR.objs.size + 1)=some { cls:=.ref C,data:=.fields #[.ref cR.objs.size,.none,.none,.none,.bool false,.none] }:=by heap_get
 have fr:H1 (cR.objs.size + 1)=none:=J.hok.fresh (V8 _);have I2:Inv X aa σ (upd H1 (cR.objs.size + 1) (kc C cR.objs.size (cR.objs.size + 1) none)) ⟨(cR.push (nB us)).push (ly C cR.objs.size),g,d,tk,os⟩:=
  J.laid (t':=tk) kk (V8 _) ⟨oX,⟨_,oX⟩,fun h1 h2 p1 p2=>p2 _ p1⟩
 have q':=q (cR.objs.size + 1) cR.objs.size fr;have r2:aw (V.ref (cR.objs.size + 1)::(vs++aS)) (Value.ref (cR.objs.size + 1)::(us++ds)):=.cons rfl (r.append hd);have hl:(Value.ref (cR.objs.size + 1)::us++ds).length=ps.length:=by
  have e:=r2.length;rw[F.len _ _ _ _ q'] at e;exact e.symm
 refine WU (codeAny_mono (F.run _ X.stack _ _ ⟨Value.ref (cR.objs.size + 1)::us,[]⟩ (Value.ref (cR.objs.size + 1)::(us++ds)) _ _ (R σ) (hr.make C us []) (I2.env0.make C us []) (hb _ (Value.ref (cR.objs.size + 1)::us) I2.kIn hl) r2 q') fun rr s' d0=>?_);cases rr with
 | error e=>exact EN σ aa σ _ _ e s' I2 d0
 | ok fl=>
  cases fl with
  | ret u=>
   obtain⟨v,H',I3,rv,ev,dx,e3,q3⟩:=I2.after d0;subst ev;refine⟨rv,_,cR.objs.size,dx,rfl,fun o q=>I3.bk _ _ (C0 o q),(I3.hok _ _ e3).1,?_⟩;refine KS hp (I3.del e3) ?_ (I3.hok _ _ e3).1 q3;exact J.fpOk (s:=⟨cR,g,d,tk,os⟩) (V8 _) Jv
  | next=>exact False.elim d0
  | brk=>exact False.elim d0
  | cont=>exact False.elim d0
def sFldX (K:PySem.W.Frag) (ta tv:TE) (f:Str):TS:=fun D σ H=>tv σ H fun y H1=>ta σ H1 fun x H2=>∃ a C t,x=.ref a/\H2 a=some (kc C t a none)/\XSet K C f /\
 ∀ dx,H2 dx=none->D.nx σ (upd (upd H2 dx (.xd [(f,y)])) a (kc C t a (some dx)))
theorem Te {o value:Expr}{ta tv:TE}{f:Str}{aW:Pos} (ha:PE X o ta) (hv:PE X value tv) (hs:swapsWith value (some (.Attribute o f aW)) pos.line X.env=pure false):PS X (.Assign [.Attribute o f aW] value pos) (sFldX X.K ta tv f):=by
 intro aa s σ H D I h;refine plainObj_wpAny_Assign_Attribute (thn (hv aa s σ H _ I h) fun v s1=>L2.ex5 fun y H1 I1 ry q1=>thn (ha aa s1 σ H1 _ I1 q1) fun u s2=>L2.ex5 fun x H2 I2 rx q2=>?_) hs;obtain⟨a,C,t,rfl,e2,Z,q2⟩:=q2;obtain rfl:u=Value.ref a:=rx;have oa:=(I2.hok _ _ e2).1;refine Su I2.kIn oa Z fun h' k1 k2 k3=>?_
 have dn:H2 s2.heap.objs.size=none:=I2.hok.fresh (Vh _);have da:s2.heap.objs.size≠a:=(ap e2 dn).symm;have old:∀ b o,s2.heap.get? b=some o->b≠s2.heap.objs.size:=fun b o q=>Vq (Vk q)
 have na:∀ b u,H2 b=some u->(∀ ψ,u≠.ext ψ)->b≠a:=fun b u q n z=>by rw[z,e2] at q;cases q;exact n _ rfl
 have nd:∀ b u,H2 b=some u->b≠s2.heap.objs.size:=fun b u q=>ap q dn
 have dG:∀ b u,H2 b=some u->(∀ ψ,u≠.ext ψ)->upd (upd H2 s2.heap.objs.size (.xd [(f,y)])) a (kc C t a (some s2.heap.objs.size)) b=some u:=fun b u q n=>by rw[aj (na b u q n),aj (nd b u q)];exact q
 refine⟨σ,_,I2.un (t':=s2.toks + 2) ⟨fun b o q n _ _=>k1 b o (fun z=>?_) q,fun b o q n _ _=>⟨o.slots,k1 b o (fun z=>?_) q⟩,fun b o q n _=>?_,fun b o q _=>?_,fun b xs q=>?_,fun b o u q=>?_,fun b pp pq q=>?_⟩ (fun b o q=>?_),q2 _ dn⟩
 ·rw[z,e2] at n;cases n
 ·rw[z,e2] at n;cases n
 ·rw[aj (fun z=>by rw[z,e2] at n;cases n),aj (old b o q)];exact n
 ·by_cases z:b=a
  ·subst z;exact⟨_,k2⟩
  ·exact⟨o,k1 b o z q⟩
 ·exact dG b _ q (by intro ψ z;cases z)
 ·exact dG b _ q (by intro ψ z;cases z)
 ·exact dG b _ q (by intro ψ z;cases z)
 ·by_cases z:b=a
  ·subst z
   rw[af] at q;cases q
   exact⟨k2,⟨_,k2⟩,fun h1 h2 p1 p2=>p2 _ p1⟩
  ·rw[aj z] at q
   by_cases z2:b=s2.heap.objs.size
   ·subst z2
    rw[af] at q;cases q
    refine⟨_,k3,fun g=>?_⟩;by_cases hg:g=f
    ·subst hg;simpa [dJ] using ry
    ·have e0:([(f,y)]:List (Str×V)).lookup g=none:=by rw[Wp,show(g == f)=false from by simpa using hg];rfl
     rw[e0,if_neg hg];exact True.intro
   ·rw[aj z2] at q
    refine(I2.hok b o q).stay (fun c u hc r=>k1 c u ?_ r) (fun c r=>dG c _ r (by intro ψ z;cases z)) (fun c xs r=>dG c _ r (by intro ψ z;cases z)) fun c ob r=>dG c _ r (by intro ψ z;cases z)
    rcases hc with hc|hc
    ·rw[hc];exact z
    ·exact na c _ hc (by intro ψ z;cases z)
end
end L2
namespace L2
open PySem PySem.Spec PyProof.Rows PySem.Builtin.ObjectAttr
structure XIs (K:PySem.W.Frag) (C:Addr):Prop where
 ga:PySem.W.findIn K (.ref C) "__getattribute__"=some (some (.builtin "BaseException.__getattribute__"))
 gt:PySem.W.findIn K (.ref C) "__getattr__"=some none
 ba:PySem.W.mroIn K C (.type "BaseException")=some true
 ob:PySem.W.mroIn K C (.type "object")=some true
 cl:PySem.W.findIn K (.ref C) "__class__"=some (some (.builtin "object.__class__"))
 gs:PySem.W.specialIn K (.builtin "object.__class__") "__get__"=some (some (.builtin "getset_descriptor.__get__"))
 tk:PySem.W.takesIn K (.builtin "object.__class__")=some true
 hd:PySem.W.hasDictIn K C=true
section
variable {prog:Program}{w:World}{A:Around}{E:Value->Shared->Prop}{s:Shared}{K:PySem.W.Frag}{C x:Addr}{ox:Obj}{od:Option Obj}
end
structure IsX (H:Hp) (a C:Addr) (dd:Option Addr):Prop where
 at_:∃ o u,H a=some (.frz o u)/\o.cls=.ref C/\o.dict=dd/\∃ vs,o.data=.fields vs
section
variable {X:Cx}
end
end L2
namespace L2
open PySem PySem.Spec PyProof.Rows
abbrev Cx.tr (X:Cx) (pn:List (Addr×Obj)) (E:Value->Shared->Prop):Cx:={ X with pn:=pn,xe:=E }
abbrev Cx.hnd (X:Cx) (a:Addr) (H₀:Hp):Cx:={ X with A:=X.A.mark (some (.ref a)),H₀:=H₀,xe:=fun _ _=>False }
section
variable {X:Cx}{aa:List (Addr×Obj)}{σ:St}{H:Hp}{s:Shared}{a:Addr}{c:Value}{dd:Option Addr}{tb:Option (Addr×Value)}
end
abbrev Hd1:=Addr×Option Nat×TS
def gL.as (D:gL) (i:Nat):gL:=⟨fun σ H=>D.nx (σ.set i none) H,D.rt,fun σ H=>D.bk (σ.set i none) H,fun σ H=>D.ct (σ.set i none) H⟩
inductive PHs (X:Cx):List ExceptHandler->List Hd1->Prop where
 | nil:PHs X [] []
 | one {x:Str}{np pos:Pos}{b₀:Stmt}{su:List Stmt}{D:Addr}{t:TS}{hs:List ExceptHandler}{ts:List Hd1} (hg:Gl X x) (hm:X.mg x=some (.ref D)) (hB:PySem.W.mroIn X.K D (.type "BaseException")=some true) (hT:PySem.W.typeIn X.K (.ref D)=some (.type "type"))
   (dk:(x == ("__debug__":Str))=false) (hb:∀ a H₀,PSs (X.hnd a H₀) (b₀::su) t) (r:PHs X hs ts):PHs X (.ExceptHandler (some (.Name x np)) none (b₀::su) pos::hs) ((D,none,t)::ts)
 | as_ {x n:Str}{i:Nat}{np pos:Pos}{b₀:Stmt}{su:List Stmt}{D:Addr}{t:TS}{hs:List ExceptHandler}{ts:List Hd1} (hg:Gl X x) (hm:X.mg x=some (.ref D)) (hB:PySem.W.mroIn X.K D (.type "BaseException")=some true) (hT:PySem.W.typeIn X.K (.ref D)=some (.type "type"))
   (dk:(x == ("__debug__":Str))=false) (hN:X.N.Nodup) (hi:X.N[i]?=some n) (hk:X.env.kindOf n=some .local) (hb:∀ a H₀,PSs (X.hnd a H₀) (b₀::su) t) (r:PHs X hs ts):PHs X (.ExceptHandler (some (.Name x np)) (some n) (b₀::su) pos::hs) ((D,some i,t)::ts)
section
variable {X:Cx}
end
end L2
namespace L2
open PySem PySem.Spec PyProof.Rows
structure eY (K:PySem.W.Frag) (x qual:Str) (st:Stmt) (f:Addr) (fd:FuncData):Prop where
 ex:∃ (oc:Value) (od:Option Addr) (dV kV dY pm:Value) (an:Option Addr) (aJ ct:Value) (iu:Array (Option Value)),
  fd=PySem.W.fnOf x qual (br st) (bg st) (aq st) dV kV dY pm an aJ ct/\K.lookup f=some ⟨oc,od,.func fd,iu⟩/\PySem.W.codeIn K aJ qual=true
theorem bD {K:PySem.W.Frag}{x qual:Str}{st:Stmt}{f:Addr}{oc:Value}{od an:Option Addr}{iu:Array (Option Value)}{dV kV dY pm aJ ct:Value} (l:K.lookup f=some ⟨oc,od,.func (PySem.W.fnOf x qual (br st) (bg st) (aq st) dV kV dY pm an aJ ct),iu⟩)
  (c:PySem.W.codeIn K aJ qual=true):eY K x qual st f (PySem.W.fnOf x qual (br st) (bg st) (aq st) dV kV dY pm an aJ ct):=⟨⟨oc,od,dV,kV,dY,pm,an,aJ,ct,iu,rfl,l,c⟩⟩
section
variable {P:Program}{w:World}{K:PySem.W.Frag}{mg:Str->Option Value}{base:Heap}
theorem eY.ok {x qual:Str}{st:Stmt}{f:Addr}{fd:FuncData}{N ps:List Str}{k:Nat}{sp:Sp} (F:eY K x qual st f fd) (S:bo N ps (aq st)) (len:∀ vs H Q E,sp vs H Q E->vs.length=ps.length)
  (cO:∀ (aJ:Value) (A:Around) (outer:List Env) (s:Shared) (H:Hp) (vs:List V) (Q:VK) (E:XK),bn k (A.deeper (envOfC qual (aq st) s.heap.objs.size f aJ))->sp vs H Q E ->
   ∃ t,PSs (jD CX0 P w K mg base N qual (aq st) f aJ A outer s H E).nox (bg st) t/\t { nx:=fun _ H'=>Q .non H',rt:=Q } (start N vs) H):cD P w K mg base CX0 (k + 1) f fd ps sp:=by
 obtain⟨oc,od,dV,kV,dY,pm,an,aJ,ct,iu,rfl,lk,fk⟩:=F.ex;refine Gi lk fk S len fun A outer s H vs Q E hr iq=>?_
 obtain⟨t,h,q⟩:=cO aJ A outer s H vs Q E hr iq;exact⟨t,h.nox,q⟩
theorem eY.okX {x qual:Str}{st:Stmt}{f:Addr}{fd:FuncData}{N ps:List Str}{k:Nat}{sp:Sp} (F:eY K x qual st f fd) (S:bo N ps (aq st)) (len:∀ vs H Q E,sp vs H Q E->vs.length=ps.length)
  (cO:∀ (aJ:Value) (A:Around) (outer:List Env) (s:Shared) (H:Hp) (vs:List V) (Q:VK) (E:XK),bn k (A.deeper (envOfC qual (aq st) s.heap.objs.size f aJ))->sp vs H Q E ->
   ∃ t,PSs (jD (CXe P w) P w K mg base N qual (aq st) f aJ A outer s H E) (bg st) t/\t { nx:=fun _ H'=>Q .non H',rt:=Q } (start N vs) H):cD P w K mg base (CXe P w) (k + 1) f fd ps sp:=by
 obtain⟨oc,od,dV,kV,dY,pm,an,aJ,ct,iu,rfl,lk,fk⟩:=F.ex;exact Gi lk fk S len fun A outer s H vs Q E hr iq=>cO aJ A outer s H vs Q E hr iq
end
structure Def (K:PySem.W.Frag) (mg:Str->Option Value) (x:Str) (st:Stmt) (ps:List Str) (aS:List V):Prop where
 ex:∃ f fd ds,eY K x x st f fd/\mg x=some (.ref f)/\PySem.W.keepIn K (.ref f)=true/\eU K fd ps ds/\aw aS ds
structure Met (K:PySem.W.Frag) (C:Addr) (m qual:Str) (st:Stmt) (ps:List Str) (aS:List V):Prop where
 ex:∃ f fd ds,eY K m qual st f fd/\Meth K C m f/\eU K fd ps ds/\aw aS ds
structure Ini (K:PySem.W.Frag) (mg:Str->Option Value) (C:Addr) (x qual:Str) (st:Stmt) (ps:List Str):Prop where
 ex:∃ f fd,eY K "__init__" qual st f fd/\Mk K C f/\mg x=some (.ref C)/\eU K fd ps []
structure XIni (K:PySem.W.Frag) (mg:Str->Option Value) (C:Addr) (x qual:Str) (st:Stmt) (ps:List Str):Prop where
 ex:∃ f fd,eY K "__init__" qual st f fd/\XCI K C f/\mg x=some (.ref C)/\eU K fd ps []
structure Cal (P:Program) (w:World) (K:PySem.W.Frag) (mg:Str->Option Value) (base:Heap) (CX:CXT) (k:Nat) (x:Str) (ps:List Str) (aS:List V) (sp:Sp):Prop where
 ex:∃ f fd ds,cD P w K mg base CX k f fd ps sp/\mg x=some (.ref f)/\PySem.W.keepIn K (.ref f)=true/\eU K fd ps ds/\aw aS ds
structure CalM (P:Program) (w:World) (K:PySem.W.Frag) (mg:Str->Option Value) (base:Heap) (CX:CXT) (k:Nat) (C:Addr) (m:Str) (ps:List Str) (aS:List V) (sp:Sp):Prop where
 ex:∃ f fd ds,cD P w K mg base CX k f fd ps sp/\Meth K C m f/\eU K fd ps ds/\aw aS ds
structure CalI (P:Program) (w:World) (K:PySem.W.Frag) (mg:Str->Option Value) (base:Heap) (CX:CXT) (k:Nat) (C:Addr) (x:Str) (ps:List Str) (sp:Sp):Prop where
 ex:∃ f fd,cD P w K mg base CX k f fd ps sp/\Mk K C f/\mg x=some (.ref C)/\eU K fd ps []
structure Ga (P:Program) (w:World) (K:PySem.W.Frag) (mg:Str->Option Value) (base:Heap) (CX:CXT) (k:Nat) (C:Addr) (x:Str) (ps:List Str) (sp:Sp):Prop where
 ex:∃ f fd,cD P w K mg base CX k f fd ps sp/\XCI K C f/\mg x=some (.ref C)/\eU K fd ps []
section
variable {P:Program}{w:World}{K:PySem.W.Frag}{mg:Str->Option Value}{base:Heap}{CX:CXT}{k:Nat}{C:Addr}{x m qual:Str}{st:Stmt}{ps:List Str}{aS:List V}{sp:Sp}
theorem Def.cal (D:Def K mg x st ps aS) (h:∀ f fd,eY K x x st f fd->cD P w K mg base CX k f fd ps sp):Cal P w K mg base CX k x ps aS sp:=
 let ⟨f,fd,ds,F,r⟩:=D.ex;⟨f,fd,ds,h f fd F,r⟩
theorem Met.cal (D:Met K C m qual st ps aS) (h:∀ f fd,eY K m qual st f fd->cD P w K mg base CX k f fd ps sp):CalM P w K mg base CX k C m ps aS sp:=
 let ⟨f,fd,ds,F,r⟩:=D.ex;⟨f,fd,ds,h f fd F,r⟩
theorem Ini.cal (D:Ini K mg C x qual st ps) (h:∀ f fd,eY K "__init__" qual st f fd->cD P w K mg base CX k f fd ps sp):CalI P w K mg base CX k C x ps sp:=
 let ⟨f,fd,F,r⟩:=D.ex;⟨f,fd,h f fd F,r⟩
theorem XIni.cal (D:XIni K mg C x qual st ps) (h:∀ f fd,eY K "__init__" qual st f fd->cD P w K mg base CX k f fd ps sp):Ga P w K mg base CX k C x ps sp:=
 let ⟨f,fd,F,r⟩:=D.ex;⟨f,fd,h f fd F,r⟩
end
def tCallR (sp:Sp) (aS:List V) (R:RK) (t:TA):TE:=fun σ H Q=>t σ H fun vs H1=>sp (vs++aS) H1 Q (R σ)
section
variable {X:Cx}{CX:CXT}{k:Nat}{C:Addr}{ps:List Str}{sp:Sp}{aS:List V}{R:RK}{x m:Str}{p pos bb:Pos}{e o:Expr}{es:List Expr}{ta:TE}{t:TA}
theorem AM:PX X (fun _ _ _ _=>False):=fun _ _ _ _ _ _ _ _ _ _ h=>h.elim
theorem R1 {f:Addr}{fd:FuncData}{ds:List Value}{aa:List (Addr×Obj)}{σ:St}{H:Hp}{s:Shared}{Q:VK}{us:List Value}{vs:List V} (F:cD X.prog X.w X.K X.mg X.base (CXe X.prog X.w) k f fd ps sp) (hp:PX X R) (hr:bn k X.A)
  (hb:eU X.K fd ps ds) (hd:aw aS ds) (I:Inv X aa σ H s) (r:aw vs us) (h:sp (vs++aS) H Q (R σ)):wpAny (model X.prog X.w) X.A (call (.ref f) us) (EP X aa σ Q) X.xe s:=by
 have r2:aw (vs++aS) (us++ds):=r.append hd;have hl:(us++ds).length=ps.length:=by rw[<- r2.length];exact F.len _ _ _ _ h
 refine WU (codeAny_mono (F.run X.A X.stack s H ⟨us,[]⟩ (us++ds) (vs++aS) Q (R σ) hr I.env0 (hb s us I.kIn hl) r2 h) fun r s' hq=>?_);cases r with
 | error e=>exact R5 hp aa σ H s e s' I hq
 | ok fl=>cases fl <;> first | exact I.after hq | exact False.elim hq
theorem aZ (c:Cal X.prog X.w X.K X.mg X.base CX0 k x ps aS sp) (hr:bn k X.A) (hg:Gl X x) (ha:PA X (e::es) t) (dk:(x == ("__debug__":Str))=false:=by decide)
  (he:starEach (e::es) X.env=(false,eval e X.env)::starEach es X.env:=by rfl) (bX:(backTo pos (starEach es X.env)).any (·.1)=false:=by rfl):PE X (.Call (.Name x p) (e::es) [] pos) (tCall sp aS E0 t):=by
 obtain⟨f,fd,ds,F,hm,hk,hb,hd⟩:=c.ex;exact Ud F hr hg hm hk hb hd Fw ha dk he bX
theorem pV (c:Cal X.prog X.w X.K X.mg X.base (CXe X.prog X.w) k x ps aS sp) (hp:PX X R) (hr:bn k X.A) (hg:Gl X x) (ha:PA X (e::es) t) (dk:(x == ("__debug__":Str))=false:=by decide)
  (he:starEach (e::es) X.env=(false,eval e X.env)::starEach es X.env:=by rfl) (bX:(backTo pos (starEach es X.env)).any (·.1)=false:=by rfl):PE X (.Call (.Name x p) (e::es) [] pos) (tCallR sp aS R t):=by
 obtain⟨f,fd,ds,F,hm,hk,hb,hd⟩:=c.ex;intro aa s σ H Q I h;refine V3 (rL I hg hm ?_ dk);refine PySem.W.callWith_K (h₀:=X.base) I.ok.mod.kin hk (thn (ha pos aa s σ H _ I h) fun us s1=>L2.ex5 fun vs H1 I1 r q=>⟨I1.kIn,?_⟩) he bX;exact R1 F hp hr hb hd I1 r q
theorem zT {pl:Sem Bool} (he:PE X o ta) (cl:Cls X.K C) (c:CalM X.prog X.w X.K X.mg X.base CX0 k C m ps aS sp) (hr:bn k X.A) (ha:PA X (e::es) t)
  (cJ:starEach (e::es) X.env=(false,eval e X.env)::starEach es X.env:=by rfl) (bX:(backTo pos (starEach es X.env)).any (·.1)=false:=by rfl)
  (ht:eval (.Call (.Attribute o m bb) (e::es) [] pos) X.env=(do
   let ov <- eval o X.env
   standAt bb.atName
   let (f,first) <- holding [ov] (getMethod ov m pl)
   callWith pos f first (backTo pos (starEach (e::es) X.env)) (backToKw pos (keywordEach [] X.env))):=by rfl) :
  PE X (.Call (.Attribute o m bb) (e::es) [] pos) (tMeth C m sp aS E0 ta t):=by
 obtain⟨f,fd,ds,F,hm,hb,hd⟩:=c.ex;exact Tg (pl:=pl) he cl hm F hr hb hd Fw ha cJ bX ht
theorem S9 (c:CalI X.prog X.w X.K X.mg X.base CX0 k C x ps sp) (hr:bn (k + 1) X.A) (hg:Gl X x) (ha:PA X (e::es) t) (dk:(x == ("__debug__":Str))=false:=by decide)
  (he:starEach (e::es) X.env=(false,eval e X.env)::starEach es X.env:=by rfl) (bX:(backTo pos (starEach es X.env)).any (·.1)=false:=by rfl):PE X (.Call (.Name x p) (e::es) [] pos) (tMake C sp [] E0 t):=by
 obtain⟨f,fd,F,M,hm,hb⟩:=c.ex;exact QI M F hr hg hm hb .nil Fw ha dk he bX
theorem Sf {np az:Pos} (hp:PX X R) (c:Ga X.prog X.w X.K X.mg X.base CX0 k C x ps sp) (hr:bn (k + 1) X.A) (hg:Gl X x) (ha:PA X (e::es) t)
  (dk:(x == ("__debug__":Str))=false:=by decide) (he:starEach (e::es) X.env=(false,eval e X.env)::starEach es X.env:=by rfl) (bX:(backTo az (starEach es X.env)).any (·.1)=false:=by rfl) :
  PS X (.Raise (some (.Call (.Name x np) (e::es) [] az)) none pos) (KO C sp [] R t):=by
 obtain⟨f,fd,F,c',hm,hb⟩:=c.ex;exact Q0 hp c' F hr hb .nil (fun _ _ _ _ _ _ _ _ z=>z.elim) hg hm ha dk he bX
theorem rH {i:Int} (hg:Gl X x) (hm:∃ t,X.mg x=some (.int i t)) (hd:(x == ("__debug__":Str))=false:=by decide):PE X (.Name x pos) (tC (.int i)):=let ⟨t,h⟩:=hm;P6 hg h ⟨t,rfl⟩ hd
end
end L2
namespace L2
open PySem PySem.Spec PyProof.Rows
def HdC (A:Around) (cs:List Addr):Prop:=(A.handled=none/\cs=[])\/∃ a r,cs=a::r/\A.handled=some (.ref a)
theorem Hd.chain {A:Around}{h:Heap} (x:Hd A h):∃ cs,HdC A cs/\Chn h cs:=by
 rcases x with e|⟨a,cs,e,c⟩
 ·exact⟨[],.inl ⟨e,rfl⟩,Wr,fun j a z=>by simp at z⟩
 ·exact⟨a::cs,.inr ⟨a,cs,rfl,e⟩,c⟩
theorem HdC.hd {A:Around}{h:Heap}{cs:List Addr} (x:HdC A cs) (c:Chn h cs):Hd A h:=by
 rcases x with⟨e,rfl⟩|⟨a,r,rfl,e⟩
 ·exact .inl e
 ·exact .inr ⟨a,r,e,c⟩
theorem Chn.but {h h':Heap}{cs:List Addr}{it:Addr} (c:Chn h cs) (hI:it∉cs) (k:∀ b o,b≠it->h.get? b=some o->h'.get? b=some o):Chn h' cs:=
 c.mono fun b o hb e=>k b o (fun z=>hI (z ▸ hb)) e
section
variable {prog:Program}{w:World}{A:Around}{E:Value->Shared->Prop}{s:Shared}{cs:List Addr}
theorem rN (hc:HdC A cs) (I ax:Addr) (fh:ax≠I) (hI:I∉cs) (items:Array Value) :
  Walks prog w A I (I::ax::cs) [I] items.size (fun i v=>items[i]?=some v) (fun i h=>h.IsListIter I ax i/\h.IsList ax items/\Chn h cs) where
 sub:=fun b hb=>by simp at hb;simp[hb]
 frame:=fun _ _ _ st hk=>⟨st.1.at fun o e=>hk I (by simp) o e,st.2.1.at fun o e=>hk ax (by simp) o e,st.2.2.mono fun b o hb e=>hk b (by simp[hb]) o e⟩
 item:=fun i s Q E hi st hQ=>by
  refine XY st.1 st.2.1 (x:=items[i]) (by simp[hi]) fun h' bR a8=>?_
  exact hQ _ h' s.toks (by simp[hi]) ⟨bR,st.2.1.extBut a8.extBut fh,st.2.2.but hI a8.extBut⟩ fun b o hb e=>a8.extBut b o (fun h=>hb (by simp[h])) e
 done:=fun s Q E st hQ=>KL (hc.hd st.2.2) st.1 st.2.1 (by simp) fun h' dX=>hQ h' s.toks fun b o hb e=>dX b o (fun h=>hb (by simp[h])) e
 self:=fun _ _ _ _ st hQ=>X2 st.1 hQ
theorem qT {it l:Addr}{i:Nat} {items}{Q:Value->Shared->Prop} (hd:Hd A s.heap) (aI:s.heap.IsListIter it l i) (hl:s.heap.IsList l items) (hx:items[i]?=none)
  (hE:∀ h' e,Heap.ExtBut it s.heap h'->(∃ o,h'.get? e=some o/\o.cls=.type "StopIteration")->E (.ref e) { s with heap:=h' }):wpAny (model prog w) A (Builtin.SmallTypes.nextOf (.ref it)) Q E s:=by
 obtain⟨o,ho,hc,au⟩:=id aI;obtain⟨ol,uM,_,nl,my⟩:=hl;unfold Builtin.SmallTypes.nextOf;refine oW (VP (name:=Str.ofString "__next__") aI.typeIs slot_listiter_next (V6 slot_listiter_next aI.typeIs entry_listiter_next ?_ (args_listiter_next _)));refine(show wpAny _ _ (field (.ref it) 0 >>= _) _ _ s from oW (VF ho au (x:=.ref l) rfl ?_));refine(show wpAny _ _ (if (Value.ref l == Value.none)=true then _ else _) _ _ s from ?_);rw[if_neg (show ¬ ((Value.ref l == Value.none)=true) from Vu)];refine(show wpAny _ _ (field (.ref it) 1 >>= _) _ _ s from oW (VF ho au (x:=.int i 0) rfl ?_));refine(show wpAny _ _ (seqItems? (.ref l) >>= _) _ _ s from oW (VX uM my ?_));simp only[Vn,hx]
 refine oW (WQ (oW (WC ho au (by simp) ?_)));refine qQ (A:=A.in1) (hd.but ho (fun vs q=>.inl (by rw[au] at q;cases q;simp)) (Heap.SameBut.update ..).extBut) fun h' e k' x=>hE h' e (fun b q hb hq=>k' b q ((Heap.SameBut.update ..).extBut b q hb hq)) x
theorem Ly {z TI TO i1 i2 l1 l2:Addr}{k1 k2:Nat}{xs ys:Array Value}{a b:Value}{Q:Option Value->Shared->Prop} (hc:HdC A cs) (c:Chn s.heap cs) (nz:z∉cs) (nT:TO∉cs) (n1:i1∉cs) (n2:i2∉cs) (D:ZipApart z TI TO i1 i2 l1 l2)
  (hz:IsZip s.heap z TI TO .none) (bT:IsPair s.heap TI (.ref i1) (.ref i2)) (dD:IsPair s.heap TO a b) (h1:s.heap.IsListIter i1 l1 k1) (h2:s.heap.IsListIter i2 l2 k2) (cf:s.heap.IsList l1 xs) (bQ:s.heap.IsList l2 ys) (gT:xs[k1]?=none\/ys[k2]?=none)
  (hQ:∀ h',(∀ c o,c≠z->c≠TO->c≠i1->c≠i2->s.heap.get? c=some o->h'.get? c=some o)->Q none { s with heap:=h' }):wpAny (model prog w) A (pyNext (.ref z)) Q E s:=by
 have hT:s.TypeIs (.ref z) "zip":=⟨_,hz,rfl⟩;have aO:∀ h' e,(∀ c o,c≠z->c≠TO->c≠i1->c≠i2->s.heap.get? c=some o->h'.get? c=some o)->(∃ o,h'.get? e=some o/\o.cls=.type "StopIteration") ->
   wpAny (model prog w) A (do if <- isInstance (.ref e) (.type "StopIteration") then pure none else throw (.ref e)) Q E { s with heap:=h' }:=fun h' e k ⟨o,ho,kO⟩=>
  oW (Wu (T:="StopIteration") (b:=true) ⟨o,ho,kO⟩ isSubtype_stop (Vi (hQ _ k)))
 unfold pyNext;refine oW (Wx (VP (name:=Str.ofString "__next__") hT F.slot_zip_next (V6 F.slot_zip_next hT F.entry_zip_next ?_ (F.args_zip_next_1 _))));refine(show wpAny _ _ (field (.ref z) 2 >>= _) _ _ _ from oW (VF hz rfl (x:=.bool false) rfl ?_));refine(show wpAny _ _ (field (.ref z) 3 >>= _) _ _ _ from oW (VF hz rfl (x:=.ref TI) rfl (oW (VX bT rfl ?_))));refine(show wpAny _ _ (Builtin.SmallTypes.ownedTupleIsFree (.ref z) >>= _) _ _ _ from oW ?_);unfold Builtin.SmallTypes.ownedTupleIsFree;refine oW (VF hz rfl (x:=.none) rfl (Vi ?_));simp only[if_true]
 refine oW (WQ (oW (VF hz rfl (x:=.ref TO) rfl (oW (Wo hz (by simp) fun h₁ ou bA=>?_)))))
 replace ou:IsZip h₁ z TI TO .ellipsis:=ou
 have c₁:Chn h₁ cs:=c.but nz bA.extBut;refine oW ?_;simp only[List.zipIdx_cons,List.zipIdx_nil,W4,X3]
 refine oW (oW (wpAny_onRaise ?_));cases hx:xs[k1]? with
 | none=>
  refine(show wpAny _ _ (Builtin.SmallTypes.nextOf (.ref i1) >>= _) _ _ _ from oW (qT (A:=A.in1) (HdC.hd (A:=A.in1) hc c₁) (h1.extBut bA.extBut D.i1z) (cf.extBut bA.extBut D.l1z) hx fun h₂ e cW he=>?_));obtain⟨oe,pB,uu⟩:=he;have Jg:IsZip h₂ z TI TO .ellipsis:=cW _ _ D.i1z.symm ou;have E3:e≠z:=fun x=>by subst x;rw[Jg] at pB;cases pB;simp at uu
  exact Wo Jg (by simp) fun h₃ _ eO=>aO h₃ e (fun c o c1 _ c3 _ x=>eO.extBut _ _ c1 (cW _ _ c3 (bA.extBut _ _ c1 x))) ⟨oe,eO.extBut _ _ E3 pB,uu⟩
 | some x=>
  have hy:ys[k2]?=none:=by rcases gT with h|h;rw[hx] at h;cases h;exact h
  refine(show wpAny _ _ (Builtin.SmallTypes.nextOf (.ref i1) >>= _) _ _ _ from oW (WJ (h1.extBut bA.extBut D.i1z) (cf.extBut bA.extBut D.l1z) hx fun h₂ EY cW=>Vi ?_));have wS:IsPair h₂ TO a b:=cW.extBut _ _ D.TOi1 (bA.extBut _ _ D.TOz dD);refine oW (VX wS rfl (oW (wpAny_updateSeq_pair wS fun h₃ NP eO=>oW (WF (Vi ?_)))));refine oW (oW (wpAny_onRaise ?_));have c₃:Chn h₃ cs:=(c₁.but n1 cW.extBut).but nT eO.extBut;refine(show wpAny _ _ (Builtin.SmallTypes.nextOf (.ref i2) >>= _) _ _ _ from oW (qT (A:=A.in1) (HdC.hd (A:=A.in1) hc c₃) (((h2.extBut bA.extBut D.i2z).extBut cW.extBut D.i12.symm).extBut eO.extBut D.TOi2.symm)
   (((bQ.extBut bA.extBut D.l2z).extBut cW.extBut D.l2i1).extBut eO.extBut D.l2TO) hy fun h₄ e Hg he=>?_))
  obtain⟨oe,pB,uu⟩:=he;have GW:IsZip h₄ z TI TO .ellipsis:=Hg _ _ D.i2z.symm (eO.extBut _ _ D.TOz.symm (cW.extBut _ _ D.i1z.symm ou));have E3:e≠z:=fun x=>by subst x;rw[GW] at pB;cases pB;simp at uu
  exact Wo GW (by simp) fun h₅ _ Iu=>aO h₅ e (fun c o c1 c2 c3 c4 x=>Iu.extBut _ _ c1 (Hg _ _ c4 (eO.extBut _ _ c2 (cW.extBut _ _ c3 (bA.extBut _ _ c1 x))))) ⟨oe,Iu.extBut _ _ E3 pB,uu⟩
section
variable {κ:Type} [DecidableEq κ] {knd:KeyKind prog w κ}
theorem Qc {it d:Addr}{i ep:Nat}{kvs:List (κ×Value)}{Q:Option Value->Shared->Prop} (hd:Hd A s.heap) (aI:s.heap.IsKeyIter it d i kvs.length ep) (hm:s.heap.DictAt knd d kvs ep) (hx:kvs[i]?=none)
  (hQ:∀ h',Heap.ExtBut it s.heap h'->Q none { s with heap:=h' }):wpAny (model prog w) A (pyNext (.ref it)) Q E s:=by
 obtain⟨o,ho,hc,au⟩:=id aI;obtain⟨od,es,km,fk,gO,hk,hp,hn⟩:=id hm;have hsz:es.size=kvs.length:=by rw[<- hp.length];simp
 have kY:es.size<=i:=by rw[hsz];simpa using hx
 have nW:Builtin.Dict_items.ownsTuple "dict_keyiterator"=false:=by decide
 unfold pyNext;refine oW (Wx (VP (name:=Str.ofString "__next__") aI.typeIs F.slot_dict_keyiterator_next (V6 F.slot_dict_keyiterator_next aI.typeIs F.entry_dict_keyiterator_next ?_ (F.args_dict_keyiterator_next_1 _))));refine oW (Vi (oW (oW ?_)))
 first|refine oW (Xs aI.typeIs (Vi (oW (Xy ho au ?_))))|refine oW (XM aI.typeIs (Vi (oW (Xy ho au ?_))))
 simp only[nW,V2,if_false]
 show wpAny _ _ (if (Value.ref d == Value.none)=true then _ else _) _ _ s;rw[if_neg (show ¬ ((Value.ref d == Value.none)=true) from Vu)];refine oW (Vi (oW (Yp km gO ?_)));rw[if_neg (by rw[hsz];simp)];refine oW (Vi (oW (wpAny_dictEpoch km gO ?_)));rw[if_neg (by simp)];refine Vi ?_;simp only[show ¬ ((i:Int)<0) from by omega,if_false,Vn,X0 kY]
 refine oW ?_
 first|refine oW (Xs aI.typeIs (Vi ?_))|refine oW (XM aI.typeIs (Vi ?_))
 refine(show wpAny _ _ (setField (.ref it) 0 .none >>= _) _ _ s from oW (WC ho au (by simp) ?_));refine qQ (A:=A.in1) (hd.but ho (fun vs q=>.inr (by rw[au] at q;cases q;simp)) (Heap.SameBut.update ..).extBut) fun h' e k' ⟨o',e',c'⟩=>?_
 exact oW (Wu (T:="StopIteration") (b:=true) ⟨o',e',c'⟩ isSubtype_stop (Vi (hQ h' fun b q hb hq=>k' b q ((Heap.SameBut.update ..).extBut b q hb hq))))
theorem Ra {it d:Addr}{i ep:Nat}{kvs:List (κ×Value)}{ok ov:Value}{Q:Option Value->Shared->Prop} (hc:HdC A cs) (c:Chn s.heap cs) (hI:it∉cs) (aI:IsItemIter s.heap it d i kvs.length ep ok ov) (hm:s.heap.DictAt knd d kvs ep) (hx:kvs[i]?=none)
  (hQ:∀ h',Heap.ExtBut it s.heap h'->Q none { s with heap:=h' }):wpAny (model prog w) A (pyNext (.ref it)) Q E s:=by
 obtain⟨od,es,km,fk,gO,hk,hp,hn⟩:=id hm;have hT:s.TypeIs (.ref it) "dict_itemiterator":=⟨_,aI,rfl⟩;have hsz:es.size=kvs.length:=by rw[<- hp.length];simp
 have kY:es.size<=i:=by rw[hsz];simpa using hx
 have nW:Builtin.Dict_items.ownsTuple "dict_itemiterator"=true:=by decide
 unfold pyNext;refine oW (Wx (VP (name:=Str.ofString "__next__") hT F.slot_dict_itemiterator_next (V6 F.slot_dict_itemiterator_next hT F.entry_dict_itemiterator_next ?_ (F.args_dict_itemiterator_next_1 _))));refine oW (Vi (oW (oW ?_)))
 first|refine oW (Xn hT (Vi (oW (Xy aI rfl ?_))))|refine oW (XG hT (Vi (oW (Xy aI rfl ?_))))
 simp only[nW,if_true]
 show wpAny _ _ (if (Value.ref d == Value.none)=true then _ else _) _ _ s;rw[if_neg (show ¬ ((Value.ref d == Value.none)=true) from Vu)];refine oW (Vi (oW (Yp km gO ?_)));rw[if_neg (by rw[hsz];simp)];refine oW (Vi (oW (wpAny_dictEpoch km gO ?_)));rw[if_neg (by simp)];refine Vi ?_;simp only[show ¬ ((i:Int)<0) from by omega,if_false,Vn,X0 kY]
 refine oW ?_
 first|refine oW (Xn hT (Vi ?_))|refine oW (XG hT (Vi ?_))
 refine(show wpAny _ _ (setField (.ref it) 2 .none >>= _) _ _ s from oW (WC aI rfl (by simp) ?_));refine qQ (A:=A.in1) (HdC.hd (A:=A.in1) hc (c.but hI (Heap.SameBut.update ..).extBut)) fun h' e k' ⟨o',e',c'⟩=>?_
 exact oW (Wu (T:="StopIteration") (b:=true) ⟨o',e',c'⟩ isSubtype_stop (Vi (hQ h' fun b q hb hq=>k' b q ((Heap.SameBut.update ..).extBut b q hb hq))))
end
end
end L2
namespace L2
open PySem PySem.Spec PyProof.Rows
section
variable {X:Cx}{tg:Expr}
end
section
variable {g:TG}{tt:TT}{te:TE}
end
def Itz (K:PySem.W.Frag) (l1 l2:Addr):It:=
  ⟨fun i H=>∃ xs ys x y,SqL K H l1 xs/\SqL K H l2 ys/\xs[i]?=some x/\ys[i]?=some y,
   fun i H v H'=>∃ T x y,v=.ref T/\H T=none/\H'=upd H T (.tup [x,y])/\(∀ xs,SqL K H l1 xs->xs[i]?=some x)/\∀ ys,SqL K H l2 ys->ys[i]?=some y,
   fun i H=>∃ xs ys,SqL K H l1 xs/\SqL K H l2 ys/\(xs.length<=i\/ys.length<=i)⟩
def ZipIt (h:Heap) (z TI TO i1 i2 l1 l2:Addr) (i:Nat):Prop:=IsZip h z TI TO .none/\IsPair h TI (.ref i1) (.ref i2)/\(∃ a b,IsPair h TO a b)/\h.IsListIter i1 l1 i/\h.IsListIter i2 l2 i
theorem Rj {P:Program}{w:World}{K:PySem.W.Frag}{es:List Expr}{k:Nat}{pos:Pos}{z TI TO i1 i2 l1 l2:Addr} (D:ZipApart z TI TO i1 i2 l1 l2) :
  m5 P w K (.Tuple es k pos) (Itz K l1 l2) [z,TI,TO,i1,i2] z (fun i h=>ZipIt h z TI TO i1 i2 l1 l2 i) where
 mem:=by simp
 obj:=fun i h st b hb=>by
  obtain⟨hz,bT,⟨a,c,dD⟩,⟨o1,e1,c1,d1⟩,⟨o2,e2,c2,d2⟩⟩:=st;simp only[VH,VC,or_false] at hb
  rcases hb with rfl|rfl|rfl|rfl|rfl
  ·exact⟨_,hz,fun v q=>by simp at q⟩
  ·exact⟨_,bT,fun v q=>by simp at q⟩
  ·exact⟨_,dD,fun v q=>by simp at q⟩
  ·exact⟨_,e1,fun v q=>by rw[d1] at q;cases q⟩
  ·exact⟨_,e2,fun v q=>by rw[d2] at q;cases q⟩
 keep:=fun i h h' st k=>by
  obtain⟨hz,bT,⟨a,c,dD⟩,h1,h2⟩:=st;exact⟨k z (by simp) _ hz,k TI (by simp) _ bT,⟨a,c,k TO (by simp) _ dD⟩,h1.at fun o e=>k i1 (by simp) o e,h2.at fun o e=>k i2 (by simp) o e⟩
 item:=by
  intro X hP hw hK hc i aa s σ H E I hf st hg;subst hP hw hK;obtain⟨xs,ys,x,y,q1,q2,hx,hy⟩:=hg;obtain⟨hz,bT,⟨a,c,dD⟩,h1,h2⟩:=st;obtain⟨its,rv,pl,_⟩:=I.list q1;obtain⟨its',cK,jV,_⟩:=I.list q2;obtain⟨u,hu,ru⟩:=rv.get hx;obtain⟨u',nU,ur⟩:=cK.get hy;have nf:∀ b∈[z,TI,TO,i1,i2],b∉frs X.stack:=fun b hb q=>(VH.mp (I.stkSub b q)).elim (hf b hb).2.1 (hf b hb).2.2.1
  refine X4 D hz bT dD h1 h2 pl.isList jV.isList (x:=u) (y:=u') (by simpa using hu) (by simpa using nU) fun h' a1 a2 a3 a4 a5 a6 hk=>⟨_,rfl,?_⟩
  refine wpAny_letOwnedTupleGo_zip (s:={ s with heap:=h' }) a1 fun h'' jz a8=>?_
  have oz:H s.heap.objs.size=none:=I.hok.fresh (Vh _);have U1:=Vk hz;have old:∀ b o,b≠z->b≠TO->b≠i1->b≠i2->s.heap.get? b=some o->h''.get? b=some o:=fun b o n1 n2 n3 n4 e=>a8.extBut b o n1 (hk b o n1 n2 n3 n4 e)
  have I1:Inv X aa σ (upd H s.heap.objs.size (.tup [x,y])) { s with heap:=s.heap.push { cls:=.type "tuple",data:=.seq #[u,u'] } }:=
   I.laid (t':=s.toks) (fun b o e=>Ve _ e) (Vh _) ⟨by show 2<=sizeLine;decide,[u,u'],.cons ru (.cons ur .nil),⟨_,Vm _ rfl,rfl,_,rfl⟩⟩
  have lT:∀ b∈[z,TI,TO,i1,i2],bC X aa (upd H s.heap.objs.size (.tup [x,y])) b:=fun b hb=>by
   obtain⟨f0,r⟩:=hf b hb;refine⟨?_,r⟩;have lt:b<s.heap.objs.size:=by
    simp only[VH,VC,or_false] at hb
    rcases hb with rfl|rfl|rfl|rfl|rfl
    ·exact Vk hz
    ·exact Vk bT
    ·exact Vk dD
    ·obtain⟨o,e,_⟩:=h1;exact Vk e
    ·obtain⟨o,e,_⟩:=h2;exact Vk e
   rw[aj (Vq lt)];exact f0
  have I2:Inv X aa σ (upd H s.heap.objs.size (.tup [x,y])) { s with heap:=h'' }:=by
   have back:∀ b o,(s.heap.push { cls:=.type "tuple",data:=.seq #[u,u'] }).get? b=some o->b≠z->b≠TO->b≠i1->b≠i2->h''.get? b=some o:=fun b o e n1 n2 n3 n4=>by
    rcases W0 e with⟨rfl,rfl⟩|e
    ·exact a8.extBut _ _ n1 a5
    ·exact old b o n1 n2 n3 n4 e
   refine I1.slots (ch:=[z,TO,i1,i2]) (tk:=s.toks) (fun b hb=>lT b (by simp only[VH,VC,or_false] at hb ⊢;rcases hb with e|e|e|e <;> simp[e])) (fun b o _ hc e=>?_) (fun b o hb e=>⟨o.slots,?_⟩) (fun b hb o e=>?_)
   ·simp only[VH,VC,or_false,not_or] at hc
    exact back b o e hc.1 hc.2.1 hc.2.2.1 hc.2.2.2
   ·exact back b o e (fun q=>nf z (by simp) (q ▸ hb)) (fun q=>nf TO (by simp) (q ▸ hb)) (fun q=>nf i1 (by simp) (q ▸ hb)) (fun q=>nf i2 (by simp) (q ▸ hb))
   ·simp only[VH,VC,or_false] at hb
    rcases hb with rfl|rfl|rfl|rfl
    ·exact⟨_,jz⟩
    ·exact⟨_,a8.extBut _ _ D.TOz a2⟩
    ·obtain⟨o,e,_⟩:=a3;exact⟨_,a8.extBut _ _ D.i1z e⟩
    ·obtain⟨o,e,_⟩:=a4;exact⟨_,a8.extBut _ _ D.i2z e⟩
  refine⟨.ref s.heap.objs.size,_,I2,rfl,⟨_,x,y,rfl,oz,rfl,fun Jh q=>by rw[I.list_inj q q1];exact hx,fun mQ q=>by rw[I.list_inj q q2];exact hy⟩,?_,fun b hb=>(lT b hb).1⟩;exact⟨jz,old TI _ D.TIz D.TITO D.TIi1 D.TIi2 bT,⟨_,_,a8.extBut _ _ D.TOz a2⟩,a3.extBut a8.extBut D.i1z,a4.extBut a8.extBut D.i2z⟩
 done:=by
  intro X hP hw hK hc i aa s σ H E I hf st hg;subst hP hw hK;obtain⟨xs,ys,q1,q2,ai⟩:=hg;obtain⟨hz,bT,⟨a,c,dD⟩,h1,h2⟩:=st;obtain⟨its,rv,pl,_⟩:=I.list q1;obtain⟨its',cK,jV,_⟩:=I.list q2;have e1:=rv.length;have e2:=cK.length;have nf:∀ b∈[z,TI,TO,i1,i2],b∉frs X.stack:=fun b hb q=>(VH.mp (I.stkSub b q)).elim (hf b hb).2.1 (hf b hb).2.2.1
  have nc:∃ cs,HdC X.A cs/\Chn s.heap cs/\∀ b∈[z,TI,TO,i1,i2],b∉cs:=by
   rcases I.hdAt with e|⟨b,cs,e,c⟩
   ·exact⟨[],.inl ⟨e,rfl⟩,⟨Wr,fun j a q=>by simp at q⟩,fun b _ q=>by simp at q⟩
   ·exact⟨b::cs,.inr ⟨b,cs,rfl,e⟩,c.chn I.hok,fun d hd=>c.not_mem (hf d hd).1⟩
  obtain⟨cs,cP,ch,qu⟩:=nc;refine Ly cP ch (qu z (by simp)) (qu TO (by simp)) (qu i1 (by simp)) (qu i2 (by simp)) D hz bT dD h1 h2 pl.isList jV.isList (by rcases ai with q|q;(left;simp;omega);(right;simp;omega)) fun h' hk=>⟨rfl,?_⟩
  refine I.slot0 (ch:=[z,TI,TO,i1,i2]) (tk:=s.toks) hf (fun b o _ hc e=>?_) (fun b o hb e=>⟨o.slots,?_⟩)
  ·simp only[VH,VC,or_false,not_or] at hc
   exact hk b o hc.1 hc.2.2.1 hc.2.2.2.1 hc.2.2.2.2 e
  ·exact hk b o (fun q=>nf z (by simp) (q ▸ hb)) (fun q=>nf TO (by simp) (q ▸ hb)) (fun q=>nf i1 (by simp) (q ▸ hb)) (fun q=>nf i2 (by simp) (q ▸ hb)) e
 self:=fun _ _ _ _ _ st h=>XO st.1 h
def iZip (K:PySem.W.Frag) (ta:TA):TI:=fun σ H R=>ta σ H fun vs H1=>∃ l1 l2,vs=[.ref l1,.ref l2]/\(∃ xs,SqL K H1 l1 xs)/\(∃ ys,SqL K H1 l2 ys)/\R (Itz K l1 l2) H1
section
variable {X:Cx}
theorem zR {es:List Expr}{k:Nat}{tpos p pos:Pos}{a b:Expr}{ta:TA} (hg:Gl X "zip") (hm:X.mg "zip"=none) (ha:PA X [a,b] ta) (hs:starEach [a,b] X.env=[(false,eval a X.env),(false,eval b X.env)]:=by rfl) (et:starEach [b] X.env=[(false,eval b X.env)]:=by rfl) :
  PI X (.Tuple es k tpos) (.Call (.Name "zip" p) [a,b] [] pos) (iZip X.K ta):=by
 intro aa s σ H R I h;refine Call_ (iD I hg hm boot_zip (PyProof.Rows.callWith_type1 (thn (ha pos aa s σ H _ I h) fun us s1=>L2.ex5 fun vs H1 I1 r1 bi=>?_) (by rw[hs,et]) (by rw[et];rfl)));obtain⟨l1,l2,e,⟨xs,q1⟩,⟨ys,q2⟩,q⟩:=bi;subst e;obtain⟨u,u',rfl,ru,ur⟩:=y9 r1;obtain rfl:u=Value.ref l1:=ru;obtain rfl:u'=Value.ref l2:=ur;obtain⟨its,rv,pl,_⟩:=I1.list q1;obtain⟨its',cK,jV,_⟩:=I1.list q2;refine call_zip_2 pl.isList jV.isList fun h' b1 b2 b3 b4 b5 b6 hk=>?_
 refine XO (s:={ s1 with heap:=h' }) b1 ?_;have gX:l1<s1.heap.objs.size:=by obtain⟨o,e,_⟩:=pl.isList;exact Vk e
 have kU:l2<s1.heap.objs.size:=by obtain⟨o,e,_⟩:=jV.isList;exact Vk e
 have nn:∀ (x y:Nat),x<y->∀ j:Nat,x≠y + j:=fun x y h j e=>by omega
 have n0:∀ (y i j:Nat),i≠j->y + i≠y + j:=fun y i j h e=>by omega
 have D:ZipApart (s1.heap.objs.size + 4) (s1.heap.objs.size + 2) (s1.heap.objs.size + 3) s1.heap.objs.size (s1.heap.objs.size + 1) l1 l2:=
  ⟨n0 _ 2 4 (by decide),n0 _ 3 4 (by decide),n0 _ 0 4 (by decide),n0 _ 1 4 (by decide),n0 _ 2 3 (by decide),n0 _ 2 0 (by decide),n0 _ 2 1 (by decide),n0 _ 3 0 (by decide),n0 _ 3 1 (by decide),n0 _ 0 1 (by decide),
   nn _ _ gX 4,nn _ _ gX 3,nn _ _ gX 0,nn _ _ gX 1,nn _ _ kU 4,nn _ _ kU 3,nn _ _ kU 0,nn _ _ kU 1⟩
 refine⟨s1.heap.objs.size + 4,[s1.heap.objs.size + 4,s1.heap.objs.size + 2,s1.heap.objs.size + 3,s1.heap.objs.size,s1.heap.objs.size + 1],_,_,H1,rfl,I1.kept (t':=s1.toks) hk,Rj D,⟨b1,b2,⟨_,_,b3⟩,b4,b5⟩,fun b hb=>?_,q⟩;have ge:s1.heap.objs.size<=b:=by
  simp only[VH,VC,or_false] at hb
  rcases hb with rfl|rfl|rfl|rfl|rfl
  ·exact VO _ _
  ·exact VO _ _
  ·exact VO _ _
  ·exact Vh _
  ·exact VO _ _
 exact I1.fpOk ge (I1.hok.fresh ge)
theorem Inv.freeze {aa:List (Addr×Obj)}{σ:St}{H:Hp}{s:Shared}{d:Addr}{kvs:List (Key×V)}{o:Obj} (I:Inv X aa σ H s) (e:H d=some (.dK kvs)) (ho:s.heap.get? d=some o):Inv X aa σ (upd H d (.frz o (.dK kvs))) s:=by
 have ne:∀ b u,H b=some u->u≠.dK kvs->b≠d:=fun b u q n z=>by rw[z,e] at q;cases q;exact n rfl
 have kp:∀ b u,H b=some u->u≠.dK kvs->upd H d (.frz o (.dK kvs)) b=some u:=fun b u q n=>by rw[aj (ne b u q n)];exact q
 refine I.un (h':=s.heap) (t':=s.toks) ⟨fun b _ q _ _ _=>q,fun b ob q _ _ _=>⟨ob.slots,q⟩,fun b ob q n _=>?_,fun b ob q _=>⟨ob,q⟩,fun b xs q=>kp b _ q (by intro z;cases z),fun b ob u q=>kp b _ q (by intro z;cases z),fun b pp pq q=>kp b _ q (by intro z;cases z)⟩ fun b u q=>?_
 ·rw[aj (fun z=>by rw[z,e] at n;cases n)];exact n
 ·by_cases hb:b=d
  ·subst hb
   rw[af] at q;cases q
   exact⟨ho,(I.hok _ _ e)⟩
  ·rw[aj hb] at q
   exact(I.hok b u q).stay (fun c v _ r=>r) (fun c r=>kp c _ r (by intro z;cases z)) (fun c xs r=>kp c _ r (by intro z;cases z)) fun c ob r=>kp c _ r (by intro z;cases z)
theorem Inv.thaw {aa:List (Addr×Obj)}{σ:St}{H:Hp}{s:Shared}{d:Addr}{kvs:List (Key×V)}{o:Obj} (I:Inv X aa σ H s) (hX:∀ o u,X.H₀ d≠some (.frz o u)) (e:H d=some (.frz o (.dK kvs))):Inv X aa σ (upd H d (.dK kvs)) s:=by
 have ne:∀ b u,H b=some u->(∀ o v,u≠.frz o v)->b≠d:=fun b u q n z=>by rw[z,e] at q;cases q;exact n _ _ rfl
 have kp:∀ b u,H b=some u->(∀ o v,u≠.frz o v)->upd H d (.dK kvs) b=some u:=fun b u q n=>by rw[aj (ne b u q n)];exact q
 have nn:∀ b,H b=none->upd H d (.dK kvs) b=none:=fun b q=>by rw[aj (fun z=>by rw[z,e] at q;cases q)];exact q
 have un:Un X.fs X.ex X.H₀ (upd H d (.dK kvs)) X.s₀.heap s.heap:=by
  obtain⟨b1,b2,b3,b4,b5,b6,b7⟩:=I.base;refine⟨b1,b2,fun b ob q n x=>nn b (b3 b ob q n x),b4,fun b xs q=>kp b _ (b5 b xs q) (by intro _ _ z;cases z),fun b ob u q=>?_,fun b pp pq q=>?_⟩
  ·rw[aj (fun z=>hX ob u (by rw[<- z];exact q))];exact b6 b ob u q
  ·exact kp b _ (b7 b pp pq q) (by intro _ _ z;cases z)
 refine { I with base:=un,free:=nn _ I.free,freeC:=fun x c q=>nn _ (I.freeC x c q),pin:=fun p hp=>?_,hok:=fun b u q=>?_ }
 ·obtain⟨p1,p2,p3⟩:=I.pin p hp
  exact⟨p1,nn _ p2,p3⟩
 ·by_cases hb:b=d
  ·subst hb
   rw[af] at q;cases q
   exact(I.hok _ _ e).2
  ·rw[aj hb] at q
   exact(I.hok b u q).stay (fun c v _ r=>r) (fun c r=>kp c _ r (by intro _ _ z;cases z)) (fun c xs r=>kp c _ r (by intro _ _ z;cases z)) fun c ob r=>by rw[aj (fun z=>by rw[z,e] at r;cases r)];exact r
theorem Inv.notFrz {aa:List (Addr×Obj)}{σ:St}{H:Hp}{s:Shared}{d:Addr}{kvs:List (Key×V)} (I:Inv X aa σ H s) (e:H d=some (.dK kvs)):∀ o u,X.H₀ d≠some (.frz o u):=fun o u q=>by
 have:=I.base.frzs d o u q;rw[e] at this;cases this
def nI (v d:Addr):HO:=.ext fun h=>h.IsItemsView v d
def rItems:V->List V->Hp->VK->Prop:=fun x vs H Q=>∃ d kvs,x=.ref d/\vs=[]/\H d=some (.dK kvs)/\∀ v,H v=none->Q (.ref v) (upd H v (nI v d))
theorem Sx:MtR X "dict.items" rItems:=by
 intro aa s σ H x xs v us Q I rx r h;obtain⟨d,kvs,rfl,rfl,e,q⟩:=h;obtain rfl:v=Value.ref d:=rx;cases r
 obtain⟨z,hd,vs,rel,dd⟩:=qP I.hok e;refine call_meetsIn PySem.F.slot_dict_items dd.typeIs PySem.F.entry_dict_items (PySem.F.args_dict_items_1 _) (meets_dict_items (cr X.prog X.w) d hd) ⟨⟨vs,dd⟩,?_⟩;refine⟨.ref s.heap.objs.size,_,I.laid (t':=s.toks) (o:=nI s.heap.objs.size d) (fun b ob q=>Ve _ q) (Vh _) ?_,rfl,q _ (I.hok.fresh (Vh _))⟩;exact⟨⟨_,Vm _ rfl,rfl,rfl⟩,⟨_,Vm _ rfl⟩,fun h1 h2 ⟨o,a,r⟩ k=>⟨o,k o a,r⟩⟩
end
def Iti (d:Addr) (o:Obj) (kvs:List (Key×V)):It:=
 ⟨fun i H=>H d=some (.frz o (.dK kvs))/\i<kvs.length,fun i H v H'=>∃ T k x,v=.ref T/\H T=none/\kvs[i]?=some (k,x)/\H'=upd H T (.tup [kV k,x]),fun i H=>H d=some (.frz o (.dK kvs))/\kvs.length<=i⟩
def ItemIt (h:Heap) (it d:Addr) (o:Obj) (n i:Nat):Prop:=∃ es ep ok ov,o.data=.dict es ep/\IsItemIter h it d i n ep ok ov
theorem kV_of {P:Program}{w:World}{k:Key}{u:Value} (h:(cr P w).is k u=true):av (kV k) u:=by
 rcases jW (show qf k u=true from h) with⟨i,t,rfl,rfl⟩|⟨x,t,rfl,rfl⟩
 ·exact⟨t,rfl⟩
 ·exact⟨t,rfl⟩
theorem KV.get {kvs:List (Key×V)}{vs:List (Key×Value)} (r:KV kvs vs):∀ {i:Nat}{k:Key}{x:V},kvs[i]?=some (k,x)->∃ u,vs[i]?=some (k,u)/\av x u:=by
 induction r with
 | nil=>intro i k x e;simp at e
 | @cons p q l1 l2 h t ih=>
  intro i k x e;cases i with
  | zero=>
   simp at e
   subst e;exact⟨q.2,by simp only[List.getElem?_cons_zero,Option.some.injEq];exact Prod.ext h.1.symm rfl,h.2⟩
  | succ i=>exact ih (by simpa using e)
theorem TN:entryFor table "dict_itemiterator.__iter__"=some Builtin.«dict_keyiterator.__iter__»:=entryFor_alias (id':="dict_keyiterator.__iter__") (by kernel_rfl) rfl (by decide +kernel) (by kernel_rfl)
theorem RF {P:Program}{w:World}{K:PySem.W.Frag}{es:List Expr}{k:Nat}{pos:Pos}{it d:Addr}{o:Obj}{kvs:List (Key×V)}:m5 P w K (.Tuple es k pos) (Iti d o kvs) [it] it (fun i h=>ItemIt h it d o kvs.length i) where
 mem:=by simp
 obj:=fun i h st b hb=>by
  have e:b=it:=by simpa using hb
  subst e;obtain⟨_,_,_,_,_,e⟩:=st;exact⟨_,e,fun v q=>by simp at q⟩
 keep:=fun i h h' st kk=>by
  obtain⟨a,b,c,e,q,y⟩:=st;exact⟨a,b,c,e,q,kk it (by simp) _ y⟩
 item:=by
  intro X hP hw hK hc i aa s σ H E I hf st hg;subst hP hw hK;obtain⟨hd,aE⟩:=hg;obtain⟨gr,ep,ok,ov,au,aI⟩:=st;obtain⟨f0,f1,f2,f3,f4,f5⟩:=hf it (by simp);obtain⟨ho,yw⟩:=I.hok _ _ hd;obtain⟨z,nM,vs,rel,⟨o',GL,Hu,jI,o0,eA,r2⟩⟩:=yw;rw[ho] at jI;cases jI
  rw[au] at eA;cases eA
  have jr:s.heap.DictAt (cr X.prog X.w) d vs ep:=⟨o,gr,ho,o0,au,r2⟩;obtain⟨⟨kk,x⟩,hx⟩:∃ p,kvs[i]?=some p:=⟨kvs[i],by simp[aE]⟩;obtain⟨u,hu,ru⟩:=rel.get hx;have ai:kvs.length=vs.length:=rel.length;rw[ai] at aI;refine wpAny_pyNext_items_item aI jr hu fun key h' cz a1 a2 a3 OH=>⟨_,rfl,?_⟩
  refine wpAny_letOwnedTupleGo_items (s:={ s with heap:=h' }) a1 fun h'' bR a8=>?_
  have oz:H s.heap.objs.size=none:=I.hok.fresh (Vh _);have nT:s.heap.objs.size≠it:=Ne.symm (Vq (Vk aI));have I1:Inv X aa σ (upd H s.heap.objs.size (.tup [kV kk,x])) { s with heap:=s.heap.push { cls:=.type "tuple",data:=.seq #[key,u] } }:=
   I.laid (t':=s.toks) (fun b o e=>Ve _ e) (Vh _) ⟨by show 2<=sizeLine;decide,[key,u],.cons (kV_of cz) (.cons ru .nil),⟨_,Vm _ rfl,rfl,_,rfl⟩⟩
  have HZ:upd H s.heap.objs.size (.tup [kV kk,x]) it=none:=by rw[aj (Ne.symm nT)];exact f0
  have I2:Inv X aa σ (upd H s.heap.objs.size (.tup [kV kk,x])) { s with heap:=h'' }:=I1.turned (t':=s.toks) (fun b ob hb e=>by
   rcases W0 e with⟨rfl,rfl⟩|e
   ·exact a8.extBut _ _ hb a2
   ·exact a8.extBut _ _ hb (OH b ob hb e)) HZ f1 f3 f4 f5
  refine⟨.ref s.heap.objs.size,_,I2,rfl,⟨_,kk,x,rfl,oz,hx,rfl⟩,⟨gr,ep,key,u,au,by rw[ai];exact bR⟩,fun b hb=>?_⟩;have e:b=it:=by simpa using hb
  subst e;exact HZ
 done:=by
  intro X hP hw hK hc i aa s σ H E I hf st hg;subst hP hw hK;obtain⟨hd,kY⟩:=hg;obtain⟨gr,ep,ok,ov,au,aI⟩:=st;obtain⟨f0,f1,f2,f3,f4,f5⟩:=hf it (by simp);obtain⟨ho,yw⟩:=I.hok _ _ hd;obtain⟨z,nM,vs,rel,⟨o',GL,Hu,jI,o0,eA,r2⟩⟩:=yw;rw[ho] at jI;cases jI
  rw[au] at eA;cases eA
  have jr:s.heap.DictAt (cr X.prog X.w) d vs ep:=⟨o,gr,ho,o0,au,r2⟩;have ai:kvs.length=vs.length:=rel.length;rw[ai] at aI;have nc:∃ cs,HdC X.A cs/\Chn s.heap cs/\it∉cs:=by
   rcases I.hdAt with e|⟨b,cs,e,c⟩
   ·exact⟨[],.inl ⟨e,rfl⟩,⟨Wr,fun j a q=>by simp at q⟩,by simp⟩
   ·exact⟨b::cs,.inr ⟨b,cs,rfl,e⟩,c.chn I.hok,c.not_mem f0⟩
  obtain⟨cs,cP,ch,qu⟩:=nc;exact Ra cP ch qu aI jr (WD (by rw[<- ai];exact kY)) fun h' eb=>⟨rfl,I.turned (t':=s.toks) (fun b o hb e=>eb b o hb e) f0 f1 f3 f4 f5⟩
 self:=fun A i s Q E st h=>by
  obtain⟨gr,ep,ok,ov,au,aI⟩:=st;have hT:s.TypeIs (.ref it) "dict_itemiterator":=⟨_,aI,rfl⟩;refine wpAny_pyIter_slot hT PySem.F.slot_dict_itemiterator_iter (V6 PySem.F.slot_dict_itemiterator_iter hT TN ?_ (PySem.F.args_dict_itemiterator_iter_1 _));show wpAny _ _ (ret (.ref it)) _ _ s;exact Vi ⟨_,rfl,"dict_itemiterator",_,hT,PySem.F.slot_dict_itemiterator_next.lookup,h⟩
def iView (tl:TE):TI:=fun σ H R=>tl σ H fun x H1=>∃ v d kvs,x=.ref v/\H1 v=some (nI v d)/\H1 d=some (.dK kvs)/\∀ o,R (Iti d o kvs) (upd H1 d (.frz o (.dK kvs)))
section
variable {X:Cx}
theorem Q1 {es:List Expr}{k:Nat}{tpos:Pos}{l:Expr}{tl:TE} (hl:PE X l tl):PI X (.Tuple es k tpos) l (iView tl):=by
 intro aa s σ H R I h;refine thn (hl aa s σ H _ I h) fun w s1=>L2.ex5 fun x H1 I1 r1 bi=>?_
 obtain⟨v,d,kvs,e,hv,hd,q⟩:=bi;subst e;obtain rfl:w=Value.ref v:=r1;obtain⟨z,nM,vs,rel,dd⟩:=qP I1.hok hd;obtain⟨o,gr,ep,ho,hx,au,r⟩:=id dd;have jr:s1.heap.DictAt (cr X.prog X.w) d vs ep:=⟨o,gr,ho,hx,au,r⟩;refine wpAny_pyIter_items (I1.hok _ _ hv).1 jr ?_;have I2:=(I1.freeze hd ho).kept (t':=s1.toks) (h':=s1.heap.push { cls:=.type "dict_itemiterator",data:=.fields #[.none,.bool false,.ref d,.int 0 0,.int vs.length 0,.int ep 0,.none,.none] }) fun b o e=>Ve _ e
 refine⟨s1.heap.objs.size,[s1.heap.objs.size],_,_,_,rfl,I2,RF,⟨gr,ep,.none,.none,au,?_⟩,fun b hb=>?_,q o⟩
 ·rw[rel.length];exact Vm _ rfl
 ·have e:b=s1.heap.objs.size:=by simpa using hb
  subst e;refine I1.fpOk (Vh _) ?_;rw[aj (Ne.symm (Vq (Vk ho)))];exact I1.hok.fresh (Vh _)
end
end L2
namespace L2
open PySem PySem.Spec PyProof.Rows
section
variable {g:TG}{tt:TT}{te:TE}
theorem K7 {K:PySem.W.Frag}{l1 l2 D:Addr}{xs ys:List V}{τ:St}{H:Hp}{Q:VK} (ai:xs.length=ys.length) (Pv:Nat->St->Hp->Prop) (h0:Pv 0 τ H) (hl:∀ i τ H,i<=xs.length->Pv i τ H->SqL K H l1 xs/\SqL K H l2 ys)
  (hs:∀ i x y T τ H,xs[i]?=some x->ys[i]?=some y->H T=none->Pv i τ H->g (.ref T) τ (upd H T (.tup [x,y])) fun τ2 H2=>tt τ2 H2 fun b H3=>
   if b=true then te τ2 H3 fun y H4=>∃ ys,H4 D=some (.lst ys)/\ys.length<sizeLine/\Pv (i + 1) τ2 (upd H4 D (.lst (ys++[y]))) else Pv (i + 1) τ2 H3)
  (hd:∀ τ H,Pv xs.length τ H->Q (.ref D) H):pX (Itz K l1 l2) D τ H g tt te Q:=by
 refine⟨fun i m τ H=>m=xs.length - i/\i<=xs.length/\Pv i τ H,⟨xs.length,by simp,VU _,h0⟩,?_⟩;rintro i m τ H ⟨rfl,hi,p⟩
 obtain⟨q1,q2⟩:=hl i τ H hi p;by_cases aE:i<xs.length
 ·have px:i<ys.length:=by omega
  refine .inr ⟨⟨xs,ys,xs[i],ys[i],q1,q2,by simp[aE],by simp[px]⟩,Pv (i + 1),fun τ' H' p'=>⟨xs.length - (i + 1),by omega,rfl,aE,p'⟩,fun v H' y=>?_⟩;obtain⟨T,x,y,rfl,hT,rfl,hx,hy⟩:=y;exact hs i x y T τ H (hx xs q1) (hy ys q2) hT p
 ·have e:i=xs.length:=by omega
  subst e;exact .inl ⟨⟨xs,ys,q1,q2,.inl (Vh _)⟩,hd τ H p⟩
end
end L2
namespace L2
open PySem PySem.Spec PyProof.Rows
theorem Lz:bootBuiltins "list"=some (.type "list"):=by decide +kernel
theorem Fo:bootBuiltins "dict"=some (.type "dict"):=by decide +kernel
theorem bt_all:bootBuiltins "all"=some (.builtin "all"):=by decide +kernel
theorem LW:bootBuiltins "any"=some (.builtin "any"):=by decide +kernel
theorem eS:bootBuiltins "len"=some (.builtin "len"):=by decide +kernel
theorem bt_abs:bootBuiltins "abs"=some (.builtin "abs"):=by decide +kernel
theorem Gk:bootBuiltins "min"=some (.builtin "min"):=by decide +kernel
theorem bt_max:bootBuiltins "max"=some (.builtin "max"):=by decide +kernel
theorem JR:bootBuiltins "sum"=some (.builtin "sum"):=by decide +kernel
theorem Qp (bs:List Bool) (d:Bool):(List.range bs.length).all (fun i=>bs.getD i d)=bs.all id:=by
 induction bs with
 | nil=>rfl
 | cons b bs ih=>
  rw[Vw,Xc,Ya,Yg,Ya,<- ih];rfl
theorem R6 (bs:List Bool) (d:Bool):(List.range bs.length).any (fun i=>bs.getD i d)=bs.any id:=by
 induction bs with
 | nil=>rfl
 | cons b bs ih=>
  rw[Vw,Xc,W3,XQ,W3,<- ih];rfl
theorem K2 {bs:List Bool}{us:List Value} (r:aw (bs.map V.bl) us){i:Nat}{v:Value} (h:us[i]?=some v):v=.bool (bs.getD i true):=by
 have hl:(bs.map V.bl).length=us.length:=r.length;have hi:i<bs.length:=by
  have:=(List.getElem?_eq_some_iff.mp h).1;rw[Vd] at hl;omega
 obtain⟨u,hu,ru⟩:=r.get (i:=i) (x:=.bl bs[i]) (by simp[hi]);rw[h] at hu;cases hu
 rw[Vf,Vg hi];exact ru
section
variable {X:Cx}
theorem QF:iC X (.builtin "all") (fun xs H Q=>∃ p,∃ bs:List Bool,xs=[.ref p]/\SqL X.K H p (bs.map V.bl)/\Q (.bl (bs.all id)) H):=by
 intro aa s σ H xs us Q I r h;obtain⟨p,bs,rfl,hq,q⟩:=h;obtain⟨u,rfl,ru⟩:=hU r;obtain rfl:u=Value.ref p:=ru;obtain⟨its,rv,pl,_⟩:=I.list hq;obtain⟨cs,cP,ch⟩:=I.hd.chain;have aE:p<s.heap.objs.size:=by obtain⟨o,e,_⟩:=pl.isList;exact Vk e
 have c8:s.heap.objs.size∉cs:=fun z=>VE _ (ch.lt _ z)
 have ai:its.length=bs.length:=by rw[<- rv.length,Vd]
 refine call_all_walk (Wk pl.isList ⟨s.heap.objs.size,_,_,_,_,_,fun i=>bs.getD i true,rfl,rN (A:=X.A.in1) cP s.heap.objs.size p (Vq aE) c8 its.toArray,⟨⟨_,Vm _ rfl,rfl,rfl⟩,pl.isList.push _,ch.mono fun b o _ e=>Ve _ e⟩,?_,fun h' tk hk=>?_⟩)
 ·intro i v s' Q' E' hv Ei
  have eE:its[i]?=some v:=by simpa using hv
  rw[K2 rv eE];exact Ws Ei
 ·have e:(List.range its.toArray.size).all (fun i=>bs.getD i true)=bs.all id:=by rw[Vx,ai];exact Qp bs true
  rw[e];exact⟨.bl _,H,I.kept fun b o e=>hk b o (fun z=>by
   have:b=s.heap.objs.size:=by simpa using z
   exact absurd (Vk e) (by rw[this];exact VE _)) (Ve _ e),rfl,q⟩
theorem JX:iC X (.builtin "any") (fun xs H Q=>∃ p,∃ bs:List Bool,xs=[.ref p]/\SqL X.K H p (bs.map V.bl)/\Q (.bl (bs.any id)) H):=by
 intro aa s σ H xs us Q I r h;obtain⟨p,bs,rfl,hq,q⟩:=h;obtain⟨u,rfl,ru⟩:=hU r;obtain rfl:u=Value.ref p:=ru;obtain⟨its,rv,pl,_⟩:=I.list hq;obtain⟨cs,cP,ch⟩:=I.hd.chain;have aE:p<s.heap.objs.size:=by obtain⟨o,e,_⟩:=pl.isList;exact Vk e
 have c8:s.heap.objs.size∉cs:=fun z=>VE _ (ch.lt _ z)
 have ai:its.length=bs.length:=by rw[<- rv.length,Vd]
 refine call_any_walk (Wk pl.isList ⟨s.heap.objs.size,_,_,_,_,_,fun i=>bs.getD i true,rfl,rN (A:=X.A.in1) cP s.heap.objs.size p (Vq aE) c8 its.toArray,⟨⟨_,Vm _ rfl,rfl,rfl⟩,pl.isList.push _,ch.mono fun b o _ e=>Ve _ e⟩,?_,fun h' tk hk=>?_⟩)
 ·intro i v s' Q' E' hv Ei
  have eE:its[i]?=some v:=by simpa using hv
  rw[K2 rv eE];exact Ws Ei
 ·have e:(List.range its.toArray.size).any (fun i=>bs.getD i true)=bs.any id:=by rw[Vx,ai];exact R6 bs true
  rw[e];exact⟨.bl _,H,I.kept fun b o e=>hk b o (fun z=>by
   have:b=s.heap.objs.size:=by simpa using z
   exact absurd (Vk e) (by rw[this];exact VE _)) (Ve _ e),rfl,q⟩
end
end L2
namespace L2
open PySem PySem.Spec PyProof.Rows
section
variable {X:Cx}{K:PySem.W.Frag} (hK:X.K=K)
include hK
theorem FI:IxR X (rIxL K):=hK ▸ bq
theorem zW:IxR X (rIxT K):=hK ▸ eW
theorem FB {e:Expr}{f:Str}{pos:Pos}{ta:TE} (he:PE X e ta) (hb:attributeBase e f X.env (eval e X.env)=eval e X.env):PE X (.Attribute e f pos) (tFld K ta f):=hK ▸ bI he hb
theorem ld {es:List Expr}{k:Nat}{pos:Pos}{t:TGs}{n:Nat} (hc:X.calm=true) (h:PGs X es t) (hn:(assignEach es X.env).length=n:=by rfl) (cJ:(assignEach es X.env).findIdx? (·.1)=none:=by rfl):PG X (.Tuple es k pos) (gTup K n t):=hK ▸ fE hc h hn cJ
end
end L2
namespace L2
open PySem PySem.Spec PyProof.Rows
section
variable {prog:Program}{w:World}{A:Around}{E:Value->Shared->Prop}{s:Shared}{cs:List Addr}
theorem Tw (hc:HdC A cs) (I ax:Addr) (fh:ax≠I) (hI:I∉cs) (items:Array Value) :
  Walks prog w A I (I::ax::cs) [I] items.size (fun i v=>items[i]?=some v) (fun i h=>h.IsTupleIter I ax i/\h.IsTuple ax items/\Chn h cs) where
 sub:=fun b hb=>by simp at hb;simp[hb]
 frame:=fun _ _ _ st hk=>⟨st.1.at fun o e=>hk I (by simp) o e,st.2.1.at fun o e=>hk ax (by simp) o e,st.2.2.mono fun b o hb e=>hk b (by simp[hb]) o e⟩
 item:=fun i s Q E hi st hQ=>by
  refine wpAny_pyNext_tuple_item st.1 st.2.1 (x:=items[i]) (by simp[hi]) fun h' bR a8=>?_
  exact hQ _ h' s.toks (by simp[hi]) ⟨bR,st.2.1.extBut a8.extBut fh,st.2.2.but hI a8.extBut⟩ fun b o hb e=>a8.extBut b o (fun h=>hb (by simp[h])) e
 done:=fun s Q E st hQ=>Jr (hc.hd st.2.2) st.1 st.2.1 (by simp) fun h' dX=>hQ h' s.toks fun b o hb e=>dX b o (fun h=>hb (by simp[h])) e
 self:=fun _ _ _ _ st hQ=>wpAny_pyIter_tupleiter st.1 hQ
theorem min2H {a b:Int}{t u:Tok}{Q:Value->Shared->Prop} (hc:HdC A cs) (ch:Chn s.heap cs)
  (h:∀ h' tk,(∀ c o,s.heap.get? c=some o->h'.get? c=some o)->Q (if b<a then .int b u else .int a t) { s with heap:=h',toks:=tk }) :
  wpAny (model prog w) A (call (.builtin "min") [.int a t,.int b u]) Q E s:=by
 have hT:(s.heap.push { cls:=.type "tuple",data:=.seq #[.int a t,.int b u] }).IsTuple s.heap.objs.size (intItems #[(a,t),(b,u)]):=⟨_,Vm _ rfl,rfl,0,by simp[intItems]⟩;refine call_min_two (wpAny_pyIter_tuple hT ?_);have hsz:(s.heap.push { cls:=.type "tuple",data:=.seq #[.int a t,.int b u] }).objs.size=s.heap.objs.size + 1:=VI ..;have ns:∀ k,s.heap.objs.size<=k->k∉cs:=fun k hk z=>absurd (ch.lt _ z) (Nat.not_lt.mpr hk)
 refine⟨_,_,[_],_,_,_,_,rfl,Tw (A:=A.in1) hc _ s.heap.objs.size (by rw[hsz];exact Vq (Wa _)) (ns _ (by rw[hsz];exact V8 _)) (intItems #[(a,t),(b,u)]),
  ⟨⟨_,Vm _ rfl,rfl,rfl⟩,hT.push _,ch.mono fun b o _ e=>Ve _ (Ve _ e)⟩,fun c hc=>?_,by simp[intItems],CmpOf.ints_lt (numAt #[(a,t),(b,u)]) (fun _ _=>intItems_at),fun v h' tk hP hk=>?_⟩
 ·show c<((s.heap.push _).push _).objs.size
  rw[VI,hsz];rcases VH.mp hc with rfl|hc
  ·rw[hsz];exact Wa _
  ·rcases VH.mp hc with rfl|hc
   ·exact V7 (Wa _)
   ·exact Vy (ch.lt _ hc) (by omega)
 ·have Em:∀ c o,s.heap.get? c=some o->h'.get? c=some o:=fun c o e=>by
   refine hk c o (fun hm=>?_) (Ve _ (Ve _ e));have e1:=W7.mp hm;have:=Vk e;rw[e1,hsz] at this;exact VE _ (Yq this)
  have:=h h' tk Em;have hv:v=if b<a then Value.int b u else Value.int a t:=by
   have jQ:(intItems #[(a,t),(b,u)])[argBest (fun i j=>decide (numAt #[(a,t),(b,u)] i<numAt #[(a,t),(b,u)] j)) 1]?=some v:=by
    have B5:(intItems #[(a,t),(b,u)]).size - 1=1:=by simp[intItems]
    rw[<- B5];exact hP
   by_cases AA:b<a
   ·have e:argBest (fun i j=>decide (numAt #[(a,t),(b,u)] i<numAt #[(a,t),(b,u)] j)) 1=1:=by simp[argBest,numAt,AA]
    rw[e] at jQ
    simpa [intItems,AA] using jQ.symm
   ·have e:argBest (fun i j=>decide (numAt #[(a,t),(b,u)] i<numAt #[(a,t),(b,u)] j)) 1=0:=by simp[argBest,numAt,AA]
    rw[e] at jQ
    simpa [intItems,AA] using jQ.symm
  rw[hv];exact this
section
variable {κ:Type} [DecidableEq κ] {knd:KeyKind prog w κ}
end
end
section
variable {X:Cx}
theorem Qy:iC X (.builtin "min") (fun xs H Q=>∃ i j,xs=[.int i,.int j]/\Q (.int (if j<i then j else i)) H):=by
 intro aa s σ H xs us Q I r h;obtain⟨i,j,rfl,q⟩:=h;obtain⟨u,w',rfl,⟨t,rfl⟩,⟨t',rfl⟩⟩:=y9 r;obtain⟨cs,cP,ch⟩:=I.hd.chain;refine min2H cP ch fun h' tk k=>⟨_,H,I.kept k,?_,q⟩
 by_cases hj:j<i
 ·rw[if_pos hj,if_pos hj];exact⟨_,rfl⟩
 ·rw[if_neg hj,if_neg hj];exact⟨_,rfl⟩
end
end L2
namespace L2
open PySem PySem.Spec PyProof.Rows
section
variable {prog:Program}{w:World}{A:Around}{E:Value->Shared->Prop}{s:Shared}{cs:List Addr}
end
section
variable {X:Cx}
theorem zC {ns:List Int}{us:List Value} (r:aw (ns.map V.int) us){i:Nat}{v:Value} (h:us[i]?=some v):∃ t,v=.int (ns.getD i 0) t:=by
 induction ns generalizing us i with
 | nil=>
  cases r
  simp at h
 | cons n ns ih=>
  cases r with
  | cons rv rr=>
   cases i with
   | zero=>
    obtain⟨t,rfl⟩:=rv;simp at h
    exact⟨t,h.symm⟩
   | succ i=>exact ih rr (by simpa using h)
theorem TJ (f:Nat->Int) (ns:List Int) (h:∀ i,f i=ns.getD i 0):preSum f ns.length=ns.sum:=by
 have e:f=fun i=>ns.getD i 0:=funext h
 rw[e,preSum_getD,Vv]
theorem Kg:iC X (.builtin "sum") (fun xs H Q=>∃ p,∃ ns:List Int,xs=[.ref p]/\SqL X.K H p (ns.map V.int)/\Q (.int ns.sum) H):=by
 intro aa s σ H xs us Q I r h;obtain⟨p,ns,rfl,hq,q⟩:=h;obtain⟨u,rfl,ru⟩:=hU r;obtain rfl:u=Value.ref p:=ru;obtain⟨its,rv,pl,_⟩:=I.list hq;obtain⟨cs,cP,ch⟩:=I.hd.chain;have aE:p<s.heap.objs.size:=by obtain⟨o,e,_⟩:=pl.isList;exact Vk e
 have c8:s.heap.objs.size∉cs:=fun z=>VE _ (ch.lt _ z)
 have ai:its.length=ns.length:=by rw[<- rv.length,Vd]
 refine call_sum_walkG (Wk pl.isList ⟨s.heap.objs.size,_,_,_,_,_,fun i=>ns.getD i 0,rfl,rN (A:=X.A.in1) cP s.heap.objs.size p (Vq aE) c8 its.toArray,⟨⟨_,Vm _ rfl,rfl,rfl⟩,pl.isList.push _,ch.mono fun b o _ e=>Ve _ e⟩,?_,?_,fun h' tk t' hk=>?_⟩)
 ·intro b hb
  show b<(s.heap.push _).objs.size;rw[VI];rcases VH.mp hb with rfl|hb
  ·exact Wa _
  ·rcases VH.mp hb with rfl|hb
   ·exact V7 aE
   ·exact V7 (ch.lt _ hb)
 ·intro i v hv
  exact zC rv (by simpa using hv)
 ·have e:preSum (fun i=>ns.getD i 0) its.toArray.size=ns.sum:=by rw[Vx,ai];exact TJ _ _ fun _=>rfl
  rw[e];exact⟨.int _,H,I.kept fun b o e=>hk b o (fun z=>by
   have:b=s.heap.objs.size:=by simpa using z
   exact absurd (Vk e) (by rw[this];exact VE _)) (Ve _ e),⟨_,rfl⟩,q⟩
theorem T7:OpR X (compareOp .IsNot) (fun x y H Q=>∃ c d,x=.bl c/\y=.bl d/\Q (.bl (c != d)) H):=by
 intro aa s σ H x y v u Q I rx ry h;obtain⟨c,d,rfl,rfl,q⟩:=h;cases rx
 cases ry
 exact isnot_bool (bL I q rfl)
end
end L2
namespace L2
open PySem
theorem nL {P:List Value->Prop} (h:∀ a0,P [a0]):∀ us:List Value,us.length=1->P us
 | [a0],_=>h a0
theorem j9 {P:List Value->Prop} (h:∀ a0 a1,P [a0,a1]):∀ us:List Value,us.length=2->P us
 | [a0,a1],_=>h a0 a1
theorem li {P:List Value->Prop} (h:∀ a0 a1 a2,P [a0,a1,a2]):∀ us:List Value,us.length=3->P us
 | [a0,a1,a2],_=>h a0 a1 a2
theorem len4 {P:List Value->Prop} (h:∀ a0 a1 a2 a3,P [a0,a1,a2,a3]):∀ us:List Value,us.length=4->P us
 | [a0,a1,a2,a3],_=>h a0 a1 a2 a3
theorem len5 {P:List Value->Prop} (h:∀ a0 a1 a2 a3 a4,P [a0,a1,a2,a3,a4]):∀ us:List Value,us.length=5->P us
 | [a0,a1,a2,a3,a4],_=>h a0 a1 a2 a3 a4
theorem len6 {P:List Value->Prop} (h:∀ a0 a1 a2 a3 a4 a5,P [a0,a1,a2,a3,a4,a5]):∀ us:List Value,us.length=6->P us
 | [a0,a1,a2,a3,a4,a5],_=>h a0 a1 a2 a3 a4 a5
theorem iteYes {A B:Prop}{b:Bool} (hb:b=true) (h:A):if b=true then A else B:=by
 subst hb;exact gb h
theorem cS {A B:Prop}{b:Bool} (h1:b=true->A) (h2:b=false->B):if b=true then A else B:=by
 cases b with
 | true=>exact gb (h1 rfl)
 | false=>exact ka (h2 rfl)
def isTup:HO->Bool
 | .tup _=>true
 | .frz _ (.tup _)=>true
 | _=>false
def Tk (H H':Hp):Prop:=∀ b o,H b=some o->isTup o=true->H' b=some o
theorem Tk.of {H H':Hp} (e:ad H H'):Tk H H':=fun b o h _=>e b o h
theorem Tk.trans {H H1 H2:Hp} (a:Tk H H1) (b:Tk H1 H2):Tk H H2:=fun c o h z=>b c o (a c o h z) z
theorem Tk.upd {H:Hp}{c:Addr}{u o:HO} (h:H c=some u) (n:isTup u=false):Tk H (L2.upd H c o):=fun b w e z=>by
 have:b≠c:=fun q=>by subst q;rw[h] at e;cases e;rw[n] at z;cases z
 rw[aj this];exact e
theorem Tk.sqT {K:PySem.W.Frag}{H H':Hp}{a:Addr}{xs:List V} (e:Tk H H') (h:SqT K H a xs):SqT K H' a xs:=by
 rcases h with(h|⟨o,h⟩)|h
 ·exact .inl (.inl (e _ _ h rfl))
 ·exact .inl (.inr ⟨o,e _ _ h rfl⟩)
 ·exact .inr h
mutual
def A7:Dt->Bool
 | .lst _=>false
 | .tup ds=>zu ds
 | _=>true
def zu:List Dt->Bool
 | []=>true
 | d::ds=>A7 d && zu ds
end
mutual
theorem Tk.dt {K:PySem.W.Frag}{H H':Hp} (e:Tk H H'):∀ {d:Dt}{x:V},A7 d=true->DtV K H d x->DtV K H' d x
 | .non,_,_,h=>h
 | .bl _,_,_,h=>h
 | .int _,_,_,h=>h
 | .str _,_,_,h=>h
 | .lst ds,_,z,h=>by cases z
 | .tup ds,_,z,h=>by
  obtain⟨a,xs,e1,h1,h2⟩:=h;exact⟨a,xs,e1,e.sqT h1,e.dts z h2⟩
theorem Tk.dts {K:PySem.W.Frag}{H H':Hp} (e:Tk H H'):∀ {ds:List Dt}{xs:List V},zu ds=true->aN K H ds xs->aN K H' ds xs
 | [],_,_,h=>h
 | d::ds,_,z,h=>by
  obtain⟨y,ys,e1,h1,h2⟩:=h;have z':=(VT _ _).mp z;exact⟨y,ys,e1,e.dt z'.1 h1,e.dts z'.2 h2⟩
end
theorem dz {α:Type}{f:α->Dt} (h:∀ x,A7 (f x)=true):∀ l:List α,zu (l.map f)=true
 | []=>rfl
 | x::l=>by
  show(A7 (f x) && zu (l.map f))=true;rw[h x,dz h l];rfl
theorem KZ {α:Type}{f:α->Dt}{n:Nat} (h:∀ x,nu n (f x)) (l:List α):eV n (l.map f):=eV.of fun d hd=>by
 obtain⟨x,_,rfl⟩:=List.mem_map.mp hd;exact h x
theorem eX {K:PySem.W.Frag}{H:Hp}{α:Type}{f:α->Dt}{l:List α}{xs:List V}{i:Nat}{x:V} (h:aN K H (l.map f) xs) (e:xs[i]?=some x):∃ q,l[i]?=some q/\DtV K H (f q) x:=by
 have hi:i<l.length:=by
  have h1:=h.length;rw[Vd] at h1;have:=(List.getElem?_eq_some_iff.mp e).1;omega
 obtain⟨q,hq⟩:=gJ hi;obtain⟨y,hy,hd⟩:=h.get (j:=i) (d:=f q) (by rw[Vp,hq];rfl);rw[e] at hy;cases hy
 exact⟨q,hq,hd⟩
theorem zam {α:Type}{l:List α}{i:Nat}{q:α} (h:l[i]?=some q):l.take (i + 1)=l.take i++[q]:=by
 rw[XE,h];rfl
def Tps (H:Hp) (xs:List V):Prop:=∀ x∈xs,∃ q zs,x=V.ref q/\H q=some (.tup zs)
theorem at_int {ns:List Int}{k:Int} (h0:0<=k) (h1:k<ns.length):∃ c,atI (ns.map V.int) k=some (.int c):=by
 refine⟨ns.getD k.toNat 0,?_⟩;unfold atI ixN;rw[if_pos h0,if_pos (by rw[Vd];exact h1)];show(ns.map V.int)[k.toNat]?=_;rw[Vp,Vf,Vg (show k.toNat<ns.length by omega)];rfl
theorem Lv {ss:List Str}{k:Int} (h0:0<=k) (h1:k<ss.length):∃ s,s∈ss/\atI (ss.map V.str) k=some (.str s):=by
 have hk:k.toNat<ss.length:=by omega
 refine⟨ss[k.toNat],WI hk,?_⟩;unfold atI ixN;rw[if_pos h0,if_pos (by rw[Vd];exact h1)];show(ss.map V.str)[k.toNat]?=_;rw[Vp,Vg hk];rfl
theorem Kl {x:V}{r:List V}:atI (x::r) 0=some x:=by
 unfold atI ixN;rw[if_pos (by decide),if_pos (by rw[Vw];omega)];rfl
theorem LX {x y:V}{r:List V}:atI (x::y::r) 1=some y:=by
 unfold atI ixN;rw[if_pos (by decide),if_pos (by rw[Vw,Vw];omega)];rfl
theorem TR (ns:List Int) (lo hi:Option Int):∃ ms:List Int,dW (ns.map V.int) lo hi=ms.map V.int/\ms.length<=ns.length:=by
 refine⟨(ns.drop (HT.sIx (ns.map V.int).length 0 lo)).take (HT.sIx (ns.map V.int).length (ns.map V.int).length hi - HT.sIx (ns.map V.int).length 0 lo),?_,?_⟩
 ·unfold dW
  rw[Yb,List.map_drop]
 ·rw[Vs,Wv]
  omega
theorem joinS {α:Type}{f:St->Hp->Prop} (σ:α->St) (I:α->Hp->Prop){G:Prop} (h:∀ x H,I x H->f (σ x) H) (g:(∀ x H,I x H->f (σ x) H)->G):G:=g h
def pz (ps:List Int) (k:Int):Int:=ps.getD k.toNat 0
theorem at_pz {ps:List Int}{k:Int} (h0:0<=k) (h1:k<ps.length):atI (ps.map V.int) k=some (.int (pz ps k)):=by
 unfold atI ixN pz;rw[if_pos h0,if_pos (by rw[Vd];exact h1)];show(ps.map V.int)[k.toNat]?=_;rw[Vp,Vf,Vg (show k.toNat<ps.length by omega)];rfl
theorem mZ {n:Nat}{k:Int} (h0:0<=k) (h1:k<n):ixN n k=some k.toNat:=by
 unfold ixN;rw[if_pos h0,if_pos h1]
theorem jH {α:Type}{xs:List α}{k:Int} (h0:0<=k):atI xs k=xs[k.toNat]?:=by
 unfold atI ixN;rw[if_pos h0];by_cases h:k<xs.length
 ·rw[if_pos h];rfl
 ·rw[if_neg h]
  show none=_;rw[WD (by omega)]
theorem Gf {K:PySem.W.Frag}{H:Hp}:∀ ns:List Int,aN K H (ns.map Dt.int) (ns.map V.int)
 | []=>rfl
 | _::r=>⟨_,_,rfl,rfl,Gf r⟩
theorem Ri {n:Nat} (ns:List Int):eV n (ns.map Dt.int):=KZ (fun _=>by cases n <;> trivial) _
end L2
namespace L2
open PySem PySem.Spec PyProof.Rows
def Ite (K:PySem.W.Frag) (l:Addr):It:=
  ⟨fun i H=>∃ xs x,SqL K H l xs/\xs[i]?=some x,
   fun i H v H'=>∃ T x,v=.ref T/\H T=none/\H'=upd H T (.tup [.int i,x])/\∀ xs,SqL K H l xs->xs[i]?=some x,
   fun i H=>∃ xs,SqL K H l xs/\xs.length<=i⟩
section
variable {prog:Program}{w:World}{A:Around}{E:Value->Shared->Prop}{s:Shared}
theorem PU {e it l:Addr}{i:Nat}{items:Array Value}{old:Value}{Q:Option Value->Shared->Prop} (hd:Hd A s.heap)
  (he:IsEnum s.heap e it i old) (aI:s.heap.IsListIter it l i) (hl:s.heap.IsList l items) (hx:items[i]?=none)
  (hQ:∀ h',Heap.ExtBut it s.heap h'->Q none { s with heap:=h' }):wpAny (model prog w) A (pyNext (.ref e)) Q E s:=by
 have ht:s.TypeIs (.ref e) "enumerate":=⟨_,he,rfl⟩;unfold pyNext;refine oW (Wx (VP (name:=Str.ofString "__next__") ht F.slot_enumerate_next (V6 F.slot_enumerate_next ht F.entry_enumerate_next ?_ (F.args_enumerate_next_1 _))));refine(show wpAny _ _ (field (.ref e) 2 >>= _) _ _ _ from oW (VF he rfl (x:=.ref it) rfl ?_));refine oW (qT (A:=A.in1) hd aI hl hx fun h' x dX d5=>?_);obtain⟨o,ho,hc⟩:=d5;exact oW (Wu (T:="StopIteration") (b:=true) ⟨o,ho,hc⟩ isSubtype_stop (Vi (hQ _ dX)))
end
def EnumIt (h:Heap) (e it l:Addr) (i:Nat):Prop:=∃ old,IsEnum h e it (i:Int) old/\h.IsListIter it l i
theorem S2 {P:Program}{w:World}{K:PySem.W.Frag}{es:List Expr}{k:Nat}{pos:Pos}{e it l:Addr} (fh:e≠it) :
  m5 P w K (.Tuple es k pos) (Ite K l) [e,it] e (fun i h=>EnumIt h e it l i) where
 mem:=by simp
 obj:=fun i h st b hb=>by
  obtain⟨old,he,⟨o1,e1,c1,d1⟩⟩:=st;simp only[VH,VC,or_false] at hb
  rcases hb with rfl|rfl
  ·exact⟨_,he,fun v q=>by simp at q⟩
  ·exact⟨_,e1,fun v q=>by rw[d1] at q;cases q⟩
 keep:=fun i h h' st k=>by
  obtain⟨old,he,h1⟩:=st;exact⟨old,k e (by simp) _ he,h1.at fun o q=>k it (by simp) o q⟩
 item:=by
  intro X hP hw hK hc i aa s σ H E I hf st hg;subst hP hw hK;obtain⟨xs,x,q1,hx⟩:=hg;obtain⟨old,he,h1⟩:=st;obtain⟨its,rv,pl,_⟩:=I.list q1;obtain⟨u,hu,ru⟩:=rv.get hx;have nf:∀ b∈[e,it],b∉frs X.stack:=fun b hb q=>(VH.mp (I.stkSub b q)).elim (hf b hb).2.1 (hf b hb).2.2.1
  refine wpAny_pyNext_enum_item he h1 pl.isList (x:=u) (by simpa using hu) fh fun h' a1 a2 a3 a4 hk=>⟨_,rfl,?_⟩
  refine XB (s:={ s with heap:=h',toks:=s.toks + 1 }) a1 fun h'' jz a8=>?_
  replace a8:Heap.SameBut e h' h'':=a8
  have oz:H s.heap.objs.size=none:=I.hok.fresh (Vh _);have Ef:=Vk he;have ow:∀ b o,b≠e->b≠it->s.heap.get? b=some o->h''.get? b=some o:=fun b o n1 n2 q=>a8.extBut b o n1 (hk b o n1 n2 q)
  have I1:Inv X aa σ (upd H s.heap.objs.size (.tup [.int i,x])) { s with heap:=s.heap.push { cls:=.type "tuple",data:=.seq #[.int i s.toks,u] },toks:=s.toks + 1 }:=
   I.laid (t':=s.toks + 1) (fun b o q=>Ve _ q) (Vh _) ⟨by show 2<=sizeLine;decide,[.int i s.toks,u],.cons ⟨_,rfl⟩ (.cons ru .nil),⟨_,Vm _ rfl,rfl,_,rfl⟩⟩
  have lT:∀ b∈[e,it],bC X aa (upd H s.heap.objs.size (.tup [.int i,x])) b:=fun b hb=>by
   obtain⟨f0,r⟩:=hf b hb;refine⟨?_,r⟩;have lt:b<s.heap.objs.size:=by
    simp only[VH,VC,or_false] at hb
    rcases hb with rfl|rfl
    ·exact Ef
    ·obtain⟨o,q,_⟩:=h1;exact Vk q
   rw[aj (Vq lt)];exact f0
  have I2:Inv X aa σ (upd H s.heap.objs.size (.tup [.int i,x])) { s with heap:=h'',toks:=s.toks + 1 }:=by
   have back:∀ b o,(s.heap.push { cls:=.type "tuple",data:=.seq #[.int i s.toks,u] }).get? b=some o->b≠e->b≠it->h''.get? b=some o:=fun b o q n1 n2=>by
    rcases W0 q with⟨rfl,rfl⟩|q
    ·exact a8.extBut _ _ n1 a3
    ·exact ow b o n1 n2 q
   refine I1.slots (ch:=[e,it]) (tk:=s.toks + 1) lT (fun b o _ hc q=>?_) (fun b o hb q=>⟨o.slots,?_⟩) (fun b hb o q=>?_)
   ·simp only[VH,VC,or_false,not_or] at hc
    exact back b o q hc.1 hc.2
   ·exact back b o q (fun z=>nf e (by simp) (z ▸ hb)) (fun z=>nf it (by simp) (z ▸ hb))
   ·simp only[VH,VC,or_false] at hb
    rcases hb with rfl|rfl
    ·exact⟨_,jz⟩
    ·obtain⟨o,q,_⟩:=a2;exact⟨_,a8.extBut _ _ fh.symm q⟩
  refine⟨.ref s.heap.objs.size,_,I2,rfl,⟨_,x,rfl,oz,rfl,fun Jh q=>by rw[I.list_inj q q1];exact hx⟩,?_,fun b hb=>(lT b hb).1⟩;exact⟨u,jz,a2.extBut a8.extBut fh.symm⟩
 done:=by
  intro X hP hw hK hc i aa s σ H E I hf st hg;subst hP hw hK;obtain⟨xs,q1,ai⟩:=hg;obtain⟨old,he,h1⟩:=st;obtain⟨its,rv,pl,_⟩:=I.list q1;have e1:=rv.length;have nf:∀ b∈[e,it],b∉frs X.stack:=fun b hb q=>(VH.mp (I.stkSub b q)).elim (hf b hb).2.1 (hf b hb).2.2.1
  refine PU I.hd he h1 pl.isList (by simp;omega) fun h' hk=>⟨rfl,?_⟩
  refine I.slot0 (ch:=[e,it]) (tk:=s.toks) hf (fun b o _ hc q=>?_) (fun b o hb q=>⟨o.slots,?_⟩)
  ·simp only[VH,VC,or_false,not_or] at hc
   exact hk b o hc.2 q
  ·exact hk b o (fun z=>nf it (by simp) (z ▸ hb)) q
 self:=fun _ _ s _ _ st h=>by
  obtain⟨old,he,_⟩:=st;exact W9 he h
def iEnum (K:PySem.W.Frag) (ta:TA):TI:=fun σ H R=>ta σ H fun vs H1=>∃ l,vs=[.ref l]/\(∃ xs,SqL K H1 l xs)/\R (Ite K l) H1
section
variable {X:Cx}
theorem pO {es:List Expr}{k:Nat}{tpos p pos:Pos}{a:Expr}{ta:TA} (hg:Gl X "enumerate") (hm:X.mg "enumerate"=none) (ha:PA X [a] ta) (hs:starEach [a] X.env=[(false,eval a X.env)]:=by rfl) :
  PI X (.Tuple es k tpos) (.Call (.Name "enumerate" p) [a] [] pos) (iEnum X.K ta):=by
 intro aa s σ H R I h;refine Call_ (iD I hg hm boot_enumerate (PyProof.Rows.callWith_type1 (thn (ha pos aa s σ H _ I h) fun us s1=>L2.ex5 fun vs H1 I1 r1 bi=>?_) hs rfl));obtain⟨l,e,⟨xs,q1⟩,q⟩:=bi;subst e;obtain⟨u,rfl,ru⟩:=hU r1;obtain rfl:u=Value.ref l:=ru;obtain⟨its,rv,pl,_⟩:=I1.list q1;refine call_enumerate_list pl.isList fun h' b1 b2 b3 hk=>?_
 refine W9 (s:={ s1 with heap:=h' }) b1 ?_;refine⟨s1.heap.objs.size + 1,[s1.heap.objs.size + 1,s1.heap.objs.size],_,_,H1,rfl,I1.kept (t':=s1.toks) hk,S2 (V9 (Wa _)),⟨_,b1,b2⟩,fun b hb=>?_,q⟩;have ge:s1.heap.objs.size<=b:=by
  simp only[VH,VC,or_false] at hb
  rcases hb with rfl|rfl
  ·exact VO _ _
  ·exact Vh _
 exact I1.fpOk ge (I1.hok.fresh ge)
theorem Qs {K:PySem.W.Frag}{l D:Addr}{xs:List V}{g:TG}{tt:TT}{te:TE}{τ:St}{H:Hp}{Q:VK} (Pv:Nat->St->Hp->Prop) (h0:Pv 0 τ H) (hl:∀ i τ H,i<=xs.length->Pv i τ H->SqL K H l xs)
  (hs:∀ i x T τ H,xs[i]?=some x->H T=none->Pv i τ H->g (.ref T) τ (upd H T (.tup [.int i,x])) fun τ2 H2=>tt τ2 H2 fun b H3=>
   if b=true then te τ2 H3 fun y H4=>∃ ys,H4 D=some (.lst ys)/\ys.length<sizeLine/\Pv (i + 1) τ2 (upd H4 D (.lst (ys++[y]))) else Pv (i + 1) τ2 H3)
  (hd:∀ τ H,Pv xs.length τ H->Q (.ref D) H):pX (Ite K l) D τ H g tt te Q:=by
 refine⟨fun i m τ H=>m=xs.length - i/\i<=xs.length/\Pv i τ H,⟨xs.length,by simp,VU _,h0⟩,?_⟩;rintro i m τ H ⟨rfl,hi,p⟩
 have q1:=hl i τ H hi p;by_cases aE:i<xs.length
 ·refine .inr ⟨⟨xs,xs[i],q1,by simp[aE]⟩,Pv (i + 1),fun τ' H' p'=>⟨xs.length - (i + 1),by omega,rfl,aE,p'⟩,fun v H' y=>?_⟩
  obtain⟨T,x,rfl,hT,rfl,hx⟩:=y;exact hs i x T τ H (hx xs q1) hT p
 ·have e:i=xs.length:=by omega
  subst e;exact .inl ⟨⟨xs,q1,Vh _⟩,hd τ H p⟩
theorem rJ {K:PySem.W.Frag}{l:Addr}{xs:List V}{g:TG}{tb:TS}{D:gL}{σ:St}{H:Hp} (Pv:Nat->St->Hp->Prop) (h0:Pv 0 σ H) (hl:∀ i σ H,i<=xs.length->Pv i σ H->SqL K H l xs)
  (hs:∀ i x T σ H,xs[i]?=some x->H T=none->Pv i σ H->g (.ref T) σ (upd H T (.tup [.int i,x])) fun σ2 H2=>tb { D with nx:=Pv (i + 1),ct:=Pv (i + 1),bk:=D.nx } σ2 H2) (hd:∀ σ H,Pv xs.length σ H->D.nx σ H) :
  ∃ W:Nat->Nat->St->Hp->Prop,(∃ m,W 0 m σ H)/\∀ i m σ H,W i m σ H ->
   ((Ite K l).stop i H/\D.nx σ H)\/((Ite K l).go i H/\∃ N:St->Hp->Prop,(∀ σ' H',N σ' H'->∃ m',m'<m/\W (i + 1) m' σ' H')/\∀ x H',(Ite K l).yld i H x H'->g x σ H' fun σ2 H2=>tb { D with nx:=N,ct:=N,bk:=D.nx } σ2 H2):=by
 refine⟨fun i m σ H=>m=xs.length - i/\i<=xs.length/\Pv i σ H,⟨xs.length,by simp,VU _,h0⟩,?_⟩;rintro i m σ H ⟨rfl,hi,p⟩
 have q:=hl i σ H hi p;by_cases aE:i<xs.length
 ·refine .inr ⟨⟨xs,xs[i],q,by simp[aE]⟩,Pv (i + 1),fun σ' H' p'=>⟨xs.length - (i + 1),by omega,rfl,aE,p'⟩,fun v H' y=>?_⟩
  obtain⟨T,x,rfl,hT,rfl,hx⟩:=y;exact hs i x T σ H (hx xs q) hT p
 ·have e:i=xs.length:=by omega
  subst e;exact .inl ⟨⟨xs,q,Vh _⟩,hd σ H p⟩
theorem Ks {K:PySem.W.Frag}{l1 l2:Addr}{xs ys:List V}{g:TG}{tb:TS}{D:gL}{σ:St}{H:Hp} (ai:xs.length=ys.length) (Pv:Nat->St->Hp->Prop) (h0:Pv 0 σ H) (hl:∀ i σ H,i<=xs.length->Pv i σ H->SqL K H l1 xs/\SqL K H l2 ys)
  (hs:∀ i x y T σ H,xs[i]?=some x->ys[i]?=some y->H T=none->Pv i σ H->g (.ref T) σ (upd H T (.tup [x,y])) fun σ2 H2=>tb { D with nx:=Pv (i + 1),ct:=Pv (i + 1),bk:=D.nx } σ2 H2) (hd:∀ σ H,Pv xs.length σ H->D.nx σ H) :
  ∃ W:Nat->Nat->St->Hp->Prop,(∃ m,W 0 m σ H)/\∀ i m σ H,W i m σ H ->
   ((Itz K l1 l2).stop i H/\D.nx σ H)\/((Itz K l1 l2).go i H/\∃ N:St->Hp->Prop,(∀ σ' H',N σ' H'->∃ m',m'<m/\W (i + 1) m' σ' H')/\∀ x H',(Itz K l1 l2).yld i H x H'->g x σ H' fun σ2 H2=>tb { D with nx:=N,ct:=N,bk:=D.nx } σ2 H2):=by
 refine⟨fun i m σ H=>m=xs.length - i/\i<=xs.length/\Pv i σ H,⟨xs.length,by simp,VU _,h0⟩,?_⟩;rintro i m σ H ⟨rfl,hi,p⟩
 obtain⟨q1,q2⟩:=hl i σ H hi p;by_cases aE:i<xs.length
 ·have px:i<ys.length:=by omega
  refine .inr ⟨⟨xs,ys,xs[i],ys[i],q1,q2,by simp[aE],by simp[px]⟩,Pv (i + 1),fun σ' H' p'=>⟨xs.length - (i + 1),by omega,rfl,aE,p'⟩,fun v H' y=>?_⟩;obtain⟨T,x,y,rfl,hT,rfl,hx,hy⟩:=y;exact hs i x y T σ H (hx xs q1) (hy ys q2) hT p
 ·have e:i=xs.length:=by omega
  subst e;exact .inl ⟨⟨xs,ys,q1,q2,.inl (Vh _)⟩,hd σ H p⟩
end
end L2
namespace L2
open PySem PySem.Spec PyProof.Rows
theorem Jm {ns:List Int}{i:Nat} (h:i<ns.length):ns.getD i 0∈ns:=by
 rw[Vf,Vg h];exact WI h
theorem JL {ns:List Int}{x:Int} (h:x∈ns):∃ j,j<ns.length/\ns.getD j 0=x:=by
 obtain⟨j,hj,e⟩:=List.getElem_of_mem h;exact⟨j,hj,by rw[Vf,Vg hj];exact e⟩
theorem K6 (f:Nat->Int):∀ k,argBest (fun i j=>decide (f i<f j)) k<=k/\∀ j,j<=k->f (argBest (fun i j=>decide (f i<f j)) k)<=f j
 | 0=>⟨Vh _,fun j hj=>by rw[Nat.le_zero.mp hj];exact V1 _⟩
 | k + 1=>by
  obtain⟨h1,h2⟩:=K6 f k;by_cases hb:f (k + 1)<f (argBest (fun i j=>decide (f i<f j)) k)
  ·have e:argBest (fun i j=>decide (f i<f j)) (k + 1)=k + 1:=by simp[argBest,hb]
   rw[e];refine⟨Vh _,fun j hj=>?_⟩;rcases Wc j (k + 1) with z|z
   ·have:=h2 j (by omega);omega
   ·rw[show j=k + 1 by omega];exact V1 _
  ·have e:argBest (fun i j=>decide (f i<f j)) (k + 1)=argBest (fun i j=>decide (f i<f j)) k:=by simp[argBest,hb]
   rw[e];refine⟨by omega,fun j hj=>?_⟩;rcases Wc j (k + 1) with z|z
   ·exact h2 j (by omega)
   ·rw[show j=k + 1 by omega];omega
theorem J1 (f:Nat->Int):∀ k,argBest (fun i j=>decide (f i > f j)) k<=k/\∀ j,j<=k->f (argBest (fun i j=>decide (f i > f j)) k) >= f j
 | 0=>⟨Vh _,fun j hj=>by rw[Nat.le_zero.mp hj];exact V1 _⟩
 | k + 1=>by
  obtain⟨h1,h2⟩:=J1 f k;by_cases hb:f (k + 1) > f (argBest (fun i j=>decide (f i > f j)) k)
  ·have e:argBest (fun i j=>decide (f i > f j)) (k + 1)=k + 1:=by simp[argBest,hb]
   rw[e];refine⟨Vh _,fun j hj=>?_⟩;rcases Wc j (k + 1) with z|z
   ·have:=h2 j (by omega);omega
   ·rw[show j=k + 1 by omega];exact V1 _
  ·have e:argBest (fun i j=>decide (f i > f j)) (k + 1)=argBest (fun i j=>decide (f i > f j)) k:=by simp[argBest,hb]
   rw[e];refine⟨by omega,fun j hj=>?_⟩;rcases Wc j (k + 1) with z|z
   ·exact h2 j (by omega)
   ·rw[show j=k + 1 by omega];omega
section
variable {prog:Program}{w:World}{A:Around}{R:Result->Shared->Prop}{I:Addr}{fp wr:List Addr}{n:Nat}{P:Nat->Value->Prop}{St:Nat->Heap->Prop}
end
section
variable {X:Cx}
theorem Qe:iC X (.builtin "min") (fun xs H Q=>∃ p,∃ ns:List Int,xs=[.ref p]/\SqL X.K H p (ns.map V.int)/\ns≠[]/\∀ m∈ns,(∀ x∈ns,m<=x)->Q (.int m) H):=by
 intro aa s σ H xs us Q I r h;obtain⟨p,ns,rfl,hq,fh,q⟩:=h;obtain⟨u,rfl,ru⟩:=hU r;obtain rfl:u=Value.ref p:=ru;obtain⟨its,rv,pl,_⟩:=I.list hq;obtain⟨cs,cP,ch⟩:=I.hd.chain;have aE:p<s.heap.objs.size:=by obtain⟨o,e,_⟩:=pl.isList;exact Vk e
 have c8:s.heap.objs.size∉cs:=fun z=>VE _ (ch.lt _ z)
 have ai:its.length=ns.length:=by rw[<- rv.length,Vd]
 have Dy:0<ns.length:=List.length_pos_iff.mpr fh;refine call_min_walk (Wk pl.isList ⟨s.heap.objs.size,_,_,_,_,_,fun i j=>decide (ns.getD i 0<ns.getD j 0),rfl,rN (A:=X.A.in1) cP s.heap.objs.size p (Vq aE) c8 its.toArray,⟨⟨_,Vm _ rfl,rfl,rfl⟩,pl.isList.push _,ch.mono fun b o _ e=>Ve _ e⟩,?_,by simp;omega,CmpOf.ints_lt (fun i=>ns.getD i 0) fun i v hv=>zC rv (by simpa using hv),fun v h' tk hv hk=>?_⟩)
 ·intro b hb
  show b<(s.heap.push _).objs.size;rw[VI];rcases VH.mp hb with rfl|hb
  ·exact Wa _
  ·rcases VH.mp hb with rfl|hb
   ·exact V7 aE
   ·exact V7 (ch.lt _ hb)
 ·have eE:its.toArray[argBest (fun i j=>decide (ns.getD i 0<ns.getD j 0)) (its.toArray.size - 1)]?=some v:=hv
  rw[X5] at eE;obtain⟨t,rfl⟩:=zC rv eE;obtain⟨b1,b2⟩:=K6 (fun i=>ns.getD i 0) (its.toArray.size - 1);have e1:its.toArray.size=ns.length:=by simp[ai]
  rw[e1] at b1 b2;have N0:∀ b o,s.heap.get? b=some o->h'.get? b=some o:=fun b o e=>hk b o (fun z=>by
   have:b=s.heap.objs.size:=by simpa using z
   exact absurd (Vk e) (by rw[this];exact VE _)) (Ve _ e)
  refine⟨.int _,H,I.kept N0,⟨_,rfl⟩,?_⟩;rw[e1];exact q _ (Jm (by omega)) fun x hx=>by
   obtain⟨j,hj,rfl⟩:=JL hx;exact b2 j (by omega)
end
section
variable {prog:Program}{w:World}{A:Around}{R:Result->Shared->Prop}{I:Addr}{fp wr:List Addr}{n:Nat}{P:Nat->Value->Prop}{St:Nat->Heap->Prop}
theorem Rr (kw:List (Str×Value)) (W:Walks prog w A.in1 I fp wr n P St) (bt:Nat->Nat->Bool) (og:CmpOf prog w A.in1 .Gt P bt) (S:Addr) (hV:S∉fp) :
  ∀ (k j:Nat) (s:Shared) (vb:Value) (c:Nat),n - (j + 1)=k->j + 1<=n->St (j + 1) s.heap->P (argBest bt j) vb->s.heap.get? S=some { cls:=.type "list",dict:=none,data:=.seq #[vb,vb] c,slots:=#[] } ->
  (∀ v h' tk,P (argBest bt (n - 1)) v->(∀ b o,b∉wr->b≠S->s.heap.get? b=some o->h'.get? b=some o)->R (.ok (.ret v)) { s with heap:=h',toks:=tk }) ->
  codeAny (model prog w) A (.builtin "max.loop" ⟨[.ref I,.none,.ref S],kw⟩) R s:=by
 have zZ:S∉wr:=fun h=>hV (W.sub _ h)
 have lP:(toString "max"++toString ".loop":String)="max.loop":=by decide
 intro k
 induction k with
 | zero=>
  intro j s vb c hk hj cJ Ai hS hR;have hin:j + 1=n:=by omega
  refine codeAny_builtin F.entry_max_loop ?_;rw[Around.under_plainId F.plain_max_loop _];refine(show wpAny _ A.in1 (seqItems? (.ref S) >>= _) _ _ s from oW (VX hS rfl ?_));refine(show wpAny _ A.in1 (tryCatch (pyNext (.ref I)) _ >>= _) _ _ s from oW (Wh (W.done s _ _ (hin ▸ cJ) fun h' tk cX=>?_)));refine(show wpAny _ A.in1 (updateSeq S (fun _=>#[]) >>= _) _ _ _ from oW (Wz (cX S _ zZ hS) rfl (oW (WF (Vi ?_)))));exact hR vb _ tk (by rw[<- hin];exact Ai) fun b o jU kZ e=>(VB _ _ (Ne.symm kZ)).trans (cX b o jU e)
 | succ k ih=>
  intro j s vb c hk hj cJ Ai hS hR;have aE:j + 1<n:=by omega
  refine codeAny_builtin F.entry_max_loop ?_;rw[Around.under_plainId F.plain_max_loop _];refine(show wpAny _ A.in1 (seqItems? (.ref S) >>= _) _ _ s from oW (VX hS rfl ?_));refine(show wpAny _ A.in1 (tryCatch (pyNext (.ref I)) _ >>= _) _ _ s from oW (Wh (W.item (j + 1) s _ _ aE cJ fun v h' tk hP gQ cX=>?_)));have jT:=cX S _ zZ hS;refine(show wpAny _ A.in1 (tryCatch (holding [v,v] (richCompare .Gt v vb >>= _)) _ >>= _) _ _ _ from oW (Wh (VJ (oW (og (j + 1) (argBest bt j) v vb _ _ _ hP Ai ?_)))));refine oW (VJ (Ws (oW (WF (Vi ?_)))));cases hb:bt (j + 1) (argBest bt j) with
  | true=>
   simp only[if_true]
   refine oW (Wz jT rfl (oW (WF ?_)));rw[lP];refine Vi ⟨plainId_quiet F.plain_max_loop _,ih (j + 1) _ v _ (by omega) aE (W.frame _ _ _ gQ fun b BL o e=>(VB _ _ (fun h:S=b=>hV (by rw[h];exact BL))).trans e) (by simp only[argBest,hb,if_true];exact hP) (VR _ jT rfl) fun v' h'' jx jQ jw=>?_⟩;exact hR v' h'' jx jQ fun b o jU kZ e=>jw b o jU kZ ((VB _ _ (Ne.symm kZ)).trans (cX b o jU e))
  | false=>
   simp only[V2,if_false]
   refine oW (WF ?_);rw[lP];exact Vi ⟨plainId_quiet F.plain_max_loop _,ih (j + 1) _ vb c (by omega) aE gQ (by simp only[argBest,hb,V2,if_false];exact Ai) jT fun v' h'' jx jQ jw=>hR v' h'' jx jQ fun b o jU kZ e=>jw b o jU kZ (cX b o jU e)⟩
theorem QP (kw:List (Str×Value)) (W:Walks prog w A.in1 I fp wr n P St) (bt:Nat->Nat->Bool) (og:CmpOf prog w A.in1 .Gt P bt) (S:Addr) (hV:S∉fp) (hn:0<n){s:Shared}{c:Nat} (cJ:St 0 s.heap)
  (hS:s.heap.get? S=some { cls:=.type "list",dict:=none,data:=.seq #[] c,slots:=#[] })
  (hR:∀ v h' tk,P (argBest bt (n - 1)) v->(∀ b o,b∉wr->b≠S->s.heap.get? b=some o->h'.get? b=some o)->R (.ok (.ret v)) { s with heap:=h',toks:=tk }) :
  codeAny (model prog w) A (.builtin "max.loop" ⟨[.ref I,.none,.ref S],kw⟩) R s:=by
 have zZ:S∉wr:=fun h=>hV (W.sub _ h)
 have lP:(toString "max"++toString ".loop":String)="max.loop":=by decide
 refine codeAny_builtin F.entry_max_loop ?_;rw[Around.under_plainId F.plain_max_loop _];refine(show wpAny _ A.in1 (seqItems? (.ref S) >>= _) _ _ s from oW (VX hS rfl ?_));refine(show wpAny _ A.in1 (tryCatch (pyNext (.ref I)) _ >>= _) _ _ s from oW (Wh (W.item 0 s _ _ hn cJ fun v h' tk hP gQ cX=>?_)));have jT:=cX S _ zZ hS;refine(show wpAny _ A.in1 (updateSeq S (fun _=>#[v,v]) >>= _) _ _ _ from oW (Wz jT rfl ?_));rw[lP];exact Vi ⟨plainId_quiet F.plain_max_loop _,Rr kw W bt og S hV _ 0 _ v _ rfl hn (W.frame _ _ _ gQ fun b BL o e=>(VB _ _ (fun h:S=b=>hV (by rw[h];exact BL))).trans e) hP (VR _ jT rfl) fun v' h'' jx jQ jw=>hR v' h'' jx jQ fun b o jU kZ e=>jw b o jU kZ ((VB _ _ (Ne.symm kZ)).trans (cX b o jU e))⟩
theorem TF (W:Walks prog w A.in1 I fp wr 0 P St) (S:Addr) (hV:S∉fp){s:Shared}{c:Nat}{nm:Str}{d:Value} (cJ:St 0 s.heap) (hS:s.heap.get? S=some { cls:=.type "list",dict:=none,data:=.seq #[] c,slots:=#[] })
  (hR:∀ h' tk,(∀ b o,b∉wr->s.heap.get? b=some o->h'.get? b=some o)->R (.ok (.ret d)) { s with heap:=h',toks:=tk }) :
  codeAny (model prog w) A (.builtin "max.loop" ⟨[.ref I,.none,.ref S],[(nm,d)]⟩) R s:=by
 refine codeAny_builtin F.entry_max_loop ?_;rw[Around.under_plainId F.plain_max_loop _];refine(show wpAny _ A.in1 (seqItems? (.ref S) >>= _) _ _ s from oW (VX hS rfl ?_));refine(show wpAny _ A.in1 (tryCatch (pyNext (.ref I)) _ >>= _) _ _ s from oW (Wh (W.done s _ _ cJ fun h' tk cX=>?_)));exact oW (WQ (Vi (hR h' tk cX)))
end
theorem RM (a v:Value):argsOk "max" ⟨[a],[(Str.ofString "default",v)]⟩:=by unfold argsOk;kernel_rfl
section
variable {X:Cx}
theorem Uc {a:Expr}{ta:TA}{i:Int}{p pos bG az:Pos}{j:Nat} (hg:Gl X "max") (hm:X.mg "max"=none) (ha:PA X [a] ta)
  (hs:backTo pos (starEach [a] X.env)=(false,eval a X.env)::backTo pos (starEach [] X.env):=by rfl) (hp:(backTo pos (starEach [a] X.env)).any (·.1)=false:=by rfl) (ua:(backToKw pos (keywordEach [⟨some "default",.Constant (.int i) j az,bG⟩] X.env)).all (·.1.isSome)=true:=by rfl)
  (yk:(backToKw pos (keywordEach [⟨some "default",.Constant (.int i) j az,bG⟩] X.env)).any (·.1.isNone)=false:=by rfl) (oy:∀ u:Value,((backToKw pos (keywordEach [⟨some "default",.Constant (.int i) j az,bG⟩] X.env)).filterMap (·.1)).zip [u]=[(Str.ofString "default",u)]:=by intro u;rfl) :
  PE X (.Call (.Name "max" p) [a] [⟨some "default",.Constant (.int i) j az,bG⟩] pos) (fun σ H Q=>ta σ H fun vs H1=>∃ q,∃ ns:List Int,vs=[.ref q]/\SqL X.K H1 q (ns.map V.int)/\(ns=[]->Q (.int i) H1)/\∀ m∈ns,(∀ x∈ns,x<=m)->Q (.int m) H1):=by
 intro aa s σ H Q I h;refine V3 (iD I hg hm bt_max ?_);refine PyProof.Rows.callWith_kw (thn (ha pos aa s σ H _ I h) fun us s1=>L2.ex5 fun vs H1 I1 r1 bi=>?_) hs hp ua yk;obtain⟨l,ns,e,q1,k0,k1⟩:=bi;subst e;obtain⟨u,rfl,ru⟩:=hU r1;obtain rfl:u=Value.ref l:=ru;refine PyProof.Rows.kws_cons (Ye (PyProof.Rows.kws_nil ?_));rw[oy];obtain⟨its,rv,pl,_⟩:=I1.list q1;obtain⟨cs,cP,ch⟩:=I1.hd.chain;have aE:l<s1.heap.objs.size:=by obtain⟨o,e,_⟩:=pl.isList;exact Vk e
 have c8:s1.heap.objs.size∉cs:=fun z=>VE _ (ch.lt _ z)
 have ai:its.length=ns.length:=by rw[<- rv.length,Vd]
 have lP:(toString "max"++toString ".loop":String)="max.loop":=by decide
 refine kmk_tree PySem.F.kind_max PySem.F.plain_max PySem.F.entry_max (RM _ _) ?_;refine(show wpAny _ _ (Builtin.Builtins.bindParams "max" ["key","default"] 0 ⟨[],[(Str.ofString "default",_)]⟩ >>= _) _ _ _ from oW (Wl (show Builtin.Builtins.bindParams "max" ["key","default"] 0 ⟨[],[(Str.ofString "default",_)]⟩=pure [none,some _] from rfl) ?_));refine oW (Vi ?_);refine oW (Wk (s:={ s1 with toks:=s1.toks + 1 }) pl.isList ?_);refine oW (wpAny_newList ?_ (VU _));rw[lP];have hz:(s1.heap.push { cls:=.type "list_iterator",data:=.fields #[.ref l,.int 0 0] }).objs.size=s1.heap.objs.size + 1:=VI ..;have W:=rN (prog:=X.prog) (w:=X.w) (A:=X.A.in1) cP s1.heap.objs.size l (Vq aE) c8 its.toArray;have hV:(s1.heap.push { cls:=.type "list_iterator",data:=.fields #[.ref l,.int 0 0] }).objs.size∉s1.heap.objs.size::l::cs:=by
  rw[hz];intro z;rcases VH.mp z with z|z
  ·exact absurd z (V9 (Wa _))
  ·rcases VH.mp z with z|z
   ·exact absurd z (V9 (V7 aE))
   ·exact absurd (ch.lt _ z) (Nat.not_lt.mpr (V8 _))
 have st0:((s1.heap.push { cls:=.type "list_iterator",data:=.fields #[.ref l,.int 0 0] }).push (seqObj "list" #[] 0)).IsListIter s1.heap.objs.size l 0/\((s1.heap.push { cls:=.type "list_iterator",data:=.fields #[.ref l,.int 0 0] }).push (seqObj "list" #[] 0)).IsList l its.toArray/\Chn ((s1.heap.push { cls:=.type "list_iterator",data:=.fields #[.ref l,.int 0 0] }).push (seqObj "list" #[] 0)) cs:=
  ⟨⟨_,Ve _ (Vm _ rfl),rfl,rfl⟩,(pl.isList.push _).push _,ch.mono fun b o _ e=>Ve _ (Ve _ e)⟩
 refine Vi ⟨plainId_quiet PySem.F.plain_max_loop _,?_⟩;have back:∀ (h':Heap),(∀ b o,b∉[s1.heap.objs.size]->b≠(s1.heap.push { cls:=.type "list_iterator",data:=.fields #[.ref l,.int 0 0] }).objs.size->((s1.heap.push { cls:=.type "list_iterator",data:=.fields #[.ref l,.int 0 0] }).push (seqObj "list" #[] 0)).get? b=some o->h'.get? b=some o)->∀ b o,s1.heap.get? b=some o->h'.get? b=some o:=fun h' hk b o e=>by
  have lt:=Vk e;refine hk b o (fun z=>?_) (fun z=>?_) (Ve _ (Ve _ e))
  ·rw[W7.mp z] at lt;exact VE _ lt
  ·rw[z,hz] at lt;exact VE _ (Yq lt)
 by_cases hn:ns=[]
 ·subst hn
  have e0:its=[]:=List.length_eq_zero_iff.mp (by rw[ai];rfl);subst e0;exact TF W _ hV st0 (Vm _ rfl) fun h' tk hk=>⟨.int i,H1,I1.kept (back h' fun b o h1 _ e=>hk b o h1 e),⟨_,rfl⟩,k0 rfl⟩
 ·have Dy:0<ns.length:=List.length_pos_iff.mpr hn
  refine QP _ W (fun i j=>decide (ns.getD i 0 > ns.getD j 0)) (CmpOf.ints_gt (fun i=>ns.getD i 0) fun i v hv=>zC rv (by simpa using hv)) _ hV (by simp;omega) st0 (Vm _ rfl) fun v h' tk hv hk=>?_
  have eE:its.toArray[argBest (fun i j=>decide (ns.getD i 0 > ns.getD j 0)) (its.toArray.size - 1)]?=some v:=hv;rw[X5] at eE;obtain⟨t,rfl⟩:=zC rv eE;obtain⟨b1,b2⟩:=J1 (fun i=>ns.getD i 0) (its.toArray.size - 1);have e1:its.toArray.size=ns.length:=by simp[ai]
  rw[e1] at b1 b2;refine⟨.int _,H1,I1.kept (back h' hk),⟨_,rfl⟩,?_⟩;rw[e1];exact k1 _ (Jm (by omega)) fun x hx=>by
   obtain⟨j,hj,rfl⟩:=JL hx;exact b2 j (by omega)
end
section
variable {X:Cx}
def rGetL (K:PySem.W.Frag):V->V->Hp->VK->Prop:=fun o i H Q=>∃ p xs k v,o=.ref p/\i=.int k/\SqL K H p xs/\0<=k/\xs[k.toNat]?=some v/\Q v H
theorem qb:PGet X (rGetL X.K):=by
 intro aa s σ H o i ov iv Q I ro ri h;obtain⟨p,xs,k,v,rfl,rfl,hq,h0,hv,q⟩:=h;cases ro
 obtain⟨t,rfl⟩:=ri;obtain⟨its,r,pl,hz⟩:=I.list hq;obtain⟨u,hu,ru⟩:=r.get hv;have h1:=(List.getElem?_eq_some_iff.mp hv).1;have hl:=r.length;have hn:=zX;exact wpAny_getItem_list pl.isList h0 (by omega) (by simpa using hu) ⟨v,H,I,ru,q⟩
end
end L2
namespace L2
open PySem PySem.Spec PyProof.Rows
section
variable {X:Cx}{aa:List (Addr×Obj)}{σ:St}{H:Hp}{s:Shared}
open Classical in
end
end L2
namespace L2
open PySem PySem.Spec PyProof.Rows
section
variable {prog:Program}{w:World}{A:Around}{E:Value->Shared->Prop}{s:Shared}{cs:List Addr}
end
section
variable {X:Cx}
end
end L2
namespace L2
open PySem PySem.Spec PyProof.Rows
section
variable {prog:Program}{w:World}{A:Around}{E:Value->Shared->Prop}{s:Shared}{cs:List Addr}
end
section
variable {X:Cx}
end
end L2
namespace L2
open PySem PySem.Spec PyProof.Rows
section
variable {X:Cx}
end
end L2
namespace L2
open PySem PySem.Spec PyProof.Rows
section
variable {X:Cx}
def Rt:V->List V->Hp->VK->Prop:=fun x vs H Q=>∃ l xs i y,x=.ref l/\vs=[.int i,y]/\H l=some (.lst xs)/\0<=i/\i<=xs.length/\xs.length<sizeLine/\Q .non (upd H l (.lst (xs.take i.toNat++y::xs.drop i.toNat)))
theorem Km:MtM X "list.insert" Rt:=by
 intro aa s σ H x vs v us Q I rx rv h;obtain⟨l,xs,i,y,rfl,rfl,hH,h0,h1,hz,q⟩:=h;cases rx
 obtain⟨u,w',rfl,⟨t,rfl⟩,ru⟩:=y9 rv;obtain⟨z,its,n,r,hl,e⟩:=I.lstM hH;have hf:Builtin.List.listFitsIndex i=true:=by
  unfold Builtin.List.listFitsIndex;rw[Vo] at hz;simp only[VT,decide_eq_true_eq]
  constructor <;> omega
 refine call_meets F.slot_list_insert ⟨_,e,rfl⟩ F.entry_list_insert (F.args_list_insert_3 _ _ _) (AutoSeq1.list_insert_list_int_val_1 l its.toArray n i t w' (by simp[hf]) (by rw[Vx];omega)) ⟨e,?_⟩;refine⟨.non,_,I.lset (its':=its.take i.toNat++w'::its.drop i.toNat) hH e ?_ ((r.take _).append (.cons ru (r.drop _))) ?_,rfl,q⟩
 ·show(its.toArray.extract 0 (if i<0 then(i + (its.toArray.size:Int)).toNat else min i.toNat its.toArray.size)).push w'++its.toArray.extract (if i<0 then(i + (its.toArray.size:Int)).toNat else min i.toNat its.toArray.size)=_
  rw[if_neg (by omega),Vx,XV (by omega)];apply Array.toList_inj.mp;simp
  exact VM (by simp)
 ·rw[VD,Vw,Vs,Wv]
  omega
end
theorem RZ {K:PySem.W.Frag}{l1 l2 D:Addr}{xs ys:List V}{n:Nat}{g:TG}{tt:TT}{te:TE}{τ:St}{H:Hp}{Q:VK} (h1:n<=xs.length) (h2:n<=ys.length) (h3:xs.length=n\/ys.length=n) (Pv:Nat->St->Hp->Prop) (h0:Pv 0 τ H) (hl:∀ i τ H,i<=n->Pv i τ H->SqL K H l1 xs/\SqL K H l2 ys)
  (hs:∀ i x y T τ H,i<n->xs[i]?=some x->ys[i]?=some y->H T=none->Pv i τ H->g (.ref T) τ (upd H T (.tup [x,y])) fun τ2 H2=>tt τ2 H2 fun b H3=>
   if b=true then te τ2 H3 fun y H4=>∃ ys,H4 D=some (.lst ys)/\ys.length<sizeLine/\Pv (i + 1) τ2 (upd H4 D (.lst (ys++[y]))) else Pv (i + 1) τ2 H3)
  (hd:∀ τ H,Pv n τ H->Q (.ref D) H):pX (Itz K l1 l2) D τ H g tt te Q:=by
 refine⟨fun i m τ H=>m=n - i/\i<=n/\Pv i τ H,⟨n,by simp,VU _,h0⟩,?_⟩;rintro i m τ H ⟨rfl,hi,p⟩
 obtain⟨q1,q2⟩:=hl i τ H hi p;by_cases aE:i<n
 ·have hx:i<xs.length:=by omega
  have hy:i<ys.length:=by omega
  refine .inr ⟨⟨xs,ys,xs[i],ys[i],q1,q2,by simp[hx],by simp[hy]⟩,Pv (i + 1),fun τ' H' p'=>⟨n - (i + 1),by omega,rfl,aE,p'⟩,fun v H' y=>?_⟩;obtain⟨T,x,y,rfl,hT,rfl,hx,hy⟩:=y;exact hs i x y T τ H aE (hx xs q1) (hy ys q2) hT p
 ·have e:i=n:=by omega
  subst e;exact .inl ⟨⟨xs,ys,q1,q2,by omega⟩,hd τ H p⟩
theorem Tz (xs:List V):dW xs (some 1) none=xs.drop 1:=by
 unfold dW;rw[HT.zeI];have e:HT.sIx xs.length 0 (some 1)=min 1 xs.length:=by
  unfold HT.sIx;dsimp only;rw[if_neg (by decide)];rfl
 rw[e];cases xs with
 | nil=>rfl
 | cons x l=>
  have:min 1 (x::l).length=1:=by rw[Vw];omega
  rw[this];exact VM (by simp)
theorem gM {H:Hp}{a:Addr}{kvs:List (Key×V)}{k:Key}{v:V} (e:H a=some (.dK kvs)) (h:a9 kvs k=some v):fq H a (kV k) (some v):=h ▸ fq.k e
theorem none_of {H H':Hp}{r:Addr} (s:ad H H') (h:H' r=none):H r=none:=by
 cases e:H r with
 | none=>rfl
 | some o=>
  rw[s _ _ e] at h;cases h
theorem bx {H H':Hp}{d:Addr}{o:HO} (nd:H d=none) (s:ad H H'):ad H (upd H' d o):=fun b u e=>by
 rw[aj (ap e nd)];exact s b u e
theorem Go {rs:List Addr}{i:Nat}{x:V} (h:(rs.map V.ref)[i]?=some x):∃ r,rs[i]?=some r/\x=.ref r:=by
 rw[Vp] at h;cases e:rs[i]? with
 | none=>rw[e] at h;cases h
 | some n=>rw[e] at h;exact⟨n,rfl,(Option.some.inj h).symm⟩
theorem qc {ss:List Str}{i:Nat}{x:V} (h:(ss.map V.str)[i]?=some x):∃ r,ss[i]?=some r/\x=.str r:=by
 rw[Vp] at h;cases e:ss[i]? with
 | none=>rw[e] at h;cases h
 | some n=>rw[e] at h;exact⟨n,rfl,(Option.some.inj h).symm⟩
theorem KN {K:PySem.W.Frag}{H:Hp}:∀ ns:List Str,aN K H (ns.map Dt.str) (ns.map V.str)
 | []=>rfl
 | _::r=>⟨_,_,rfl,rfl,KN r⟩
end L2
namespace L2
open PySem PySem.Spec PyProof.Rows
section
variable {X:Cx}
theorem SC:iC X (.type "dict") (fun xs H Q=>∃ d kvs,xs=[.ref d]/\H d=some (.dK kvs)/\∀ l,H l=none->Q (.ref l) (upd H l (.dK kvs))):=by
 intro aa s σ H xs us Q I r h;obtain⟨d,kvs,rfl,e,q⟩:=h;obtain⟨u,rfl,ru⟩:=hU r;obtain rfl:u=Value.ref d:=ru;obtain⟨z,nM,vs,rel,dd⟩:=qP I.hok e;refine kt_call_dict nM dd (by rw[<- rel.length];exact z) fun h' cH a8=>?_
 have ne:(s.heap.objs.size == sysModules)=false:=(AT (P:=X.prog) (w:=X.w) (H:=H) s.heap I.big).2.1;refine⟨.ref s.heap.objs.size,_,I.laid (a:=s.heap.objs.size) (o:=.dK kvs) (t':=s.toks) (fun b o q=>a8.extBut b o (Vq (Vk q)) (Ve _ q)) (Vh _) ⟨z,ne,vs,rel,cH⟩,rfl,q _ (I.hok.fresh (Vh _))⟩
end
end L2
namespace L2
open PySem PySem.Spec PyProof.Rows
section
variable {X:Cx}
end
end L2
namespace L2
open PySem PySem.Spec PyProof.Rows
def rG:List Expr->Option (List Str)
 | []=>some []
 | .Constant (.str x) _ _::es=>(rG es).map (x::·)
 | _=>none
section
variable {X:Cx}
theorem LS:∀ {es:List Expr}{xs:List Str},rG es=some xs->PA X es (fun _ H Q=>Q (xs.map V.str) H)
 | [],_,h=>by
  cases h
  exact ah
 | e::es,xs,h=>by
  cases e with
  | Constant c j p=>
   cases c with
   | str x=>
    cases q:rG es with
    | none=>
     unfold rG at h;rw[q] at h;cases h
    | some ys=>
     unfold rG at h;rw[q] at h;cases h
     exact ae pe_str (LS q) rfl
   | _=>cases h
  | _=>cases h
end
end L2
namespace L2
open PySem PySem.Spec PyProof.Rows
theorem Ty {X:Cx}{x y:Str}{i:Nat}{es:List Expr}{xs:List Str}{n:Int}{j:Nat}{p1 p2 p3 q1 q2 q3 pos aW:Pos}{ty:TE} (hxs:rG es=some xs) (hy:PE X (.Name y q1) ty) (hN:X.N.Nodup) (hi:X.N[i]?=some x) (hx:Loc X.env.scope x)
  (hs:swapsWith (.Subscript (.List es p1) (.Slice none (some (.BinOp (.Name y q1) .Mod (.Constant (.int n) j q2) q3)) none p2) p3) (some (.Name x aW)) pos.line X.env=pure false) (hf:X.fn x=true\/X.env.scope.names.lookup x=some .local) :
  PS X (.Assign [.Name x aW] (.Subscript (.List es p1) (.Slice none (some (.BinOp (.Name y q1) .Mod (.Constant (.int n) j q2) q3)) none p2) p3) pos) (tAsg (tSl (rSlL X.K) (tLst fun _ H Q=>Q (xs.map V.str) H) JC (tPart (tOp (rI (fun _ j=>0<j) fun i j=>.int (i % j)) ty (tC (.int n))))) (bJ i))=True:=
 eq_true (aR hN hi hx (q9 rB (c7 (LS hxs)) AN (nJ (ay cE hy ak))) hs hf)
end L2
namespace L2
open PySem PySem.Spec PyProof.Rows
section
variable {X:Cx}{K:PySem.W.Frag} (hK:X.K=K)
include hK
end
end L2
namespace L2
open PySem PySem.Spec PyProof.Rows
section
variable {prog:Program}{w:World}{A:Around}{E:Value->Shared->Prop}{s:Shared}{cs:List Addr}
theorem S0:typeLookup (.type "list") "keys"=pure none:=am_miss_of_fast (by kernel_rfl)
theorem Lw {α:Type}{o:Value}{name Ig:Str}{Q:α->Shared->Prop} (hd:Hd A s.heap)
  (h:∀ h' tk e,(∀ b ob,s.heap.get? b=some ob->h'.get? b=some ob)->(∃ o',h'.get? e=some o'/\o'.cls=.type "AttributeError")->E (.ref e) { s with heap:=h',toks:=tk }) (hm:Ig.length<=sizeLine:=by size_fits) :
  wpAny (model prog w) A (raiseAttrError o name Ig:Sem α) Q E s:=by
 unfold raiseAttrError;refine oW (wpAny_mkStr (oW ?_) hm);unfold newExc newTuple;refine oW (WP ?_ (by size_fits));refine oW (m:=firstArgMember _ _) (Wl (a:=Value.none) (by simp only[firstArgMember,attrError_no_first];rfl) ?_);rw[ownMembersOf_AttributeError];refine WP ?_ (by size_fits);obtain⟨hp,g,d,tk,os⟩:=s;have f1:=sub_AttributeError
 repeat (any_goals (first|assumption|wp_step))
 dsimp only;have gX:∀ b ob,hp.get? b=some ob->b<hp.objs.size + 1:=fun b ob q=>V7 (Vk q)
 refine Gm ?_ (VR _ (Vm _ rfl) rfl) rfl (by simp) fun h' o' lX k' e' c' _ _ _ _ _=>
  h h' _ _ (fun b ob q=>k' b ob ?_ ((VB _ _ ?_).trans (Ve _ (Ve _ q)))) ⟨o',e',c'⟩
 ·rcases hd with hn|⟨a,cs,ha,c⟩
  ·exact .inl hn
  ·have lt:∀ b∈a::cs,b<hp.objs.size:=c.lt
   refine .inr ⟨a,cs,ha,c.mono fun b ob hb q=>(VB _ _ ?_).trans (Ve _ (Ve _ q)),fun z=>?_⟩
   ·simp only[VI]
    exact V9 (gX b ob q)
   ·have:=lt _ z
    simp only[VI] at this
    exact absurd (Vy this (V8 _)) (VE _)
 ·simp only[VI]
  exact Vq (gX b ob q)
 ·simp only[VI]
  exact V9 (gX b ob q)
theorem Tv {l:Addr}{ol:Obj}{tk:Tok}{Q:Fin->Shared->Prop} (hd:Hd A s.heap) (ho:s.heap.get? l=some ol) (hc:ol.cls=.type "list") (qr:ol.dict=none){its:Array Value}{nn:Nat} (nZ:ol.data=.seq its nn)
  (h:∀ h' tk e,(∀ b ob,s.heap.get? b=some ob->h'.get? b=some ob)->(∃ o',h'.get? e=some o'/\o'.cls=.type "AttributeError")->E (.ref e) { s with heap:=h',toks:=tk }) :
  wpAny (model prog w) A (Builtin.«object.__getattribute__» ⟨[.ref l,.str "keys" tk],[]⟩) Q E s:=by
 have hT:s.TypeIs (.ref l) "list":=⟨_,ho,hc⟩;have f4:=S0;unfold Builtin.«object.__getattribute__»;obtain⟨hp,g,d,gU,os⟩:=s;obtain⟨oc,od,UY,iu⟩:=ol;dsimp only at hc qr nZ;subst hc qr nZ
 repeat (any_goals (first|assumption|wp_step))
 exact Lw hd h (attrMsg_fits (by decide +kernel) (by size_fits))
theorem TB {l:Addr}{ol:Obj}{Q:Option Value->Shared->Prop} (hd:Hd A s.heap) (ho:s.heap.get? l=some ol) (hc:ol.cls=.type "list") (qr:ol.dict=none){its:Array Value}{nn:Nat} (nZ:ol.data=.seq its nn)
  (h:∀ h' tk,(∀ b ob,s.heap.get? b=some ob->h'.get? b=some ob)->Q none { s with heap:=h',toks:=tk }) :
  wpAny (model prog w) A (getAttr? (.ref l) "keys") Q E s:=by
 unfold getAttr? getAttrBy?;obtain⟨hp,g,d,gU,os⟩:=s;have hT:(⟨hp,g,d,gU + 1,os⟩:Shared).TypeIs (.ref l) "list":=⟨_,ho,hc⟩;have f1:=sub_AttributeError;have f2:=F.slot_list_getattribute.lookup;have f3:=F.slot_list_getattribute.bind (.ref l);have f5:typeLookup (.type "list") "__getattr__"=pure none:=am_miss_of_fast (by kernel_rfl);unfold getAttrBy
 repeat (any_goals (first|assumption|wp_step))
 refine codeAny_call_builtin F.slot_list_getattribute.plain F.entry_list_ga (F.slot_list_getattribute.check _ _ _ _ _ _ _ _ hT (F.args_list_getattribute_2 _ _) (Tv (s:=⟨hp,g,d,gU + 1,os⟩) hd ho hc qr nZ fun h' kT e k' ⟨o',e1,e2⟩=>?_));dsimp only;show wpAny _ _ (getattributeRaised _ _ _ _ _ _ _) _ _ _;unfold getattributeRaised;have hE:(⟨h',g,d,kT,os⟩:Shared).TypeIs (.ref e) "AttributeError":=⟨_,e1,e2⟩
 repeat (any_goals (first|assumption|wp_step))
 exact h h' kT k'
end
end L2
namespace L2
open PySem PySem.Spec PyProof.Rows
theorem AZ:entryFor table "dict.update.loop"=some Builtin.«dict.update.loop»:=entryFor_of_tree (by kernel_rfl)
theorem nF:plainId "dict.update.loop"=true:=by decide +kernel
section
variable {prog:Program}{w:World}{A:Around}{R:Result->Shared->Prop}{κ:Type} [DecidableEq κ] {knd:KeyKind prog w κ}{I d:Addr}{fp wr:List Addr}{G:Array GenState->Array GenState->Prop}{n:Nat}{P:Nat->Value->Prop}{St:Nat->Shared->Prop}
theorem Tm (W:WalksS prog w A.in1 I fp wr G n P St) (mV:d∉fp) (hn:n<=1000) (s0:Shared) (ks:Nat->κ) (vs:Nat->Value) (kvs:Nat->List (κ×Value)) (res:Value)
  (fQ:∀ i v,P i v->∃ t key,v=.ref t/\s0.heap.IsTuple t #[key,vs i]/\t∉d::wr/\knd.is (ks i) key=true)
  (hs:∀ i,kvs (i + 1)=stored (kvs i) (ks i) (vs i)) (hl:∀ i,(kvs i).length<=i) :
  ∀ (k i:Nat) (s:Shared),n - i=k->i<=n->St i s->Moved (d::wr) G s0 s->s.heap.DictOf knd d (kvs i) ->
   (∀ s',Moved (d::wr) G s0 s'->s'.heap.DictOf knd d (kvs n)->R (.ok (.ret res)) s') ->
   codeAny (model prog w) A (.builtin "dict.update.loop" ⟨[.ref d,.ref I,.int i 0,res],[]⟩) R s:=by
 have mP:d∉wr:=fun h=>mV (W.sub _ h)
 have tL:∀ b∈wr,b∈d::wr:=fun b hb=>Vt _ hb
 intro k
 induction k with
 | zero=>
  intro i s hk hi cJ m0 hD hR;have hin:i=n:=by omega
  subst hin;refine codeAny_builtin AZ ?_;rw[Around.under_plainId nF _];show wpAny _ A.in1 (pyNext (.ref I) >>= _) _ _ s;refine oW (W.done s _ _ cJ fun s' hm=>?_);show wpAny _ A.in1 (pure () >>= fun _=>ret res) _ _ s';exact oW (Vi (Vi (hR s' (Moved.trans W.gtrans m0 (hm.mono tL)) (by
   obtain⟨o,es,ep,ho,aP⟩:=hD;exact⟨o,es,ep,hm.heap d _ mP ho,aP⟩))))
 | succ k ih=>
  intro i s hk hi cJ m0 hD hR;have aE:i<n:=by omega
  refine codeAny_builtin AZ ?_;rw[Around.under_plainId nF _];show wpAny _ A.in1 (pyNext (.ref I) >>= _) _ _ s;refine oW (W.item i s _ _ aE cJ fun v s' hP gQ hm=>?_);obtain⟨t,key,rfl,⟨ot,z9,GO,nt,Ov⟩,Pk,cz⟩:=fQ i v hP;have m1:Moved (d::wr) G s0 s':=Moved.trans W.gtrans m0 (hm.mono tL);have ku:s'.heap.DictOf knd d (kvs i):=by
   obtain⟨o,es,ep,ho,aP⟩:=hD;exact⟨o,es,ep,hm.heap d _ mP ho,aP⟩
  have xW:=m1.heap t _ Pk z9;have hT:s'.TypeIs (.ref t) "tuple":=⟨_,xW,GO⟩;dsimp only;refine oW (VJ (oW (Wh ?_)));unfold Builtin.Dict.pairItems;refine oW (W6 hT ?_);rw[if_pos (by decide)];refine oW (VX xW Ov (Vi ?_));show wpAny _ _ (holding [key,vs i] (dictSet d key (vs i))) _ _ s';refine VJ (Yc (knd:=knd) cz ku (fun h' cH oE=>?_) (by rw[Vo];have:=hl i;omega));have e1:kvs (i + 1)=stored (kvs i) (ks i) (vs i):=hs i;rw[<- e1] at cH;refine Vi ⟨plainId_quiet nF _,ih (i + 1) _ (by omega) aE (W.frame _ s' _ _ gQ (V8 _) fun b hb o e=>?_) ?_ cH hR⟩
  ·rw[oE.2 b (fun h:b=d=>mV (by rw[<- h];exact hb))];exact e
  ·refine m1.then_heap (V8 _) fun b o hb e=>?_
   rw[oE.2 b (fun h:b=d=>hb (by rw[h];exact Vz))];exact e
end
section
variable {prog:Program}{w:World}{A:Around}{E:Value->Shared->Prop}{s:Shared}{cs:List Addr}{κ:Type} [DecidableEq κ] {knd:KeyKind prog w κ}
set_option maxHeartbeats 3200000 in
theorem Q6 {l:Addr}{ol:Obj}{its:Array Value}{nn:Nat}{Q:Value->Shared->Prop} (hc:HdC A cs) (ch:Chn s.heap cs) (ho:s.heap.get? l=some ol) (kO:ol.cls=.type "list") (qr:ol.dict=none) (nZ:ol.data=.seq its nn) (hz:its.size<=1000)
  (ks:Nat->κ) (vs:Nat->Value) (kvs:Nat->List (κ×Value)) (h0:kvs 0=[]) (hs:∀ i,kvs (i + 1)=stored (kvs i) (ks i) (vs i)) (hl:∀ i,(kvs i).length<=i)
  (fQ:∀ i v,its[i]?=some v->∃ t key,v=.ref t/\s.heap.IsTuple t #[key,vs i]/\knd.is (ks i) key=true)
  (h:∀ h' tk,h'.DictOf knd s.heap.objs.size (kvs its.size)->(∀ b o,s.heap.get? b=some o->h'.get? b=some o)->Q (.ref s.heap.objs.size) { s with heap:=h',toks:=tk }) :
  wpAny (model prog w) A (call (.type "dict") [.ref l]) Q E s:=by
 refine callType_codes (Q₁:=fun obj s₁=>obj=.ref s.heap.objs.size/\s₁={ s with heap:=s.heap.push { cls:=.type "dict",data:=.dict #[] } }) F.kt_called_dict (F.kt_typeCall_dict_1 _) F.entry_dict_init (kt_code_dict_new _ ⟨rfl,rfl⟩) ?_;rintro obj s₁ ⟨rfl,rfl⟩
 have cx:(s.heap.push { cls:=.type "dict",data:=.dict #[] }).DictOf knd s.heap.objs.size []:=Heap.DictOf.new s.heap;have ib:(s.heap.push { cls:=.type "dict",data:=.dict #[] }).get? l=some ol:=Ve _ ho;have mN:Chn (s.heap.push { cls:=.type "dict",data:=.dict #[] }) cs:=ch.mono fun b o _ e=>Ve _ e
 have lt:∀ b∈cs,b<s.heap.objs.size:=ch.lt;have hsz:(s.heap.push { cls:=.type "dict",data:=.dict #[] }).objs.size=s.heap.objs.size + 1:=VI ..;have keep:∀ b o,s.heap.get? b=some o->(s.heap.push { cls:=.type "dict",data:=.dict #[] }).get? b=some o:=fun b o e=>Ve _ e
 generalize s.heap.push { cls:=.type "dict",data:=.dict #[] }=hp at cx ib mN hsz keep ⊢;refine⟨cx.typeIs,F.args_dict_init_2 _ _,?_⟩;unfold Builtin.«dict.__init__»;refine oW ?_;unfold Builtin.Dict.selfAndRest;refine oW (X6 cx.typeIs ?_);show wpAny _ _ (pure (s.heap.objs.size,[Value.ref l])) _ _ _;refine Vi ?_;show wpAny _ _ (Builtin.Dict.updateFrom "dict.__init__" s.heap.objs.size (.ref l) [] .none) _ _ _;unfold Builtin.Dict.updateFrom;have hT:Shared.TypeIs { s with heap:=hp } (.ref l) "list":=⟨_,ib,kO⟩;refine oW (W6 hT ?_);rw[if_pos (by decide)];refine oW ?_;refine TB (s:={ s with heap:=hp }) (HdC.hd (A:=A.in1.in1) hc mN) ib kO qr nZ fun h2 kT k2=>?_
 have jI:=k2 _ _ ib;have bQ:h2.IsList l its:=⟨_,jI,kO,nn,nZ⟩;have BX:Chn h2 cs:=mN.mono fun b o _ e=>k2 b o e
 rw[if_pos (show(none:Option Value).isNone=true from rfl)];refine oW (WQ ?_);refine oW (Wk bQ ?_);have tE:s.heap.objs.size<h2.objs.size:=by
  obtain⟨o,es,ep,hg,_⟩:=cx;exact Vk (k2 _ _ hg)
 have ll:l<s.heap.objs.size:=Vk ho;have W:=(rN (prog:=prog) (w:=w) (A:=A.in1.in1) hc h2.objs.size l (Vq (Xm ll tE)) (fun z=>absurd (Xm (lt _ z) tE) (VE _)) its).toS;refine Vi ⟨plainId_quiet nF _,Tm (knd:=knd) (A:=A.in1) W (fun z=>?_) hz _ ks vs kvs .none (fun i v hv=>?_) hs hl (its.size - 0) 0 _ rfl (VU _) ⟨⟨_,Vm _ rfl,rfl,rfl⟩,bQ.push _,BX.mono fun b o _ e=>Ve _ e⟩ ⟨fun _ _ _ e=>e,W.grefl _,rfl,rfl,Vh _⟩ ?_ fun s' hm hD=>?_⟩
 ·rcases VH.mp z with z|z
  ·exact absurd z (Vq tE)
  ·rcases VH.mp z with z|z
   ·exact absurd z (V9 ll)
   ·exact VE _ (lt _ z)
 ·obtain⟨t,key,e1,⟨ot,z9,r⟩,hk⟩:=fQ i v hv
  have tl:=Vk z9;refine⟨t,key,e1,⟨ot,Ve _ (k2 _ _ (keep _ _ z9)),r⟩,fun z=>?_,hk⟩;rcases VH.mp z with z|z
  ·exact absurd z (Vq tl)
  ·exact absurd (W7.mp z) (Vq (Xm tl tE))
 ·rw[h0]
  obtain⟨o,es,ep,hg,aP⟩:=cx;exact⟨o,es,ep,Ve _ (k2 _ _ hg),aP⟩
 ·obtain⟨h',g',d',gU,EC⟩:=s'
  have eg:g'=s.gens:=hm.gens;have ed:d'=s.drawn:=hm.drawn;have eo:EC=s.os:=hm.os;subst eg;subst ed;subst eo
  refine⟨rfl,h h' gU hD fun b o e=>hm.heap b o (fun z=>?_) (Ve _ (k2 _ _ (keep _ _ e)))⟩;have bl:=Vk e;rcases VH.mp z with z|z
  ·exact absurd z (Vq bl)
  ·exact absurd (W7.mp z) (Vq (Xm bl tE))
end
end L2
namespace L2
open PySem PySem.Spec PyProof.Rows
def d9 (K:PySem.W.Frag) (H:Hp):List (Key×V)->List V->Prop
 | [],ys=>ys=[]
 | kv::r,ys=>∃ t mQ,ys=.ref t::mQ/\SqT K H t [kV kv.1,kv.2]/\d9 K H r mQ
def eR (m:List (Key×V)) (kv:Key×V):List (Key×V):=aF m kv.1 kv.2
def mkD (kvs:List (Key×V)):List (Key×V):=kvs.foldl eR []
def stN (us:List (Key×Value)):Nat->List (Key×Value)
 | 0=>[]
 | i + 1=>stored (stN us i) (us.getD i (Sum.inl 0,.none)).1 (us.getD i (Sum.inl 0,.none)).2
theorem Gg (us:List (Key×Value)):∀ i,(stN us i).length<=i
 | 0=>Vh _
 | i + 1=>VL (stored_length_le _ _ _) (Nat.succ_le_succ (Gg us i))
theorem mkD_len:∀ (kvs m:List (Key×V)),(kvs.foldl eR m).length<=m.length + kvs.length
 | [],_=>Vh _
 | kv::r,m=>by
  have h1:=mkD_len r (eR m kv);have h2:=rM m kv.1 kv.2;show(r.foldl eR (eR m kv)).length<=_;unfold eR at h1 ⊢;rw[Vw];omega
section
variable {X:Cx}{aa:List (Addr×Obj)}{σ:St}{H:Hp}{s:Shared}
theorem Ju (I:Inv X aa σ H s):∀ {kvs:List (Key×V)}{ys:List V}{its:List Value},d9 X.K H kvs ys->aw ys its->∃ us:List (Key×Value),us.length=its.length/\kvs.length=us.length /\
  (∀ i v,its[i]?=some v->∃ t key,v=.ref t/\s.heap.IsTuple t #[key,(us.getD i (Sum.inl 0,.none)).2]/\(cr X.prog X.w).is (us.getD i (Sum.inl 0,.none)).1 key=true) /\
  ∀ i kv,kvs[i]?=some kv->kv.1=(us.getD i (Sum.inl 0,.none)).1/\av kv.2 (us.getD i (Sum.inl 0,.none)).2
 | [],_,_,h,r=>by
  obtain rfl:_=[]:=h;cases r
  exact⟨[],rfl,rfl,(fun i v hv=>by simp at hv),fun i kv hk=>by simp at hk⟩
 | kv::kvs,_,_,h,r=>by
  obtain⟨t,mQ,rfl,ht,h'⟩:=h;cases r with
  | cons r1 r2=>
   obtain rfl:=(show _=Value.ref t from r1);obtain⟨us,e1,e2,e3,e4⟩:=Ju I h' r2;obtain⟨ti,rv,hT,_⟩:=I.tuple ht;obtain⟨key,u,rfl,q1,q2⟩:=y9 rv;refine⟨(kv.1,u)::us,by rw[Vw,Vw,e1],by rw[Vw,Vw,e2],fun i v hv=>?_,fun i Io hk=>?_⟩
   ·cases i with
    | zero=>
     obtain rfl:Value.ref t=v:=Option.some.inj hv;exact⟨t,key,rfl,hT,lm q1⟩
    | succ i=>exact e3 i v hv
   ·cases i with
    | zero=>
     obtain rfl:kv=Io:=Option.some.inj hk;exact⟨rfl,q2⟩
    | succ i=>exact e4 i Io hk
theorem Fl {kvs:List (Key×V)}{us:List (Key×Value)} (h:∀ i kv,kvs[i]?=some kv->kv.1=(us.getD i (Sum.inl 0,.none)).1/\av kv.2 (us.getD i (Sum.inl 0,.none)).2):∀ i,i<=kvs.length->KV ((kvs.take i).foldl eR []) (stN us i)
 | 0,_=>by rw[W8];exact .nil
 | i + 1,hi=>by
  obtain⟨kv,hk⟩:∃ kv,kvs[i]?=some kv:=⟨_,Vg (by omega)⟩;obtain⟨e1,e2⟩:=h i kv hk;have ih:=Fl h i (by omega);rw[XE,hk,Wd];show KV (eR ((kvs.take i).foldl eR []) kv) (stored (stN us i) _ _);rw[<- e1];exact ih.put _ e2
end
section
variable {X:Cx}
theorem SY:iC X (.type "dict") (fun xs H Q=>∃ p ys kvs,xs=[.ref p]/\SqL X.K H p ys/\d9 X.K H kvs ys/\kvs.length<=1000/\∀ d,H d=none->Q (.ref d) (upd H d (.dK (mkD kvs)))):=by
 intro aa s σ H xs us Q I r h;obtain⟨p,ys,kvs,rfl,hq,hP,ai,q⟩:=h;obtain⟨u,rfl,ru⟩:=hU r;obtain rfl:u=Value.ref p:=ru;obtain⟨its,rv,⟨ol,nn,e1,e2,e3,e4⟩,_⟩:=I.list hq;obtain⟨us,l1,l2,p1,p2⟩:=Ju I hP rv;obtain⟨cs,cP,ch⟩:=I.hd.chain;have hz:its.toArray.size=kvs.length:=by simp[l2,l1]
 refine Q6 (knd:=cr X.prog X.w) cP ch e1 e2 e3 e4 (by rw[hz];exact ai) (fun i=>(us.getD i (Sum.inl 0,.none)).1) (fun i=>(us.getD i (Sum.inl 0,.none)).2) (stN us) rfl (fun _=>rfl) (Gg us) (fun i v hv=>p1 i v (by simpa using hv)) fun h' tk hD hk=>?_
 have ne:(s.heap.objs.size == sysModules)=false:=(AT (P:=X.prog) (w:=X.w) (H:=H) s.heap I.big).2.1;have rel:=Fl p2 kvs.length (Vh _);rw[Vv] at rel;rw[hz] at hD;have z:(mkD kvs).length<=sizeLine:=by
  have:=mkD_len kvs [];have z0:([]:List (Key×V)).length=0:=rfl;rw[Vo];unfold mkD;omega
 refine⟨.ref s.heap.objs.size,_,I.laid (a:=s.heap.objs.size) (o:=.dK (mkD kvs)) (t':=tk) (fun b o e=>hk b o e) (Vh _) ⟨z,ne,_,rel,hD⟩,rfl,q _ (I.hok.fresh (Vh _))⟩
end
end L2
namespace L2
open PySem PySem.Spec PyProof.Rows
end L2
namespace L2
open PySem PySem.Spec PyProof.Rows PySem.SeqAt
open AutoSeq1 (wpAny_loadPart')
section
variable {prog:Program}{w:World}{A:Around}{s:Shared}
end
section
variable {X:Cx}{aa:List (Addr×Obj)}{σ:St}{H:Hp}{s:Shared}{A:Around}
end
end L2
namespace L2
open PySem PySem.Spec PyProof.Rows
section
variable {X:Cx}
end
end L2
namespace L2
open PySem PySem.Spec PyProof.Rows
section
variable {X:Cx}{aa:List (Addr×Obj)}{σ:St}{H:Hp}{s:Shared}{scope:Scope}{N:List Str}{cap:List (Option Nat)}{fp:List Addr}
end
section
variable {X:Cx}{fN tg iter:Expr}{fV:List Expr}{scope:Scope}{pos:Pos}{N:List Str}{cap:List (Option Nat)}{wi:TI}{g:TG}{tt:TT}{te:TE}
end
end L2
namespace L2
open PySem PySem.Spec PyProof.Rows
section
variable {X:Cx}{e st:Expr}{te ts:TE}{pos p2:Pos}
end
end L2
namespace L2
open PySem PySem.Spec PyProof.Rows
theorem RH {X:Cx}:OpR X (binaryOp .FloorDiv) (rI (fun _ j=>0<j/\j<2 ^ 62) fun i j=>.int (i / j)):=opI fun i j _ _ _ _ _ hc q=>by
 have h1:(0:Int)<j:=hc.1;have h2:j<2 ^ 62:=hc.2;refine floordiv_int (by omega) (by rw[XA i (by omega)];exact q) (.inl (PyProof.noPylong_of_log2 ?_));exact(Nat.log2_lt (by omega)).mpr (Vy (by omega:j.natAbs<2 ^ 62) (Xo (by decide) (by decide)))
end L2
namespace L2
open PySem PySem.Spec PyProof.Rows
open Sem (wp)
section
variable {M:Model}{A:Around}{E:Value->Shared->Prop}{s:Shared}{env:Env}
theorem RE {pos:Pos}{T:String}{x:Sem Value}{aP:List (Bool×Sem Value)}{oR:List (Option Str×Sem Value)}{Q:Value->Shared->Prop}
  (hp:aP.any (·.1)=false) (hk:oR.any (·.1.isNone)=false) (ha:oR.all (·.1.isSome)=true)
  (h:wpAny M A (spliced ((false,x)::aP)) (fun vs s1=>wpAny M A (evalAll (oR.map (·.2))) (fun ks s2=>wpAny M A (call (.type T) vs ((oR.filterMap (·.1)).zip ks)) Q E s2) E s1) E s) :
  wpAny M A (callWith pos (.type T) [] ((false,x)::aP) oR) Q E s:=by
 unfold callWith;refine oW (VJ (evalArgs_kwB ha (V0 h (fun vs s1 h1=>V0 h1 (fun ks s2 h2=>?_) fun _ _ z=>z) fun _ _ z=>z)));refine oW (W2 ?_);have hs:(((false,x)::aP).any (·.1) || oR.any (·.1.isNone))=false:=by rw[W3,hp,hk];rfl
 simp only[hs]
 refine oW (Vi ?_);exact oW (V0 h2 (fun r s3 hr=>oW (VJ (wpAny_point (Vi hr)))) fun _ _ z=>z)
end
section
variable {prog:Program}{w:World}{A:Around}{E:Value->Shared->Prop}{s:Shared}
theorem RX (l:Addr) (items:Array Value) (n:Nat) (EI:Option Addr) (sl:Array (Option Value)) (k:Nat) (t:Tok) (hk:k<2 ^ 62) :
  Meets (Builtin.«enumerate.__new__» ⟨[.type "enumerate",.ref l],[(Str.ofString "start",.int k t)]⟩) (fun _ R s=>s.heap.get? l=some { cls:=.type "list",dict:=EI,data:=.seq items n,slots:=sl } /\
   R (.ok (.ret (.ref (s.heap.push { cls:=.type "list_iterator",data:=.fields #[.ref l,.int 0 0] }).objs.size))) { s with heap:=(s.heap.push { cls:=.type "list_iterator",data:=.fields #[.ref l,.int 0 0] }).push { cls:=.type "enumerate",data:=.fields #[.none,.bool false,.ref s.heap.objs.size,rawInt k,.none,.none] } }):=
 .of_wp fun prog w A R s h=>by
  obtain⟨hp,g,d,tk,os⟩:=s;obtain⟨hl,h⟩:=h;have sub:=sub_enumerate;have hL:Heap.IsList (Shared.heap ⟨hp,g,d,tk,os⟩) l items:=⟨_,hl,rfl,n,rfl⟩
  wp_walk using AutoSeq1.wpAny_loadPart' hl
  have fit:(!Builtin.SmallTypes.fitsIndex (k:Int))=false:=by
   unfold Builtin.SmallTypes.fitsIndex;rw[VG (by omega),VG (by omega)];rfl
  refine wpAny_stack_any fun st=>Vi ?_
  split
  ·rename_i c _ _ _ _ _
   cases (c == Value.type "enumerate")
   ·simp only[V2,if_false]
    refine oW ?_;refine Wl (a:=(Value.ref l,some (Value.int (k:Int) t))) ?e1 ?_
    case e1=>kernel_rfl
    refine oW ?_;refine Wl (a:=Value.int (k:Int) t) ?e2 ?_
    case e2=>rfl
    refine oW ?_;refine Wl (a:=some (k:Int)) ?e3 ?_
    case e3=>rfl
    dsimp only;rw[if_neg (by rw[fit];exact Vu)];refine oW (Wk hL ?_)
    wp_walk
    exact⟨_,rfl,h⟩
   ·simp only[if_true]
    refine oW ?_;refine Wl (a:=(Value.ref l,some (Value.int (k:Int) t))) ?e1 ?_
    case e1=>kernel_rfl
    refine oW ?_;refine Wl (a:=Value.int (k:Int) t) ?e2 ?_
    case e2=>rfl
    refine oW ?_;refine Wl (a:=some (k:Int)) ?e3 ?_
    case e3=>rfl
    dsimp only;rw[if_neg (by rw[fit];exact Vu)];refine oW (Wk hL ?_)
    wp_walk
    exact⟨_,rfl,h⟩
  ·simp only[V2,if_false]
   refine oW ?_;refine Wl (a:=(Value.ref l,some (Value.int (k:Int) t))) ?e1 ?_
   case e1=>kernel_rfl
   refine oW ?_;refine Wl (a:=Value.int (k:Int) t) ?e2 ?_
   case e2=>rfl
   refine oW ?_;refine Wl (a:=some (k:Int)) ?e3 ?_
   case e3=>rfl
   dsimp only;rw[if_neg (by rw[fit];exact Vu)];refine oW (Wk hL ?_)
   wp_walk
   exact⟨_,rfl,h⟩
theorem Tc {T nw:String}{Bn:Builtin}{as:List Value}{kw:List (Str×Value)}{S:PySem.Spec}{Q:Value->Shared->Prop} (ft:TypeCalled T nw "object.__init__")
  (fh:(some nw != some "object.__new__")=true) (GO:checkTypeCall T ⟨as,kw⟩=pure ()) (NT:checkBuiltinCall nw ⟨.type T::as,kw⟩=pure ()) (hok:∀ o,argsOk "object.__init__" ⟨o::as,kw⟩)
  (hin:∀ o,Meets (Builtin.«object.__init__» ⟨o::as,kw⟩) (fun _ R s=>s.TypeIs o T/\R (.ok (.ret .none)) s))
  (en:entryFor table nw=some Bn) (g:Meets (Bn ⟨.type T::as,kw⟩) S) (h:S A.in1 (wants (fun o s1=>s1.TypeIs o T/\Q o s1) E) s):wpAny (model prog w) A (call (.type T) as kw) Q E s:=by
 obtain⟨c1,U0,Pd⟩:=ft.mro;have f1:=ft.made;have f2:=ft.sub;have f3:=ft.notType;have f4:=ft.canCreate;refine WU (codeAny_of_tree (show wpAny _ _ (callAny (.type T) _) _ _ _ from Vi ⟨Code.quiet_builtin _ (by decide +kernel),codeAny_builtin F.entry_type_call ?_⟩));rw[Around.under_plain (weight_type_call_type T as kw) (units_type_call_type T as kw)]
 repeat (any_goals (first|assumption|wp_step))
 refine codeAny_mono (codeAny_call_builtin ft.plain en (Wl NT (g prog w A.in1 _ s h))) fun r s1 hr=>?_
 match r,hr with
 | .error _,hr=>exact hr
 | .ok (.ret o),hr=>
  obtain⟨hT,hq⟩:=hr;have i1:=ft.init.lookup;have i2:=ft.init.bind o
  repeat (any_goals (first|assumption|wp_step))
  refine codeAny_mono (codeAny_call_builtin ft.init.plain F.entry_object_init (ft.init.check _ _ _ _ _ _ _ _ hT (hok o) (hin o prog w A.in1 (wants (fun r s2=>r=.none/\s2=s1) (fun _ _=>False)) s1 ⟨hT,rfl,rfl⟩))) fun r2 s2 fW=>?_
  match r2,fW with
  | .error _,fW=>exact fW.elim
  | .ok (.ret v),fW=>
   obtain⟨rfl,rfl⟩:=fW
   repeat (any_goals (first|assumption|wp_step))
  | .ok .next,fW=>exact fW.elim
  | .ok .brk,fW=>exact fW.elim
  | .ok .cont,fW=>exact fW.elim
 | .ok .next,hr=>exact hr.elim
 | .ok .brk,hr=>exact hr.elim
 | .ok .cont,hr=>exact hr.elim
end
section
variable {prog:Program}{w:World}{A:Around}{E:Value->Shared->Prop}{s:Shared}
theorem Sn (o x:Value) (kw:List (Str×Value)):Meets (Builtin.«object.__init__» ⟨[o,x],kw⟩) (fun _ R s=>s.TypeIs o "enumerate"/\R (.ok (.ret .none)) s):=by
 refine Meets.of_wp fun prog w A R s hs=>?_
 obtain⟨hT,hq⟩:=hs;have l1:=F.called_enumerate.init.lookup;have l2:=F.called_enumerate.made
 repeat (any_goals (first|assumption|wp_step))
 exact⟨_,rfl,hq⟩
theorem Sa {l:Addr}{items:Array Value}{k:Nat}{t:Tok} (hk:k<2 ^ 62){Q:Value->Shared->Prop} (hL:s.heap.IsList l items)
  (h:∀ h',IsEnum h' (s.heap.objs.size + 1) s.heap.objs.size k .none->h'.IsListIter s.heap.objs.size l 0->(∀ b o,s.heap.get? b=some o->h'.get? b=some o)->Q (.ref (s.heap.objs.size + 1)) { s with heap:=h' }) :
  wpAny (model prog w) A (call (.type "enumerate") [.ref l] [(Str.ofString "start",.int k t)]) Q E s:=by
 obtain⟨⟨c,EI,dt,sl⟩,hl,hc,n,hd⟩:=hL;dsimp only at hc hd;subst hc hd;have hz:(s.heap.push { cls:=.type "list_iterator",data:=.fields #[.ref l,.int 0 0] }).objs.size=s.heap.objs.size + 1:=VI ..;refine Tc F.called_enumerate (by decide) (by kernel_rfl) (by kernel_rfl) (fun o=>by first|rfl|kernel_rfl) (fun o=>Sn o _ _) F.entry_enumerate_new (RX l items n EI sl k t hk) ⟨hl,?_⟩;show _/\_;rw[hz];have he:=Vm (s.heap.push { cls:=.type "list_iterator",data:=.fields #[.ref l,.int 0 0] }) (o:={ cls:=.type "enumerate",data:=.fields #[.none,.bool false,.ref s.heap.objs.size,rawInt k,.none,.none] }) rfl;rw[hz] at he;exact⟨⟨_,he,rfl⟩,h _ he ⟨_,Ve _ (Vm _ rfl),rfl,rfl⟩ fun b o e=>Ve _ (Ve _ e)⟩
end
section
variable {prog:Program}{w:World}{A:Around}{E:Value->Shared->Prop}{s:Shared}
theorem Tt {e it l:Addr}{i:Nat}{j:Int}{xs:Array Value}{x old:Value}{Q:Value->Shared->Prop} (he:IsEnum s.heap e it j old) (aI:s.heap.IsListIter it l i) (hl:s.heap.IsList l xs) (hx:xs[i]?=some x) (ne:e≠it)
  (hQ:∀ h',IsEnumOut h' e it (j + 1) x s.heap.objs.size->h'.IsListIter it l (i + 1)->h'.get? s.heap.objs.size=some { cls:=.type "tuple",data:=.seq #[.int j s.toks,x] }->(∀ b o,b≠e->b≠it->s.heap.get? b=some o->h'.get? b=some o) ->
   Q (.ref s.heap.objs.size) { s with heap:=h',toks:=s.toks + 1 }) :
  wpAny (model prog w) A (Builtin.«enumerate.__next__» ⟨[.ref e],[]⟩) (fun aO s'=>∃ v,aO=.done (.ret v)/\Q v s') E s:=by
 obtain⟨hp,gn,dr,tk,os⟩:=s;refine(show wpAny _ _ (field (.ref e) 2 >>= _) _ _ _ from oW (VF he rfl (x:=.ref it) rfl (oW (WJ aI hl hx fun g1 NZ b1=>?_))))
 replace b1:Heap.SameBut it hp g1:=b1
 have e1:IsEnum g1 e it j old:=(b1.2 e ne).trans he;refine(show wpAny _ _ (field (.ref e) 3 >>= _) _ _ ⟨g1,gn,dr,tk,os⟩ from oW (VF e1 rfl (x:=rawInt j) rfl ?_));refine(show wpAny _ _ (field (.ref e) 4 >>= _) _ _ ⟨g1,gn,dr,tk,os⟩ from oW (VF e1 rfl (x:=.none) rfl ?_));refine(show wpAny _ _ (mkInt j >>= _) _ _ ⟨g1,gn,dr,tk,os⟩ from oW (wpAny_mkInt ?_));refine(show wpAny _ _ (setField (.ref e) 3 (rawInt (j + 1)) >>= _) _ _ ⟨g1,gn,dr,tk + 1,os⟩ from oW (Wo e1 (by simp) fun g2 e2 b2=>?_))
 replace b2:Heap.SameBut e g1 g2:=b2
 replace e2:IsEnum g2 e it (j + 1) old:=e2
 refine(show wpAny _ _ (setField (.ref e) 4 .none >>= _) _ _ ⟨g2,gn,dr,tk + 1,os⟩ from oW (Wo e2 (by simp) fun g3 e3 b3=>?_))
 replace b3:Heap.SameBut e g2 g3:=b3
 replace e3:IsEnum g3 e it (j + 1) old:=e3
 refine(show wpAny _ _ (newTuple [.int j tk,x] >>= _) _ _ ⟨g3,gn,dr,tk + 1,os⟩ from oW (wpAny_newTuple ?_));have e4:IsEnum (g3.push { cls:=.type "tuple",data:=.seq #[.int j tk,x] }) e it (j + 1) old:=Ve _ e3;have z3:g3.objs.size=hp.objs.size:=by rw[b3.1,b2.1,b1.1]
 have el:e<hp.objs.size:=Vk he;have tu:(g3.push { cls:=.type "tuple",data:=.seq #[.int j tk,x] }).get? hp.objs.size=some { cls:=.type "tuple",data:=.seq #[.int j tk,x] }:=by
  rw[<- z3];exact Vm _ rfl
 have kp:∀ b o,b≠e->b≠it->hp.get? b=some o->(g3.push { cls:=.type "tuple",data:=.seq #[.int j tk,x] }).get? b=some o:=fun b o n1 n2 q=>Ve _ (b3.extBut b o n1 (b2.extBut b o n1 (b1.extBut b o n2 q)))
 have Je:(g3.push { cls:=.type "tuple",data:=.seq #[.int j tk,x] }).IsListIter it l (i + 1):=by
  obtain⟨o,ho,r⟩:=(NZ.extBut b2.extBut (Ne.symm ne)).extBut b3.extBut (Ne.symm ne);exact⟨o,Ve _ ho,r⟩
 generalize g3.push { cls:=.type "tuple",data:=.seq #[.int j tk,x] }=g4 at e4 tu kp Je;refine(show wpAny _ _ (Builtin.SmallTypes.ownedTupleIsFree (.ref e) >>= _) _ _ ⟨g4,gn,dr,tk + 1,os⟩ from ?_);rw[z3];refine oW ?_;unfold Builtin.SmallTypes.ownedTupleIsFree;refine oW (VF e4 rfl (x:=.none) rfl (Vi ?_));simp only[if_true]
 refine oW (WQ (oW (VF e4 rfl (x:=old) rfl (oW (Wo e4 (by simp) fun g5 e5 b5=>?_)))))
 replace b5:Heap.SameBut e g4 g5:=b5
 replace e5:IsEnum g5 e it (j + 1) x:=e5
 refine(show wpAny _ _ (Builtin.SmallTypes.ownedTupleHandOut (.ref e) (.ref hp.objs.size) >>= _) _ _ ⟨g5,gn,dr,tk + 1,os⟩ from oW ?_);unfold Builtin.SmallTypes.ownedTupleHandOut;refine oW (Wo e5 (by simp) fun g6 e6 b6=>?_)
 replace b6:Heap.SameBut e g5 g6:=b6
 replace e6:IsEnumOut g6 e it (j + 1) x hp.objs.size:=e6
 refine Wo e6 (by simp) fun g7 e7 b7=>?_
 replace b7:Heap.SameBut e g6 g7:=b7
 replace e7:IsEnumOut g7 e it (j + 1) x hp.objs.size:=e7
 have on:∀ b o,b≠e->g4.get? b=some o->g7.get? b=some o:=fun b o n q=>b7.extBut b o n (b6.extBut b o n (b5.extBut b o n q))
 refine oW (WF (Vi ⟨_,rfl,hQ g7 e7 ?_ (on _ _ (V9 el) tu) fun b o n1 n2 q=>on b o n1 (kp b o n1 n2 q)⟩));exact((Je.extBut b5.extBut (Ne.symm ne)).extBut b6.extBut (Ne.symm ne)).extBut b7.extBut (Ne.symm ne)
end
section
variable {prog:Program}{w:World}{A:Around}{E:Value->Shared->Prop}{s:Shared}
theorem RP {e it l:Addr}{i:Nat}{j:Int}{xs:Array Value}{x old:Value}{Q:Option Value->Shared->Prop} (he:IsEnum s.heap e it j old) (aI:s.heap.IsListIter it l i) (hl:s.heap.IsList l xs) (hx:xs[i]?=some x) (ne:e≠it)
  (hQ:∀ h',IsEnumOut h' e it (j + 1) x s.heap.objs.size->h'.IsListIter it l (i + 1)->h'.get? s.heap.objs.size=some { cls:=.type "tuple",data:=.seq #[.int j s.toks,x] }->(∀ b o,b≠e->b≠it->s.heap.get? b=some o->h'.get? b=some o) ->
   Q (some (.ref s.heap.objs.size)) { s with heap:=h',toks:=s.toks + 1 }):wpAny (model prog w) A (pyNext (.ref e)) Q E s:=by
 have ty:s.TypeIs (.ref e) "enumerate":=⟨_,he,rfl⟩;unfold pyNext;refine oW (Wx (VP (name:=Str.ofString "__next__") ty F.slot_enumerate_next (V6 F.slot_enumerate_next ty F.entry_enumerate_next ?_ (F.args_enumerate_next_1 _))));exact Tt he aI hl hx ne fun h' a b c d=>Vi (hQ h' a b c d)
theorem Ul {e it l:Addr}{i:Nat}{j:Int}{items:Array Value}{old:Value}{Q:Option Value->Shared->Prop} (hd:Hd A s.heap)
  (he:IsEnum s.heap e it j old) (aI:s.heap.IsListIter it l i) (hl:s.heap.IsList l items) (hx:items[i]?=none)
  (hQ:∀ h',Heap.ExtBut it s.heap h'->Q none { s with heap:=h' }):wpAny (model prog w) A (pyNext (.ref e)) Q E s:=by
 have ht:s.TypeIs (.ref e) "enumerate":=⟨_,he,rfl⟩;unfold pyNext;refine oW (Wx (VP (name:=Str.ofString "__next__") ht F.slot_enumerate_next (V6 F.slot_enumerate_next ht F.entry_enumerate_next ?_ (F.args_enumerate_next_1 _))));refine(show wpAny _ _ (field (.ref e) 2 >>= _) _ _ _ from oW (VF he rfl (x:=.ref it) rfl ?_));refine oW (qT (A:=A.in1) hd aI hl hx fun h' x dX d5=>?_);obtain⟨o,ho,hc⟩:=d5;exact oW (Wu (T:="StopIteration") (b:=true) ⟨o,ho,hc⟩ isSubtype_stop (Vi (hQ _ dX)))
end
def IteK (K:PySem.W.Frag) (l:Addr) (k:Nat):It:=
  ⟨fun i H=>∃ xs x,SqL K H l xs/\xs[i]?=some x,
   fun i H v H'=>∃ T x,v=.ref T/\H T=none/\H'=upd H T (.tup [.int ((k:Int) + i),x])/\∀ xs,SqL K H l xs->xs[i]?=some x,
   fun i H=>∃ xs,SqL K H l xs/\xs.length<=i⟩
def Td (h:Heap) (e it l:Addr) (k i:Nat):Prop:=∃ old,IsEnum h e it ((k:Int) + i) old/\h.IsListIter it l i
theorem SQ {P:Program}{w:World}{K:PySem.W.Frag}{es:List Expr}{kx:Nat}{pos:Pos}{e it l:Addr}{st0:Nat} (fh:e≠it) :
  m5 P w K (.Tuple es kx pos) (IteK K l st0) [e,it] e (fun i h=>Td h e it l st0 i) where
 mem:=by simp
 obj:=fun i h st b hb=>by
  obtain⟨old,he,⟨o1,e1,c1,d1⟩⟩:=st;simp only[VH,VC,or_false] at hb
  rcases hb with rfl|rfl
  ·exact⟨_,he,fun v q=>by simp at q⟩
  ·exact⟨_,e1,fun v q=>by rw[d1] at q;cases q⟩
 keep:=fun i h h' st k=>by
  obtain⟨old,he,h1⟩:=st;exact⟨old,k e (by simp) _ he,h1.at fun o q=>k it (by simp) o q⟩
 item:=by
  intro X hP hw hK hc i aa s σ H E I hf st hg;subst hP hw hK;obtain⟨xs,x,q1,hx⟩:=hg;obtain⟨old,he,h1⟩:=st;obtain⟨its,rv,pl,_⟩:=I.list q1;obtain⟨u,hu,ru⟩:=rv.get hx;have nf:∀ b∈[e,it],b∉frs X.stack:=fun b hb q=>(VH.mp (I.stkSub b q)).elim (hf b hb).2.1 (hf b hb).2.2.1
  refine RP he h1 pl.isList (x:=u) (by simpa using hu) fh fun h' a1 a2 a3 hk=>⟨_,rfl,?_⟩
  refine XB (s:={ s with heap:=h',toks:=s.toks + 1 }) a1 fun h'' jz a8=>?_
  replace a8:Heap.SameBut e h' h'':=a8
  have oz:H s.heap.objs.size=none:=I.hok.fresh (Vh _);have Ef:=Vk he;have ow:∀ b o,b≠e->b≠it->s.heap.get? b=some o->h''.get? b=some o:=fun b o n1 n2 q=>a8.extBut b o n1 (hk b o n1 n2 q)
  have I1:Inv X aa σ (upd H s.heap.objs.size (.tup [.int ((st0:Int) + i),x])) { s with heap:=s.heap.push { cls:=.type "tuple",data:=.seq #[.int ((st0:Int) + i) s.toks,u] },toks:=s.toks + 1 }:=
   I.laid (t':=s.toks + 1) (fun b o q=>Ve _ q) (Vh _) ⟨by show 2<=sizeLine;decide,[.int ((st0:Int) + i) s.toks,u],.cons ⟨_,rfl⟩ (.cons ru .nil),⟨_,Vm _ rfl,rfl,_,rfl⟩⟩
  have lT:∀ b∈[e,it],bC X aa (upd H s.heap.objs.size (.tup [.int ((st0:Int) + i),x])) b:=fun b hb=>by
   obtain⟨f0,r⟩:=hf b hb;refine⟨?_,r⟩;have lt:b<s.heap.objs.size:=by
    simp only[VH,VC,or_false] at hb
    rcases hb with rfl|rfl
    ·exact Ef
    ·obtain⟨o,q,_⟩:=h1;exact Vk q
   rw[aj (Vq lt)];exact f0
  have I2:Inv X aa σ (upd H s.heap.objs.size (.tup [.int ((st0:Int) + i),x])) { s with heap:=h'',toks:=s.toks + 1 }:=by
   have back:∀ b o,(s.heap.push { cls:=.type "tuple",data:=.seq #[.int ((st0:Int) + i) s.toks,u] }).get? b=some o->b≠e->b≠it->h''.get? b=some o:=fun b o q n1 n2=>by
    rcases W0 q with⟨rfl,rfl⟩|q
    ·exact a8.extBut _ _ n1 a3
    ·exact ow b o n1 n2 q
   refine I1.slots (ch:=[e,it]) (tk:=s.toks + 1) lT (fun b o _ hc q=>?_) (fun b o hb q=>⟨o.slots,?_⟩) (fun b hb o q=>?_)
   ·simp only[VH,VC,or_false,not_or] at hc
    exact back b o q hc.1 hc.2
   ·exact back b o q (fun z=>nf e (by simp) (z ▸ hb)) (fun z=>nf it (by simp) (z ▸ hb))
   ·simp only[VH,VC,or_false] at hb
    rcases hb with rfl|rfl
    ·exact⟨_,jz⟩
    ·obtain⟨o,q,_⟩:=a2;exact⟨_,a8.extBut _ _ fh.symm q⟩
  refine⟨.ref s.heap.objs.size,_,I2,rfl,⟨_,x,rfl,oz,rfl,fun Jh q=>by rw[I.list_inj q q1];exact hx⟩,?_,fun b hb=>(lT b hb).1⟩;exact⟨u,by rw[show((st0:Int) + ((i + 1:Nat):Int))=(st0:Int) + i + 1 by omega];exact jz,a2.extBut a8.extBut fh.symm⟩
 done:=by
  intro X hP hw hK hc i aa s σ H E I hf st hg;subst hP hw hK;obtain⟨xs,q1,ai⟩:=hg;obtain⟨old,he,h1⟩:=st;obtain⟨its,rv,pl,_⟩:=I.list q1;have e1:=rv.length;have nf:∀ b∈[e,it],b∉frs X.stack:=fun b hb q=>(VH.mp (I.stkSub b q)).elim (hf b hb).2.1 (hf b hb).2.2.1
  refine Ul I.hd he h1 pl.isList (by simp;omega) fun h' hk=>⟨rfl,?_⟩
  refine I.slot0 (ch:=[e,it]) (tk:=s.toks) hf (fun b o _ hc q=>?_) (fun b o hb q=>⟨o.slots,?_⟩)
  ·simp only[VH,VC,or_false,not_or] at hc
   exact hk b o hc.2 q
  ·exact hk b o (fun z=>nf it (by simp) (z ▸ hb)) q
 self:=fun _ _ s _ _ st h=>by
  obtain⟨old,he,_⟩:=st;exact W9 he h
def iEnumK (K:PySem.W.Frag) (ta:TA) (tb:TE):TI:=fun σ H R=>ta σ H fun vs H1=>tb σ H1 fun y H2=>∃ l,∃ k:Nat,vs=[.ref l]/\y=.int k/\k<2 ^ 62/\(∃ xs,SqL K H2 l xs)/\R (IteK K l k) H2
section
variable {X:Cx}
theorem Rq {es:List Expr}{kx:Nat}{tpos p pos bG:Pos}{a b:Expr}{ta:TA}{tb:TE} (hg:Gl X "enumerate") (hm:X.mg "enumerate"=none) (ha:PA X [a] ta) (hb:PE X b tb)
  (hs:backTo pos (starEach [a] X.env)=(false,eval a X.env)::backTo pos (starEach [] X.env):=by rfl) (hp:(backTo pos (starEach [] X.env)).any (·.1)=false:=by rfl)
  (ua:(backToKw pos (keywordEach [⟨some "start",b,bG⟩] X.env)).all (·.1.isSome)=true:=by rfl) (yk:(backToKw pos (keywordEach [⟨some "start",b,bG⟩] X.env)).any (·.1.isNone)=false:=by rfl)
  (oy:∀ u:Value,((backToKw pos (keywordEach [⟨some "start",b,bG⟩] X.env)).filterMap (·.1)).zip [u]=[(Str.ofString "start",u)]:=by intro u;rfl) :
  PI X (.Tuple es kx tpos) (.Call (.Name "enumerate" p) [a] [⟨some "start",b,bG⟩] pos) (iEnumK X.K ta tb):=by
 intro aa s σ H R I h;refine V3 (iD I hg hm boot_enumerate ?_);have z:=ha pos aa s σ H _ I h;rw[hs] at z ⊢;refine RE hp yk ua (thn z fun us s1=>L2.ex5 fun vs H1 I1 r1 q1=>?_);refine PyProof.Rows.kws_cons (thn (hb aa s1 σ H1 _ I1 q1) fun u s2 ⟨y,H2,I2,r2,l,k,e1,e2,hk,⟨xs,hx⟩,q⟩=>PyProof.Rows.kws_nil ?_);rw[oy];subst e1 e2;obtain⟨v,rfl,rv⟩:=hU r1;obtain rfl:v=Value.ref l:=rv;obtain⟨t,rfl⟩:=r2;obtain⟨its,rx,pl,_⟩:=I2.list hx;refine Sa hk pl.isList fun h' b1 b2 ko=>?_
 refine W9 (s:={ s2 with heap:=h' }) b1 ?_;refine⟨s2.heap.objs.size + 1,[s2.heap.objs.size + 1,s2.heap.objs.size],_,_,H2,rfl,I2.kept (t':=s2.toks) ko,SQ (st0:=k) (V9 (Wa _)),⟨_,by rw[show((k:Int) + ((0:Nat):Int))=k by omega];exact b1,b2⟩,fun b hb=>?_,q⟩;have ge:s2.heap.objs.size<=b:=by
  simp only[VH,VC,or_false] at hb
  rcases hb with rfl|rfl
  ·exact VO _ _
  ·exact Vh _
 exact I2.fpOk ge (I2.hok.fresh ge)
end
section
theorem R8 {K:PySem.W.Frag}{l:Addr}{st0:Nat}{xs:List V}{g:TG}{tb:TS}{D:gL}{σ:St}{H:Hp} (Pv:Nat->St->Hp->Prop) (h0:Pv 0 σ H) (hl:∀ i σ H,i<=xs.length->Pv i σ H->SqL K H l xs)
  (hs:∀ i x T σ H,xs[i]?=some x->H T=none->Pv i σ H->g (.ref T) σ (upd H T (.tup [.int ((st0:Int) + i),x])) fun σ2 H2=>tb { D with nx:=Pv (i + 1),ct:=Pv (i + 1),bk:=D.nx } σ2 H2) (hd:∀ σ H,Pv xs.length σ H->D.nx σ H) :
  ∃ W:Nat->Nat->St->Hp->Prop,(∃ m,W 0 m σ H)/\∀ i m σ H,W i m σ H ->
   ((IteK K l st0).stop i H/\D.nx σ H)\/((IteK K l st0).go i H/\∃ N:St->Hp->Prop,(∀ σ' H',N σ' H'->∃ m',m'<m/\W (i + 1) m' σ' H')/\∀ x H',(IteK K l st0).yld i H x H'->g x σ H' fun σ2 H2=>tb { D with nx:=N,ct:=N,bk:=D.nx } σ2 H2):=by
 refine⟨fun i m σ H=>m=xs.length - i/\i<=xs.length/\Pv i σ H,⟨xs.length,by simp,VU _,h0⟩,?_⟩;rintro i m σ H ⟨rfl,hi,p⟩
 have q:=hl i σ H hi p;by_cases aE:i<xs.length
 ·refine .inr ⟨⟨xs,xs[i],q,by simp[aE]⟩,Pv (i + 1),fun σ' H' p'=>⟨xs.length - (i + 1),by omega,rfl,aE,p'⟩,fun v H' y=>?_⟩
  obtain⟨T,x,rfl,hT,rfl,hx⟩:=y;exact hs i x T σ H (hx xs q) hT p
 ·have e:i=xs.length:=by omega
  subst e;exact .inl ⟨⟨xs,q,Vh _⟩,hd σ H p⟩
end
end L2
namespace L2
open PySem PySem.Spec PyProof.Rows
def alike (c:Int) (l:List Keyed):List Keyed:=l.filter fun p=>numOf p.1 == c
structure Dn (O:List Keyed) (x IS:Nat) (l U B C O1:List Keyed) (b:Int):Prop where
 arr:l=U++B++C
 org:O=O1++B++C
 len:U.length + B.length=x
 lb:B.length=IS + 1
 fil:∀ c,alike c U=(alike c O1).reverse
 eqb:∀ p∈B,numOf p.1=b
 gt:∀ p∈U,b<numOf p.1
 dec:U.Pairwise fun p q=>numOf q.1<=numOf p.1
section
variable {O U B C O1:List Keyed}{x IS:Nat}{b:Int}{xs:Array Keyed}{p:Keyed}
end
section
variable {prog:Program}{w:World}{Ar:Around}{E:Value->Shared->Prop}{s:Shared}{a₀:Array Keyed}{O:List Keyed}
end
end L2
namespace L2
open PySem PySem.Spec PyProof.Rows
section
variable {X:Cx}{aa:List (Addr×Obj)}{σ:St}{H:Hp}{s:Shared}{scope:Scope}{params:Arguments}{body:Expr}{pos:Pos}{c P:Addr}{N:List Str}{cap:List (Option Nat)}
abbrev lj (X:Cx):Str:=X.env.qual++"<lambda>"
def Bm (X:Cx) (scope:Scope) (params:Arguments) (body:Expr) (pm:Value) (c':Addr) (fc:Value):Obj:=
 PySem.W.kla_obj "<lambda>" (lj X) params body scope (dm X.env.cells scope.names []) pm c' fc
def zn (H:Hp) (c' P:Addr) (qual:Str):Prop:=∃ oc vs t,H c'=some (.frz oc (.own P))/\oc.data=.fields vs/\vs[1]?=some (.str qual t)
theorem zn.rec {prog:Program}{w:World}{h:Heap}{c' P:Addr}{qual:Str} (x:zn H c' P qual) (k:HOk prog w H h):h.CodeRec (.ref c') qual:=by
 obtain⟨oc,vs,t,e1,e2,e3⟩:=x;obtain⟨z,_⟩:=k c' _ e1;exact⟨c',oc,vs,t,rfl,z,e2,e3⟩
theorem Ss {M:Model}{A:Around}{E:Value->Shared->Prop}{Q:Value->Shared->Prop} (I:Inv X aa σ H s) (gD:X.env.code=.ref c) (hc:PySem.W.codeHdIn X.K c P=true) (hP:H P=some (.tbl pos (lj X)))
  (ok:dI X.env.scope scope X.N N cap=true) (oj:defaultsOf params X.env=([],[]))
  (h:∀ f c' pm fc H' s',Inv X aa σ H' s'->ad H H'->s.heap.objs.size<=f->H' f=none->s'.heap.get? f=some (Bm X scope params body pm c' fc)->zn H' c' P (lj X)->Q (.ref f) s') :
  wpAny M A (eval (.Lambda params body scope pos) X.env) Q E s:=by
 have tb:=I.hok P _ hP;obtain⟨bm,ob,b1,b2,b3,b4,b5,b6⟩:=I.ok.mod.bmain;have hg:s.heap.Ns mainGlobals X.mg:=I.ok.mod.glob.keeps I.bk;have cl:=FM (I.clos ok);have NL:mainGlobals≠P:=fun z=>by
  obtain⟨o,_,_,e,_⟩:=I.ok.mod.glob;have:=(I.bs _ _ e).2;rw[z,hP] at this;cases this
 have MA:bm≠P:=fun z=>by
  have:=(I.bs _ _ b3).2;rw[z,hP] at this;cases this
 have Nf:bm≠mainGlobals:=fun z=>by
  obtain⟨o,es,ep,e,hd,_⟩:=I.ok.mod.glob;rw[z,e] at b3;cases b3;rw[hd] at b6;cases b6
 have C:=PySem.W.codeHd_of_K I.kIn hc;have hb:s.heap.BuiltinsAt X.mg P:=⟨bm,ob,b1,b2,Nf,MA,I.bk _ _ b3,b4,b5,b6⟩;refine PySem.W.kla_eval oj ?_;rcases tb with tb|⟨c',oc,vs,t,e1,e2,e3,tb⟩
 ·refine PySem.W.kla_makeFunction cl I.ok.glob hg gD C tb trivial rfl NL hb fun c' fc h' tk hx kY aE BY iV=>?_
  obtain⟨c₂,oc,vs,t,q,ug,hd,hv⟩:=BY;cases q
  have hn:H c'=none:=I.hok.fresh kY;have UQ:c'≠P:=fun z=>by rw[z,hP] at hn;cases hn
  have nP:∀ b,H b=none->b≠P:=fun b n z=>by rw[z,hP] at n;cases n
  have k:∀ (o:Obj) b u,b≠P->s.heap.get? b=some u->(h'.push o).get? b=some u:=fun o b u n q=>Ve _ (hx b u n q)
  have vW:∀ o:Obj,(h'.push o).get? P=some (PySem.W.tabObj (#[]++#[rawInt pos.line,rawInt pos.col,.ref c'])):=fun o=>Ve _ iV
  have oH:∀ b u,H b=some u->upd H c' (.frz oc (.own P)) b=some u:=fun b u q=>by rw[aj (ap q hn)];exact q
  have un:∀ o:Obj,Un X.fs [] H (upd H c' (.frz oc (.own P))) s.heap (h'.push o):=fun o=>by
   refine⟨fun b u q n _ _=>k o b u (nP b n) q,fun b u q n _ _=>⟨u.slots,k o b u (nP b n) q⟩,fun b u q n _=>?_,fun b u q _=>?_,fun b xs q=>oH _ _ q,fun b u v q=>oH _ _ q,fun b p r q=>oH _ _ q⟩
   ·rw[aj (Vq (Vy (Vk q) kY))];exact n
   ·by_cases z:b=P
    ·exact⟨_,z ▸ vW o⟩
    ·exact⟨u,k o b u z q⟩
  have hok:∀ o:Obj,HOk X.prog X.w (upd H c' (.frz oc (.own P))) (h'.push o):=fun o b u q=>by
   by_cases z:b=c'
   ·subst z
    rw[af] at q;cases q
    exact⟨Ve _ ug,_,Ve _ ug⟩
   ·rw[aj z] at q
    by_cases z2:b=P
    ·subst z2
     rw[hP] at q;cases q
     exact .inr ⟨c',oc,vs,t,af,hd,hv,vW o⟩
    ·refine(I.hok b u q).stay (fun d v hd q'=>k o d v ?_ q') (fun d r=>oH _ _ r) (fun d xs r=>oH _ _ r) fun d ob r=>oH _ _ r
     rcases hd with hd|hd
     ·rw[hd];exact z2
     ·intro z3
      rw[z3,hP] at hd;cases hd
  have hsz:s.heap.objs.size<=h'.objs.size:=VL kY (Xg aE);refine h _ c' _ fc (upd H c' (.frz oc (.own P))) _ (I.un (t':=tk) (un _) (hok _)) (fun b u q=>oH b u q) hsz ?_ (Vm _ rfl) ⟨oc,vs,t,af,hd,hv⟩;rw[aj (V9 aE)];exact I.hok.fresh hsz
 ·have ht:TriplesOk (#[rawInt pos.line,rawInt pos.col,Value.ref c']:Array Value).toList:=by simp[TriplesOk,rawInt]
  have hf:codeAmong pos (#[rawInt pos.line,rawInt pos.col,Value.ref c']:Array Value).toList=some (.ref c'):=by simp[codeAmong,rawInt]
  refine PySem.W.kla_makeFunctionHit cl I.ok.glob hg gD C tb ht hf hb fun fc h' tk hk hsz=>?_
  exact h _ c' _ fc H _ (I.kept (t':=tk) fun b u q=>Ve _ (hk b u q)) (ad.refl H) hsz (I.hok.fresh hsz) (Vm _ rfl) ⟨oc,vs,t,e1,e2,e3⟩
abbrev zk (X:Cx) (scope:Scope) (f:Addr) (cd:Value) (L:Addr):Env:=PySem.W.envX (lj X) scope L f cd (dm X.env.cells scope.names [])
def zo (X:Cx) (scope:Scope) (N:List Str) (f:Addr) (cd:Value) (A:Around) (s:Shared) (H:Hp):Cx:=
 { X with A:=A.deeper (zk X scope f cd s.heap.objs.size),N:=N,s₀:=s,H₀:=H,env:=zk X scope f cd s.heap.objs.size,outer:=X.stack,stack:=zk X scope f cd s.heap.objs.size::X.stack,ex:=[],fn:=fun _=>false,calm:=true,pn:=[],xe:=fun _ _=>False }
abbrev lamS (cap:List (Option Nat)) (σ:St) (v:V):St:=(gG cap σ).set 0 (some v)
theorem Tl {A:Around}{f:Addr}{cd:Value}{x:Str}{v:V}{u:Value}{h₁:Heap}{tk:Nat}{fo:Obj} (I:Inv X aa σ H s) (hA:A.frames=X.A.frames) (hh:A.handled=X.A.handled) (ok:dI X.env.scope scope X.N N cap=true)
  (hx:N[0]?=some x) (hl:scope.names.lookup x=some .local) (wv:cap[0]?=some none) (rv:av v u)
  (hn:h₁.Ns s.heap.objs.size (fun y=>[(x,u)].reverse.lookup y)) (hs:Heap.SameBut s.heap.objs.size (s.heap.push fo) h₁) :
  Inv (zo X scope N f cd A s H) [] (lamS cap σ v) H { s with heap:=h₁,toks:=tk }:=by
 have lQ:=ok;simp only[dI,VT,Wq,beq_iff_eq] at ok
 obtain⟨⟨⟨⟨bf,bB⟩,_⟩,_⟩,eL⟩:=ok;have cl:=I.clos lQ;have old:∀ b o,s.heap.get? b=some o->h₁.get? b=some o:=fun b o e=>hs.extBut b o (Vq (Vk e)) (Ve _ e)
 have aH:∀ x c,(dm X.env.cells scope.names []).lookup x=some c->X.env.cells.lookup x=some c:=fun x c e=>by
  rcases zv cl e with q|q
  ·simp at q
  ·exact q
 have pe:∀ b:Addr,b∉(zo X scope N f cd A s H).ex:=fun b z=>absurd (show b∈([]:List Addr) from z) (by simp)
 have hd:iB (A.deeper (zk X scope f cd s.heap.objs.size)) H:=by
  rcases I.hdAt with z|⟨a,cs,z,r⟩
  ·exact .inl (hh.trans z)
  ·exact .inr ⟨a,cs,hh.trans z,r⟩
 refine⟨⟨I.ok.mod,bf,rfl,rfl,Vh _,fun y z c h1 h2=>I.ok.inj y z c (aH y c h1) (aH z c h2),fun y hy=>?_,fun y c hf _=>Bool.noConfusion hf,hd,Around.frames_deeper (hA.trans I.ok.frames),.inr ⟨rfl,rfl⟩,fun b z=>absurd z (pe b),
   I.bs,VL I.ok.bsz I.sz,fun b _ _=>pe b,fun b z=>absurd z (pe b),I.stack,I.stkFree⟩,
  rfl,I.bare,Un.kept old,⟨_,hn,fun i y v' h1 h2 h3=>?_⟩,fun y c e=>?_,I.hok.fresh (Vh _),fun y c e=>I.freeC y c (aH y c e),fun p hp=>absurd (show p∈([]:List (Addr×Obj)) from hp) (by simp),I.hok.kept old,?_⟩
 ·have hy:scope.names.lookup y=some .cell\/scope.names.lookup y=some .free:=hy
  rcases hy with hy|hy
  ·exact absurd (show(NameKind.cell != NameKind.cell)=true from bB _ (PySem.mem_of_lookup hy)) (by decide)
  ·exact Option.isSome_iff_exists.mp (zV (.inl (PySem.mem_of_lookup hy)))
 ·have h1:N[i]?=some y:=h1
  by_cases hi:i=0
  ·subst hi
   rw[hx] at h1;cases h1
   have ai:0<(gG cap σ).length:=by
    unfold gG;rw[Vd];exact(List.getElem?_eq_some_iff.mp wv).1
   have h2:((gG cap σ).set 0 (some v))[0]?=some (some v'):=h2;rw[Xb ai] at h2;cases h2
   refine⟨u,rv,.inl ⟨hl,?_⟩⟩;show(([(x,u)]:List (Str×Value)).lookup x)=some u;rw[Wp,beq_self_eq_true]
  ·have h2:((gG cap σ).set 0 (some v))[i]?=some (some v'):=h2
   rw[Xh (Ne.symm hi)] at h2;have hj:∃ j,cap[i]?=some (some j)/\σ[j]?=some (some v'):=by
    unfold gG at h2;rw[Vp] at h2;cases e:cap[i]? with
    | none=>rw[e] at h2;cases h2
    | some o=>
     rw[e] at h2;cases o with
     | none=>cases h2
     | some j=>
      refine⟨j,rfl,?_⟩;have fj:(σ[j]?).join=some v':=Option.some.inj h2;cases e2:σ[j]? with
      | none=>rw[e2] at fj;cases fj
      | some o2=>rw[e2] at fj;rw[show o2=some v' from fj]
   obtain⟨j,hj,hv⟩:=hj;obtain⟨hX,nY⟩:=Bi eL hj h1;have jy:(y,NameKind.free)∈scope.names:=PySem.mem_of_lookup nY;have vo:=lQ;simp only[dI,VT,Wq] at vo
   have h':isCF (X.env.scope.names.lookup y)=true:=by simpa using vo.1.2 _ jy
   have hk:X.env.scope.names.lookup y=some .cell\/X.env.scope.names.lookup y=some .free:=by
    cases e:X.env.scope.names.lookup y with
    | none=>rw[e] at h';cases h'
    | some k=>
     rw[e] at h';cases k <;> first|exact .inl rfl|exact .inr rfl|cases h'
   obtain⟨m,_,NM⟩:=I.loc;obtain⟨u',ru,lk⟩:=NM j y v' hX hv (hk.elim (fun q=>.inr (.inl q)) fun q=>.inr (.inr q));refine⟨u',ru,.inr ⟨.inr nY,?_⟩⟩;rcases lk with⟨q,_⟩|⟨_,c,hc,o,ho,km⟩
   ·have q:X.env.scope.names.lookup y=some .local:=q
    rcases hk with z|z <;> rw[q] at z <;> cases z
   ·obtain⟨c2,jR⟩:=Option.isSome_iff_exists.mp (zV (cells:=X.env.cells) (acc:=[]) (.inl jy))
    have:=aH y c2 jR;rw[hc] at this;cases this
    exact⟨c,jR,o,old c o ho,km⟩
 ·obtain⟨w',o,ho,km⟩:=I.cell y c (aH y c e)
  exact⟨w',o,old c o ho,km⟩
 ·show((gG cap σ).set 0 (some v)).length=N.length
  rw[VV];unfold gG;rw[Vd];exact Be eL
theorem QZ {A:Around}{f c':Addr}{pm fc:Value}{x:Str}{v:V}{u:Value}{te:TE}{Q:VK} (I:Inv X aa σ H s) (hA:A.frames=X.A.frames) (hh:A.handled=X.A.handled) (um:A.depth<recursionLimit)
  (ho:s.heap.get? f=some (Bm X scope params body pm c' fc)) (kB:zn H c' P (lj X)) (ok:dI X.env.scope scope X.N N cap=true) (hx:N[0]?=some x) (hl:scope.names.lookup x=some .local) (wv:cap[0]?=some none)
  (eN:bindArgs (PySem.W.kla_fn "<lambda>" (lj X) params body scope (dm X.env.cells scope.names []) pm (.ref c') fc) ⟨[u],[]⟩=pure [(x,u)]) (DM:scope.isCoroutine=false) (nQ:scope.isGenerator=false) (rv:av v u)
  (he:PE (zo X scope N f (.ref c') A s H) body te) (ht:te (lamS cap σ v) H Q) :
  codeAny (model X.prog X.w) A (.call (.ref f) ⟨[u],[]⟩) (fun r s'=>∃ u',r=.ok (.ret u')/\CE X.stack X.prog X.w H s Q u' s') s:=by
 have lQ:=ok;simp only[dI,VT,Wq,beq_iff_eq] at lQ
 obtain⟨⟨⟨⟨bf,bB⟩,_⟩,_⟩,_⟩:=lQ;have DR:s.heap.NoLimit:=I.ok.mod.nolimit.keeps I.bk;refine PySem.W.kla_callFunE um ho rfl DM nQ rfl (kB.rec I.hok) ?_;rw[eN];refine Vi (X8 (fun y hy=>by simpa using bB y hy) (fun y hy=>by rw[W7.mp hy];exact hl) (fun h₁ Ab oE=>⟨DR.fresh _ oE,?_⟩) bf);show codeAny _ _ (.expr body (zk X scope f (.ref c') s.heap.objs.size)) _ _;have J:Inv (zo X scope N f (.ref c') A s H) [] (lamS cap σ v) H { s with heap:=h₁,toks:=s.toks + [(x,u)].length }:=Tl I hA hh ok hx hl wv rv Ab oE;refine PySem.W.kla_codeExpr (V0 (he [] _ _ H Q J ht) (fun w' s' hq=>?_) fun _ _ z=>z.elim);obtain⟨v',H',J',r',q'⟩:=hq;exact⟨w',rfl,v',H',J'.os,J'.bare,J'.base,J'.hok,r',q'⟩
end
end L2
namespace L2
open PySem PySem.Spec PyProof.Rows
section
variable {X:Cx}{aa:List (Addr×Obj)}{σ:St}{H H1:Hp}{s:Shared}
theorem Inv.repin {kS:Addr}{o o':Obj}{h':Heap}{t':Nat} (I:Inv X (aa++[(kS,o)]) σ H s) (fp:bC X aa H1 kS) (k:∀ b u,b≠kS->s.heap.get? b=some u->h'.get? b=some u) (e:h'.get? kS=some o') (hd:∀ v,o'.data≠.cell v) :
  Inv X (aa++[(kS,o')]) σ H { s with heap:=h',toks:=t' }:=by
 obtain⟨_,f1,f2,f3,f4,f5⟩:=fp;have pk:=I.pin (kS,o) (Vr _ (Vr _ (W7.mpr rfl)));have I0:Inv X aa σ H s:=I.pins_of fun p hp=>I.pin p (Vr _ (VN _ hp))
 have I1:=I0.turned (t':=t') k pk.2.1 f1 f3 f4 f5;refine I1.pins_of fun p hp=>?_
 rcases XW.mp hp with z|z
 ·exact I1.pin p (Vr _ z)
 ·rw[W7.mp z]
  exact⟨e,pk.2.1,f1,f2,hd⟩
def AO (X:Cx) (A:Around) (f:Addr) (fo:Obj) (σ:St) (H1:Hp) (key:V->Int) (xs:List V):Prop:=
 ∀ (x:V) (u:Value) (aa:List (Addr×Obj)) (Hi:Hp) (si:Shared),x∈xs->av x u->Inv X aa σ Hi si->ad H1 Hi->si.heap.get? f=some fo ->
  wpAny (model X.prog X.w) A (call (.ref f) [u]) (EP X aa σ fun k H3=>k=.int (key x)/\ad Hi H3) (fun _ _=>False) si
variable {A:Around}{E:Value->Shared->Prop}{P:PySem.Fin->Shared->Prop}{f D kS:Addr}{fo:Obj}{key:V->Int}{xs:List V}{vs:List Value}{e1:Nat}
end
end L2
namespace L2
open PySem PySem.Spec PyProof.Rows
def Bt (K:PySem.W.Frag) (f:Addr):Option Value:=match K.lookup f with
 | some ⟨_,_,.func fd,_⟩=>some fd.code
 | _=>none
theorem S8 {K:PySem.W.Frag}{f c:Addr}{oc:Value}{od:Option Addr}{sl:Array (Option Value)}{fd:FuncData} (l:K.lookup f=some ⟨oc,od,.func fd,sl⟩) (h:fd.code=.ref c):Bt K f=some (.ref c):=by
 unfold Bt;rw[l];exact congrArg some h
structure F0 (K:PySem.W.Frag) (f P:Addr):Prop where
 ex:∃ c,Bt K f=some (.ref c)/\PySem.W.codeHdIn K c P=true
 no:K.lookup P=none
structure Lx (K:PySem.W.Frag) (mg:Str->Option Value) (x:Str) (P:Addr):Prop where
 ex:∃ f,mg x=some (.ref f)/\F0 K f P
section
variable {P:Program}{w:World}{K:PySem.W.Frag}{mg:Str->Option Value}{base:Heap}
theorem eY.okL {x qual:Str}{st:Stmt}{f TP:Addr}{fd:FuncData}{N ps:List Str}{k:Nat}{sp:Sp} (F:eY K x qual st f fd) (L:F0 K f TP) (S:bo N ps (aq st)) (len:∀ vs H Q E,sp vs H Q E->vs.length=ps.length)
  (cO:∀ (c:Addr) (A:Around) (outer:List Env) (s:Shared) (H:Hp) (vs:List V) (Q:VK) (E:XK),PySem.W.codeHdIn K c TP=true->bn k (A.deeper (envOfC qual (aq st) s.heap.objs.size f (.ref c)))->sp vs H Q E ->
   ∃ t,PSs (jD CX0 P w K mg base N qual (aq st) f (.ref c) A outer s H E).nox (bg st) t/\t { nx:=fun _ H'=>Q .non H',rt:=Q } (start N vs) H):cD P w K mg base CX0 (k + 1) f fd ps sp:=by
 obtain⟨oc,od,dV,kV,dY,pm,an,aJ,ct,iu,rfl,lk,fk⟩:=F.ex;obtain⟨c,e1,e2⟩:=L.ex;have e:aJ=.ref c:=by
  unfold Bt at e1;rw[lk] at e1;exact Option.some.inj e1
 subst e;refine Gi lk fk S len fun A outer s H vs Q E hr iq=>?_
 obtain⟨t,h,q⟩:=cO c A outer s H vs Q E e2 hr iq;exact⟨t,h.nox,q⟩
theorem Def.calL {CX:CXT}{k:Nat}{x:Str}{st:Stmt}{ps:List Str}{aS:List V}{sp:Sp}{TP:Addr} (D:Def K mg x st ps aS) (L:Lx K mg x TP) (h:∀ f fd,eY K x x st f fd->F0 K f TP->cD P w K mg base CX k f fd ps sp):Cal P w K mg base CX k x ps aS sp:=by
 obtain⟨f,fd,ds,F,e,r⟩:=D.ex;obtain⟨f',e',l⟩:=L.ex;rw[e] at e';cases e'
 exact⟨f,fd,ds,h f fd F l,e,r⟩
end
abbrev Tab:=Addr×Pos×Str
def zy (ts:List Tab) (H:Hp):Prop:=(∀ t∈ts,H t.1=some (.tbl t.2.1 t.2.2))/\∀ b u,H b=some u->(∃ o xs,u=.frz o (.lst xs))\/∃ t∈ts,b=t.1/\u=.tbl t.2.1 t.2.2
def pF:List Tab->Hp->Hp
 | [],H=>H
 | t::ts,H=>upd (pF ts H) t.1 (.tbl t.2.1 t.2.2)
theorem Fz:∀ {ts:List Tab}{H:Hp},(ts.map (·.1)).Nodup->∀ t∈ts,pF ts H t.1=some (.tbl t.2.1 t.2.2)
 | [],_,_,t,h=>by simp at h
 | q::ts,H,nd,t,h=>by
  rcases VH.mp h with z|z
  ·rw[z];exact af
  ·have n:t.1≠q.1:=fun y=>(Xp.mp (show(q.1::ts.map (·.1)).Nodup from nd)).1 (List.mem_map.mpr ⟨t,z,y⟩)
   show upd _ _ _ _=_;rw[aj n];exact Fz (Xp.mp nd).2 t z
theorem FP:∀ {ts:List Tab}{H:Hp}{b:Addr}{u:HO},pF ts H b=some u->H b=some u\/∃ t∈ts,b=t.1/\u=.tbl t.2.1 t.2.2
 | [],_,_,_,h=>.inl h
 | q::ts,H,b,u,h=>by
  have h:upd (pF ts H) q.1 (.tbl q.2.1 q.2.2) b=some u:=h;by_cases z:b=q.1
  ·rw[z,af] at h
   exact .inr ⟨q,Vz,z,(Option.some.inj h).symm⟩
  ·rw[aj z] at h
   rcases FP h with y|⟨t,h1,h2⟩
   ·exact .inl y
   ·exact .inr ⟨t,Vt _ h1,h2⟩
theorem LC:∀ {ts:List Tab}{H:Hp}{b:Addr},(∀ t∈ts,b≠t.1)->pF ts H b=H b
 | [],_,_,_=>rfl
 | q::ts,H,b,h=>by
  show upd _ _ _ _=_;rw[aj (h q Vz)];exact LC fun t ht=>h t (Vt _ ht)
theorem RI {P:Program}{w:World}{K:PySem.W.Frag}{mg mb:Str->Option Value}{CX:CXT}{k:Nat}{fa a:Addr}{fd:FuncData}{x:Str}{sp:Sp}{s₁:Shared}{vs:List Value}{ns:List Int}{ts:List Tab}
  (KX:K.In s₁.heap) (Ab:s₁.heap.Ns mainGlobals mg) (hb:s₁.heap.Ns builtinsNs mb) (MT:∀ x:Str,x≠"__name__"->mb x=bootBuiltins x) (Fg:s₁.heap.NoLimit)
  (EZ:∃ bm ob,mg "__builtins__"=some (.ref bm)/\bm≠builtinsNs/\s₁.heap.get? bm=some ob/\ob.cls=.type "module"/\ob.dict=some builtinsNs/\ob.data=.plain) (hg:s₁.gens=#[])
  (ha:s₁.heap.get? a=some { cls:=.type "list",data:=.seq vs.toArray }) (hi:IntsAre vs ns) (hl:ns.length<=sizeLine) (hr:bn k callerA)
  (nd:(ts.map (·.1)).Nodup) (vt:∀ t∈ts,s₁.heap.get? t.1=some (PySem.W.tabObj #[])/\(∃ c,PySem.W.codeHdIn K c t.1=true)/\K.lookup t.1=none)
  (F:∀ base:Heap,K.In base->base.Ns mainGlobals mg->cD P w K mg base CX k fa fd [x] sp) (eN:∀ (s:Shared) (u:Value),BindsTo s fd ⟨[u],[]⟩ [(x,u)])
  (iq:∀ H:Hp,zy ts H->SqL K H a (ns.map V.int)->sp [.ref a] H (fun v _=>v=.bl true) fun _ _ _=>False)
  (PK:∀ H e s',CX [] H s₁ (fun _ _ _=>False) e s'->False) :
  codeAny (model P w) callerA (.call (.ref fa) ⟨[.ref a],[]⟩) (fun r s'=>r=.ok (.ret (.bool true))/\OldK s₁.heap s'.heap/\s'.os=s₁.os/\AllBare s'.gens) s₁:=by
 have rv:=Kh hi;have Cu:=hi.length;have uC:∀ H:Hp,(∀ t∈ts,H t.1=some (.tbl t.2.1 t.2.2))->(∀ b u,H b=some u->(b=a/\K.lookup a=none/\u=.frz { cls:=.type "list",data:=.seq vs.toArray } (.lst (ns.map V.int)))\/∃ t∈ts,b=t.1/\u=.tbl t.2.1 t.2.2)->SqL K H a (ns.map V.int) ->
   codeAny (model P w) callerA (.call (.ref fa) ⟨[.ref a],[]⟩) (fun r s'=>r=.ok (.ret (.bool true))/\OldK s₁.heap s'.heap/\s'.os=s₁.os/\AllBare s'.gens) s₁:=by
  intro H h1 h2 hS;have hO:zy ts H:=⟨h1,fun b u q=>(h2 b u q).elim (fun z=>.inl ⟨_,_,z.2.2⟩) .inr⟩;have hok:HOk P w H s₁.heap:=fun b u q=>by
   rcases h2 b u q with⟨rfl,_,rfl⟩|⟨t,ht,rfl,rfl⟩
   ·exact⟨ha,by rw[Vd];exact hl,vs,_,rv,ha⟩
   ·exact .inl (vt t ht).1
  have free:∀ {b:Addr}{o:Obj},s₁.heap.get? b=some o->(∀ xs n,o.data≠.seq xs n)->(∀ xs,o.data≠.fields xs)->H b=none:=fun {b o} e n1 n2=>by
   cases q:H b with
   | none=>rfl
   | some u=>
    rcases h2 b u q with⟨rfl,_,_⟩|⟨t,ht,rfl,_⟩
    ·rw[ha] at e;cases e
     exact(n1 _ _ rfl).elim
    ·rw[(vt t ht).1] at e;cases e
     exact(n2 _ rfl).elim
  have AI:∀ {b:Addr}{m:Str->Option Value},s₁.heap.Ns b m->(nk s₁.heap H).Ns b m:=fun {b m} ⟨o,es,ep,e,d,r⟩=>⟨o,es,ep,Fr e (free e (by rw[d];intro _ _ z;cases z) (by rw[d];intro _ z;cases z)),d,r⟩
  have Hx:K.In (nk s₁.heap H):=fun b o e=>Fr (KX b o e) (by
   cases q:H b with
   | none=>rfl
   | some u=>
    rcases h2 b u q with⟨rfl,z,_⟩|⟨t,ht,rfl,_⟩
    ·rw[z] at e;cases e
    ·rw[(vt t ht).2.2] at e;cases e)
  have hM:Mod K mg (nk s₁.heap H):=⟨Hx,AI Ab,⟨mb,AI hb,MT⟩,let ⟨mc,y1,y2⟩:=Fg;⟨mc,AI y1,y2⟩,by
   obtain⟨bm,ob,a1,a2,a3,a4,a5,a6⟩:=EZ;exact⟨bm,ob,a1,a2,Fr a3 (free a3 (by rw[a6];intro _ _ z;cases z) (by rw[a6];intro _ z;cases z)),a4,a5,a6⟩⟩
  have e0:pH P w K mg (nk s₁.heap H) callerA [] s₁ H:=⟨rfl,hM,fun b o e=>QK e,W5 (Qa _ _),trivial,fun b hb=>absurd (show b∈([]:List Addr) from hb) (by simp),hok,.of_eq hg,.inl rfl⟩;refine codeAny_mono ((F _ Hx (AI Ab)).run callerA [] s₁ H ⟨[.ref a],[]⟩ [.ref a] [.ref a] _ _ hr e0 (eN s₁ (.ref a)) (.cons rfl .nil) (iq H hO hS)) fun r s' h=>?_
  cases r with
  | error e=>exact(PK H e s' h).elim
  | ok fl=>
   cases fl with
   | next=>exact False.elim h
   | brk=>exact False.elim h
   | cont=>exact False.elim h
   | ret u=>
    obtain⟨v,H',os,bare,un,sL,r',q⟩:=h;have q':v=.bl true:=q;subst q';obtain rfl:u=Value.bool true:=r';have no:∀ b:Addr,b∉frs []:=fun b z=>absurd (show b∈([]:List Addr) from z) (by simp)
    refine⟨rfl,⟨fun b o e=>?_,fun b o e=>un.there b o e (by simp)⟩,os,bare⟩;cases q:H b with
    | none=>exact .inl (un.keep b o e q (no b) (by simp))
    | some u=>
     rcases h2 b u q with⟨rfl,_,rfl⟩|⟨t,ht,rfl,rfl⟩
     ·obtain⟨y1,_⟩:=hok _ _ q
      obtain⟨y2,_⟩:=sL _ _ (un.frzs _ _ _ q);rw[e] at y1;cases y1
      exact .inl y2
     ·obtain⟨g1,⟨c,g2⟩,_⟩:=vt t ht
      rw[e] at g1;cases g1
      rcases sL _ _ (un.tbls _ _ _ q) with y|⟨c',oc,xs,tt,_,_,_,y⟩
      ·exact .inl y
      ·exact .inr (.inl ⟨((PySem.W.codeHd_of_K KX g2).tab e).isCodeTable,rfl,#[],#[rawInt t.2.1.line,rawInt t.2.1.col,.ref c'],rfl,y⟩)
 have apart:∀ t∈ts,a≠t.1:=fun t ht z=>by
  have y:=(vt t ht).1;rw[<- z,ha] at y;cases y
 cases hk:K.lookup a with
 | some o=>
  have e:=KX a o hk;rw[ha] at e;cases e
  refine uC (pF ts fun _=>none) (Fz nd) (fun b u q=>.inr ((FP q).elim (fun z=>by cases z) id)) (.inr ⟨_,vs.toArray,_,hk,rfl,rfl,rfl,by rw[Vx,Cu];exact hl,by simpa using rv⟩)
 | none=>
  refine uC (pF ts (upd (fun _=>none) a (.frz { cls:=.type "list",data:=.seq vs.toArray } (.lst (ns.map V.int))))) (Fz nd) (fun b u q=>?_) (.inl (.inr ⟨_,by rw[LC apart];exact af⟩));rcases FP q with z|z
  ·by_cases y:b=a
   ·rw[y,af] at z
    exact .inl ⟨y,hk,(Option.some.inj z).symm⟩
   ·rw[aj y] at z;cases z
  ·exact .inr z
theorem zkf {l:PySem.W.OpenLaw}{n k:Nat}{q:Program}{dF:List Str}{XP:(Str->Option Value)->Heap->Prop}{YP:World->Heap->Prop}{d:DefRec}{K:Params->PySem.W.Frag}{x:Str}{TS:List Addr}
  (hn:l.most=some n) (oQ:n<=sizeLine) (mV:d.params.defaults=[]) (hr:bn k callerA)
  (hY:∀ (w:World) (h:Heap),YP w h->(K w.params).In h/\∀ P∈TS,h.get? P=some (PySem.W.tabObj #[]))
  (F:∀ (w:World) (mg:Str->Option Value) (fa:Addr) (h:Heap),(K w.params).In h->h.Ns mainGlobals mg->mg d.name=some (.ref fa) ->
   ∃ (fd:FuncData) (ts:List Tab) (sp:Sp),(∀ (s:Shared) (u:Value),BindsTo s fd ⟨[u],[]⟩ [(x,u)])/\(ts.map (·.1)).Nodup/\(∀ t∈ts,t.1∈TS/\(∃ c,PySem.W.codeHdIn (K w.params) c t.1=true)/\(K w.params).lookup t.1=none) /\
    (∀ (H:Hp) (a:Addr) (ns:List Int),ns.length<=n->zy ts H->SqL (K w.params) H a (ns.map V.int)->sp [.ref a] H (fun v _=>v=.bl true) fun _ _ _=>False) /\
    ∀ base:Heap,(K w.params).In base->base.Ns mainGlobals mg->cD l.prog w (K w.params) mg base CX0 k fa fd [x] sp) :
  PySem.W.WalkO q dF XP YP l.row.toRowW d [] (fun f vs=>PySem.call f vs):=by
 refine Att.zgc hn mV fun w s₀ s₁ mg mb fa o pm cd dY a vs ns G Y ho hd fk xT o6 iJ ai hg=>?_
 obtain⟨KX,tb⟩:=hY w _ Y;obtain⟨fd,ts,sp,hb,nd,ht,iq,hF⟩:=F w mg fa _ KX G.T.g xT;exact RI KX G.T.g G.T.b G.T.builtins G.T.nolimit G.T.bmain hg o6 iJ (VL ai oQ) hr nd (fun t m=>⟨tb _ (ht t m).1,(ht t m).2⟩) hF hb (fun H hO hS=>iq H a ns ai hO hS) fun H e s' z=>z
end L2
namespace L2
open PySem PySem.Spec PyProof.Rows
section
variable {X:Cx}{a b:Expr}{aP:List Expr}{ta tb:TE}{pos:Pos}
end
end L2
namespace L2
open PySem PySem.Spec PyProof.Rows
theorem zx {i:Int} (h1:-(2 ^ 62)<=i) (h2:i<=2 ^ 62):Builtin.Range.rangeFitsLong i=true:=by
 unfold Builtin.Range.rangeFitsLong;rw[VG (by omega),VG (by omega)];rfl
section
variable {prog:Program}{w:World}{A:Around}{E:Value->Shared->Prop}{s:Shared}
end
end L2
namespace L2
open PySem PySem.Spec PyProof.Rows
def lq (key:V->Int) (xs:List V) (m:V):Prop:=∃ i:Nat,xs[i]?=some m/\(∀ (j:Nat) x,xs[j]?=some x->key m<=key x)/\∀ (j:Nat) x,j<i->xs[j]?=some x->key m<key x
section
variable {X:Cx}{aa:List (Addr×Obj)}{σ:St}{H H1:Hp}{s:Shared}{A:Around}{E:Value->Shared->Prop}
theorem bC.more {a b:Addr}{o:Obj} (fp:bC X aa H a) (ne:b≠a):bC X (aa++[(b,o)]) H a:=by
 obtain⟨g0,g1,g2,g3,g4,g5⟩:=fp;refine⟨g0,g1,g2,g3,g4,fun p hp=>?_⟩;rcases XW.mp hp with z|z
 ·exact g5 p (VN _ z)
 ·rcases XW.mp z with y|y
  ·exact g5 p (Vr _ y)
  ·rw[W7.mp y]
   exact ne
theorem Inv.swap {p q:Addr×Obj} (I:Inv X ((aa++[p])++[q]) σ H s):Inv X ((aa++[q])++[p]) σ H s:=I.pins_of fun r hr=>I.pin r (Vr _ (by
  simp only[XW,W7] at hr ⊢
  rcases hr with(h|h)|h
  ·exact .inl (.inl h)
  ·exact .inr h
  ·exact .inl (.inr h)))
theorem Inv.less {p:Addr×Obj} (I:Inv X (aa++[p]) σ H s):Inv X aa σ H s:=I.pins_of fun r hr=>I.pin r (Vr _ (VN _ hr))
variable {f d it S:Addr}{fo o:Obj}{key:V->Int}{kvs:List (Key×V)}{es:Array DictEntry}{ep:Nat}
theorem JY (I:Inv X aa σ H s) (hd:H d=some (.frz o (.dK kvs))) (au:o.data=.dict es ep):∃ vs,KV kvs vs/\s.heap.DictAt (cr X.prog X.w) d vs ep:=by
 obtain⟨ho,yw⟩:=I.hok _ _ hd;obtain⟨z,nM,vs,rel,⟨o',GL,Hu,jI,o0,eA,r2⟩⟩:=yw;rw[ho] at jI;cases jI
 rw[au] at eA;cases eA
 exact⟨vs,rel,⟨o,es,ho,o0,au,r2⟩⟩
theorem KH {j:Nat}{k:Key}{x:V}{oI:Obj}{Q:Option Value->Shared->Prop} (gu:bC X aa H1 it) (I:Inv X (aa++[(it,oI)]) σ H s) (hd:H d=some (.frz o (.dK kvs))) (au:o.data=.dict es ep) (aI:s.heap.IsKeyIter it d j kvs.length ep) (hx:kvs[j]?=some (k,x))
  (h:∀ u h' kN,av (kV k) u->Inv X (aa++[(it,kN)]) σ H { s with heap:=h' }->h'.IsKeyIter it d (j + 1) kvs.length ep->h'.get? it=some kN->Q (some u) { s with heap:=h' }):wpAny (model X.prog X.w) A (pyNext (.ref it)) Q E s:=by
 obtain⟨vs,rel,jr⟩:=JY I hd au;obtain⟨u,hu,ru⟩:=rel.get hx;have ai:kvs.length=vs.length:=rel.length;rw[ai] at aI;refine wpAny_pyNext_dict_item aI jr hu fun v h' cz bR a8=>?_
 obtain⟨oi,ei,ci,di⟩:=id bR;have I1:=I.repin (t':=s.toks) (h':=h') gu (fun b o hb e=>a8.extBut b o hb e) ei (by intro v z;rw[di] at z;cases z);exact h v h' oi (kV_of cz) I1 (by rw[ai];exact bR) ei
theorem QD {oI:Obj}{Q:Option Value->Shared->Prop} (hh:A.handled=X.A.handled) (gu:bC X aa H1 it) (I:Inv X (aa++[(it,oI)]) σ H s) (hd:H d=some (.frz o (.dK kvs))) (au:o.data=.dict es ep) (aI:s.heap.IsKeyIter it d kvs.length kvs.length ep)
  (h:∀ h',Inv X aa σ H { s with heap:=h' }->Q none { s with heap:=h' }):wpAny (model X.prog X.w) A (pyNext (.ref it)) Q E s:=by
 obtain⟨vs,rel,jr⟩:=JY I hd au;have ai:kvs.length=vs.length:=rel.length;obtain⟨f0,f1,f2,f3,f4,f5⟩:=gu;have hn:=(I.pin (it,oI) (Vr _ (Vr _ (W7.mpr rfl)))).2.1;rw[ai] at aI;have I0:=I.less;refine Qc (by have:=I.hd;unfold Hd at this ⊢;rw[hh];exact this) aI jr (WD (Vh _)) fun h' eb=>h h' (I0.turned (t':=s.toks) (fun b o hb e=>eb b o hb e) hn f1 f3 f4 f5)
def zbz (kvs:List (Key×V)):List V:=kvs.map fun p=>kV p.1
def Fj (key:V->Int) (xs:List V) (i n:Nat):Prop:=∀ (j:Nat) x m,j<n->xs[j]?=some x->xs[i]?=some m->key m<=key x/\(j<i->key m<key x)
variable {R:Result->Shared->Prop}
theorem QN (hh:A.handled=X.A.handled) (kr:AO X A.in1 f fo σ H1 key (zbz kvs)) (hf:(f,fo)∈aa) (hd:H1 d=some (.frz o (.dK kvs))) (au:o.data=.dict es ep) (gu:bC X aa H1 it) (jL:bC X aa H1 S) (ne:S≠it)
  (hR:∀ i m v H' s',(zbz kvs)[i]?=some m->av m v->Fj key (zbz kvs) i kvs.length->Inv X aa σ H' s'->ad H1 H'->R (.ok (.ret v)) s') :
  ∀ (r j i:Nat) (s:Shared) (H:Hp) (m:V) (vb:Value) (tb:Tok) (c:Nat) (oI:Obj),kvs.length - (j + 1)=r->j + 1<=kvs.length->Inv X ((aa++[(S,seqObj "list" #[vb,.int (key m) tb] c)])++[(it,oI)]) σ H s->ad H1 H->s.heap.IsKeyIter it d (j + 1) kvs.length ep ->
   (zbz kvs)[i]?=some m->av m vb->i<=j->Fj key (zbz kvs) i (j + 1)->codeAny (model X.prog X.w) A (.builtin "min.loop" ⟨[.ref it,.ref f,.ref S],[]⟩) R s:=by
 have dC:(toString "min"++toString ".loop":String)="min.loop":=by decide
 have lZ:(zbz kvs).length=kvs.length:=Vd _;have Pz:A.in1.handled=X.A.handled:=hh;intro r
 induction r with
 | zero=>
  intro j i s H m vb tb c oI hr hj I sm aI hm rm HM eu;have hin:j + 1=kvs.length:=by omega
  rw[hin] at aI eu;have nS:=I.pin (S,seqObj "list" #[vb,.int (key m) tb] c) (by simp);refine codeAny_builtin PySem.F.entry_min_loop ?_;rw[Around.under_plainId PySem.F.plain_min_loop _];show wpAny _ A.in1 (seqItems? (.ref S) >>= _) _ _ _;refine oW (VX nS.1 rfl ?_);show wpAny _ A.in1 (tryCatch (pyNext (.ref it)) _ >>= _) _ _ _;refine oW (Wh (QD Pz (gu.more ne) I (sm _ _ hd) au aI fun h' I1=>?_));have HQ:=I1.pin (S,seqObj "list" #[vb,.int (key m) tb] c) (by simp);have s1:=Heap.SameBut.update h' S (Obj.mapSeq fun _=>(#[]:Array Value));show wpAny _ A.in1 (updateSeq S (fun _=>#[]) >>= _) _ _ _;refine oW ?_;refine Wz HQ.1 rfl (oW (WF (Vi ?_)));obtain⟨f0,f1,f2,f3,f4,f5⟩:=jL;exact hR i m vb H _ hm rm eu (I1.less.turned (t':=s.toks) (fun b o z q=>(s1.2 b z).trans q) HQ.2.1 f1 f3 f4 f5) sm
 | succ r ih=>
  intro j i s H m vb tb c oI hr hj I sm aI hm rm HM eu;have aE:j + 1<kvs.length:=by omega
  have nS:=I.pin (S,seqObj "list" #[vb,.int (key m) tb] c) (by simp);refine codeAny_builtin PySem.F.entry_min_loop ?_;rw[Around.under_plainId PySem.F.plain_min_loop _];show wpAny _ A.in1 (seqItems? (.ref S) >>= _) _ _ _;refine oW (VX nS.1 rfl ?_);show wpAny _ A.in1 (tryCatch (pyNext (.ref it)) _ >>= _) _ _ _;obtain⟨⟨k,y⟩,hx⟩:∃ p,kvs[j + 1]?=some p:=⟨kvs[j + 1],by simp[aE]⟩;have lW:(zbz kvs)[j + 1]?=some (kV k):=by unfold zbz;rw[Vp,hx];rfl
  refine oW (Wh (KH (gu.more ne) I (sm _ _ hd) au aI hx fun v h' kN rv I1 bR oJ=>?_));show wpAny _ A.in1 (tryCatch (holding [v] (call (.ref f) [v])) _ >>= _) _ _ _;have pf:=I1.pin (f,fo) (Vr _ (VN _ (VN _ hf)));refine oW (Wh (VJ (V0 (kr (kV k) v _ H _ (Vj lW) rv I1 sm pf.1) (fun kv s2 hq=>?_) fun _ _ z=>z.elim)));obtain⟨kk,H3,I3,rk,rfl,Ak⟩:=hq;obtain⟨t2,rfl⟩:∃ t,kv=Value.int (key (kV k)) t:=rk;have uG:=I3.pin (S,seqObj "list" #[vb,.int (key m) tb] c) (by simp);have BD:=I3.pin (it,kN) (by simp);have uz:s2.heap.IsKeyIter it d (j + 1 + 1) kvs.length ep:=by
   obtain⟨o2,e2,c2,d2⟩:=bR;rw[oJ] at e2;cases e2
   exact⟨_,BD.1,c2,d2⟩
  show wpAny _ A.in1 (tryCatch (holding [v,.int (key (kV k)) t2] (richCompare .Lt (.int (key (kV k)) t2) (.int (key m) tb) >>= _)) _ >>= _) _ _ _;refine oW (Wh (VJ (oW (CmpOf.ints_lt (prog:=X.prog) (w:=X.w) (A:=A.in1) (P:=fun i v=>∃ t,v=.int (if i=0 then key m else key (kV k)) t) (fun i=>if i=0 then key m else key (kV k)) (fun i v h=>h) 1 0 _ _ _ _ _ ⟨t2,rfl⟩ ⟨tb,rfl⟩ ?_))));refine oW (VJ (Ws ?_));refine oW (WF (Vi ?_));show wpAny _ A.in1 (if decide (key (kV k)<key m)=true then _ else _) _ _ _;by_cases hb:key (kV k)<key m
  ·have s1:=Heap.SameBut.update s2.heap S (Obj.mapSeq fun _=>#[v,.int (key (kV k)) t2])
   rw[if_pos (VG hb)];refine oW ?_;refine Wz uG.1 rfl (oW (WF ?_));rw[dC];have I4:=I3.swap.repin (t':=s2.toks) (jL.more ne.symm) (fun b o z q=>(s1.2 b z).trans q) (get?_update_seq uG.1 fun _=>#[v,.int (key (kV k)) t2]) (by intro v z;cases z);refine Vi ⟨plainId_quiet PySem.F.plain_min_loop _,ih (j + 1) (j + 1) _ H3 (kV k) v t2 _ kN (by omega) aE I4.swap (sm.trans Ak) ?_ lW rv (Vh _) ?_⟩
   ·obtain⟨o2,e2,c2,d2⟩:=uz
    exact⟨o2,(s1.2 it (Ne.symm ne)).trans e2,c2,d2⟩
   ·intro j' x m' h1 h2 h3
    rw[lW] at h3;cases h3
    by_cases e:j'=j + 1
    ·subst e
     rw[lW] at h2;cases h2
     exact⟨V1 _,fun z=>absurd z (VE _)⟩
    ·have q:=(eu j' x m (by omega) h2 hm).1
     exact⟨by omega,fun _=>by omega⟩
  ·rw[if_neg (by rw[V5 hb];decide)]
   refine oW (WF ?_);rw[dC];refine Vi ⟨plainId_quiet PySem.F.plain_min_loop _,ih (j + 1) i _ H3 m vb tb c kN (by omega) aE I3 (sm.trans Ak) uz hm rm (by omega) ?_⟩;intro j' x m' h1 h2 h3;by_cases e:j'=j + 1
   ·subst e
    rw[lW] at h2;rw[hm] at h3;cases h2
    cases h3
    exact⟨by omega,fun z=>by omega⟩
   ·exact eu j' x m' (by omega) h2 h3
theorem P5 (hh:A.handled=X.A.handled) (kr:AO X A.in1 f fo σ H1 key (zbz kvs)) (hf:(f,fo)∈aa) (hd:H1 d=some (.frz o (.dK kvs))) (au:o.data=.dict es ep) (gu:bC X aa H1 it) (jL:bC X aa H1 S) (ne:S≠it) (hn:0<kvs.length){c:Nat}{oI:Obj}
  (I:Inv X ((aa++[(S,seqObj "list" #[] c)])++[(it,oI)]) σ H s) (sm:ad H1 H) (aI:s.heap.IsKeyIter it d 0 kvs.length ep)
  (hR:∀ i m v H' s',(zbz kvs)[i]?=some m->av m v->Fj key (zbz kvs) i kvs.length->Inv X aa σ H' s'->ad H1 H'->R (.ok (.ret v)) s'):codeAny (model X.prog X.w) A (.builtin "min.loop" ⟨[.ref it,.ref f,.ref S],[]⟩) R s:=by
 have dC:(toString "min"++toString ".loop":String)="min.loop":=by decide
 have nS:=I.pin (S,seqObj "list" #[] c) (by simp);refine codeAny_builtin PySem.F.entry_min_loop ?_;rw[Around.under_plainId PySem.F.plain_min_loop _];show wpAny _ A.in1 (seqItems? (.ref S) >>= _) _ _ _;refine oW (VX nS.1 rfl ?_);show wpAny _ A.in1 (tryCatch (pyNext (.ref it)) _ >>= _) _ _ _;obtain⟨⟨k,y⟩,hx⟩:∃ p,kvs[0]?=some p:=⟨kvs[0],by simp[hn]⟩;have lW:(zbz kvs)[0]?=some (kV k):=by unfold zbz;rw[Vp,hx];rfl
 refine oW (Wh (KH (gu.more ne) I (sm _ _ hd) au aI hx fun v h' kN rv I1 bR oJ=>?_));show wpAny _ A.in1 (tryCatch (holding [v] (call (.ref f) [v])) _ >>= _) _ _ _;have pf:=I1.pin (f,fo) (Vr _ (VN _ (VN _ hf)));refine oW (Wh (VJ (V0 (kr (kV k) v _ H _ (Vj lW) rv I1 sm pf.1) (fun kv s2 hq=>?_) fun _ _ z=>z.elim)));obtain⟨kk,H3,I3,rk,rfl,Ak⟩:=hq;obtain⟨t2,rfl⟩:∃ t,kv=Value.int (key (kV k)) t:=rk;have uG:=I3.pin (S,seqObj "list" #[] c) (by simp);have BD:=I3.pin (it,kN) (by simp);have s1:=Heap.SameBut.update s2.heap S (Obj.mapSeq fun _=>#[v,.int (key (kV k)) t2]);show wpAny _ A.in1 (updateSeq S (fun _=>#[v,.int (key (kV k)) t2]) >>= _) _ _ _;refine oW (Wz uG.1 rfl ?_);rw[dC];have I4:=I3.swap.repin (t':=s2.toks) (jL.more ne.symm) (fun b o z q=>(s1.2 b z).trans q) (get?_update_seq uG.1 fun _=>#[v,.int (key (kV k)) t2]) (by intro v z;cases z);refine Vi ⟨plainId_quiet PySem.F.plain_min_loop _,QN hh kr hf hd au gu jL ne hR _ 0 0 _ H3 (kV k) v t2 _ kN rfl hn I4.swap (sm.trans Ak) ?_ lW rv (Vh _) ?_⟩
 ·obtain⟨o2,e2,c2,d2⟩:=bR
  rw[oJ] at e2;cases e2
  exact⟨_,(s1.2 it (Ne.symm ne)).trans BD.1,c2,d2⟩
 ·intro j' x m' h1 h2 h3
  obtain rfl:j'=0:=by omega
  rw[h2] at h3;cases h3
  exact⟨V1 _,fun z=>absurd z (VE _)⟩
theorem T9 {Q:Value->Shared->Prop} (hd:H d=some (.dK kvs)) (hn:0<kvs.length) (hf:(f,fo)∈aa) (I:Inv X aa σ H s)
  (kr:∀ o,AO X X.A.in1 f fo σ (upd H d (.frz o (.dK kvs))) key (zbz kvs))
  (h:∀ m v H' s',lq key (zbz kvs) m->av m v->Inv X aa σ H' s'->ad H H'->Q v s') :
  wpAny (model X.prog X.w) X.A (call (.builtin "min") [.ref d] [(Str.ofString "key",.ref f)]) Q E s:=by
 obtain⟨z,nM,vs,rel,dd⟩:=qP I.hok hd;obtain⟨o,gr,ep,ho,hx,au,r⟩:=id dd;have jr:s.heap.DictAt (cr X.prog X.w) d vs ep:=⟨o,gr,ho,hx,au,r⟩;have nf:=I.notFrz hd;have dC:(toString "min"++toString ".loop":String)="min.loop":=by decide
 refine kmk_tree PySem.F.kind_min PySem.F.plain_min PySem.F.entry_min (kmk_min_key _ _) ?_;refine(show wpAny _ _ (Builtin.Builtins.bindParams "min" ["key","default"] 0 ⟨[],[(Str.ofString "key",Value.ref f)]⟩ >>= _) _ _ _ from oW (Wl (show Builtin.Builtins.bindParams "min" ["key","default"] 0 ⟨[],[(Str.ofString "key",Value.ref f)]⟩=pure [some (Value.ref f),none] from rfl) ?_));refine oW (Vi ?_);refine oW (wpAny_pyIter_dict nM jr ?_);refine oW (wpAny_newList ?_ (VU _));rw[dC];refine Vi ⟨plainId_quiet PySem.F.plain_min_loop _,?_⟩;have hz:(s.heap.push { cls:=.type "dict_keyiterator",data:=.fields #[.ref d,.int 0 0,.int vs.length 0,.int ep 0] }).objs.size=s.heap.objs.size + 1:=VI ..;have nd:∀ b,s.heap.objs.size<=b->upd H d (.frz o (.dK kvs)) b=none:=fun b hb=>by
  rw[aj (Ne.symm (Vq (Vy (Vk ho) hb)))];exact I.hok.fresh hb
 have If:=I.freeze hd ho;have gu:bC X aa (upd H d (.frz o (.dK kvs))) s.heap.objs.size:=If.fpOk (Vh _) (nd _ (Vh _));have jL:bC X aa (upd H d (.frz o (.dK kvs))) (s.heap.objs.size + 1):=If.fpOk (V8 _) (nd _ (V8 _));rw[hz];have ne:s.heap.objs.size + 1≠s.heap.objs.size:=Nat.succ_ne_self _;have I2:=If.kept (t':=s.toks) (h':=(s.heap.push { cls:=.type "dict_keyiterator",data:=.fields #[.ref d,.int 0 0,.int vs.length 0,.int ep 0] }).push (seqObj "list" #[] 0)) fun b o e=>Ve _ (Ve _ e)
 have oS:((s.heap.push { cls:=.type "dict_keyiterator",data:=.fields #[.ref d,.int 0 0,.int vs.length 0,.int ep 0] }).push (seqObj "list" #[] 0)).get? (s.heap.objs.size + 1)=some (seqObj "list" #[] 0):=by
  rw[<- hz];exact Vm _ rfl
 have oI:((s.heap.push { cls:=.type "dict_keyiterator",data:=.fields #[.ref d,.int 0 0,.int vs.length 0,.int ep 0] }).push (seqObj "list" #[] 0)).get? s.heap.objs.size=some { cls:=.type "dict_keyiterator",data:=.fields #[.ref d,.int 0 0,.int vs.length 0,.int ep 0] }:=Ve _ (Vm _ rfl);refine P5 (S:=s.heap.objs.size + 1) (it:=s.heap.objs.size) (c:=0) (oI:={ cls:=.type "dict_keyiterator",data:=.fields #[.ref d,.int 0 0,.int vs.length 0,.int ep 0] }) rfl (kr o) hf af au gu jL ne hn (I2.pins_of fun p hp=>?_) (ad.refl _) ?_ fun i m v H' s' hm rm eu I' sm=>?_
 ·rcases XW.mp hp with z|z
  ·rcases XW.mp z with y|y
   ·exact I2.pin p (Vr _ y)
   ·rw[W7.mp y]
    exact⟨oS,jL.1,jL.2.1,jL.2.2.1,by intro v z;cases z⟩
  ·rw[W7.mp z]
   exact⟨oI,gu.1,gu.2.1,gu.2.2.1,by intro v z;cases z⟩
 ·rw[rel.length]
  exact⟨_,oI,rfl,rfl⟩
 ·have e':=sm d _ af
  refine h m v _ s' ⟨i,hm,fun j x hx=>(eu j x m (by have:=(List.getElem?_eq_some_iff.mp hx).1;unfold zbz at this;rw[Vd] at this;exact this) hx hm).1,fun j x hj hx=>(eu j x m (by have:=(List.getElem?_eq_some_iff.mp hx).1;unfold zbz at this;rw[Vd] at this;exact this) hx hm).2 hj⟩ rm (I'.thaw nf e') fun b u q=>?_
  by_cases c:b=d
  ·subst c
   rw[hd] at q;cases q
   exact af
  ·rw[aj c]
   exact sm b u (by rw[aj c];exact q)
end
def tMinK (P:Addr) (fR:Pos) (qual:Str) (cap:List (Option Nat)) (ta:TA) (te:TE):TE:=fun σ H Q=>ta σ H fun us H1=>∃ (d:Addr) (kvs:List (Key×V)) (key:V->Int),us=[.ref d]/\H1 d=some (.dK kvs)/\0<kvs.length/\H1 P=some (.tbl fR qual) /\
 (∀ x∈zbz kvs,∀ o H2,ad (upd H1 d (.frz o (.dK kvs))) H2->te (lamS cap σ x) H2 fun k H3=>k=.int (key x)/\ad H2 H3)/\∀ m H',ad H1 H'->lq key (zbz kvs) m->Q m H'
theorem R0 {X:Cx}{a body:Expr}{ta:TA}{te:TE}{params:Arguments}{scope:Scope}{p pos bG fR:Pos}{c P:Addr}{N:List Str}{cap:List (Option Nat)}{x:Str}{k:Nat} (hg:Gl X "min") (hm:X.mg "min"=none) (hr:bn k X.A) (ha:PA X [a] ta)
  (gD:X.env.code=.ref c) (hc:PySem.W.codeHdIn X.K c P=true) (ok:dI X.env.scope scope X.N N cap=true)
  (he:∀ f c' s H,PE (zo X scope N f (.ref c') X.A.in1 s H) body te)
  (hx:N[0]?=some x:=by rfl) (hl:scope.names.lookup x=some .local:=by rfl) (wv:cap[0]?=some none:=by rfl)
  (DM:scope.isCoroutine=false:=by rfl) (nQ:scope.isGenerator=false:=by rfl)
  (oj:defaultsOf params X.env=([],[]):=by rfl)
  (eN:∀ pm c' fc u,bindArgs (PySem.W.kla_fn "<lambda>" (lj X) params body scope (dm X.env.cells scope.names []) pm (.ref c') fc) ⟨[u],[]⟩=pure [(x,u)]:=by intro _ _ _ _;rfl)
  (hs:backTo pos (starEach [a] X.env)=(false,eval a X.env)::backTo pos (starEach [] X.env):=by rfl) (hp:(backTo pos (starEach [a] X.env)).any (·.1)=false:=by rfl) (ua:(backToKw pos (keywordEach [⟨some "key",.Lambda params body scope fR,bG⟩] X.env)).all (·.1.isSome)=true:=by rfl)
  (yk:(backToKw pos (keywordEach [⟨some "key",.Lambda params body scope fR,bG⟩] X.env)).any (·.1.isNone)=false:=by rfl)
  (oy:∀ u:Value,((backToKw pos (keywordEach [⟨some "key",.Lambda params body scope fR,bG⟩] X.env)).filterMap (·.1)).zip [u]=[(Str.ofString "key",u)]:=by intro u;rfl) :
  PE X (.Call (.Name "min" p) [a] [⟨some "key",.Lambda params body scope fR,bG⟩] pos) (tMinK P fR (lj X) cap ta te):=by
 intro aa s σ H Q I h;refine V3 (iD I hg hm Gk ?_);refine PyProof.Rows.callWith_kw (thn (ha pos aa s σ H _ I h) fun us s1=>L2.ex5 fun vs H1 I1 r1 bi=>?_) hs hp ua yk;obtain⟨d,kvs,key,e,q1,hn,hP,cz,aO⟩:=bi;subst e;obtain⟨u,rfl,ru⟩:=hU r1;obtain rfl:u=Value.ref d:=ru;refine PyProof.Rows.kws_cons (Ss I1 gD hc hP ok oj fun f c' pm fc H2 s2 I2 qE hsz MU M5 lc=>PyProof.Rows.kws_nil ?_);rw[oy];have I3:Inv X (aa++[(f,Bm X scope params body pm c' fc)]) σ H2 s2:=I2.pins_of fun q hq=>by
  rcases XW.mp hq with z|z
  ·exact I2.pin q (Vr _ z)
  ·rw[W7.mp z]
   exact⟨M5,MU,V9 (Vy I1.lt hsz),I1.nofs hsz,by intro v y;cases y⟩
 have OB:∀ o,ad (upd H1 d (.frz o (.dK kvs))) (upd H2 d (.frz o (.dK kvs))):=fun o b u q=>by
  by_cases z:b=d
  ·subst z
   rw[af] at q ⊢;exact q
  ·rw[aj z] at q ⊢
   exact qE b u q
 have kr:∀ o,AO X X.A.in1 f (Bm X scope params body pm c' fc) σ (upd H2 d (.frz o (.dK kvs))) key (zbz kvs):=by
  intro o v u iL Hi si hv rv Ii HF Og;have PF:zn Hi c' P (lj X):=by
   obtain⟨oc,ws,t,e1,e2,e3⟩:=lc;exact⟨oc,ws,t,HF _ _ (by rw[aj (fun z=>by rw[z,qE _ _ q1] at e1;cases e1)];exact e1),e2,e3⟩
  have BB:=QZ (A:=X.A.in1) (x:=x) (Q:=fun k H3=>k=.int (key v)/\ad Hi H3) Ii rfl rfl hr.depth Og PF ok hx hl wv (eN pm c' fc u) DM nQ rv (he f c' si Hi) (cz v hv o Hi ((OB o).trans HF));refine WU (codeAny_mono BB fun r s' hq=>?_);obtain⟨u',rfl,ce⟩:=hq;exact Ii.after ce
 refine T9 (qE _ _ q1) hn (Vr _ (W7.mpr rfl)) I3 kr fun m v H' s' fm rm I' sm=>?_
 exact⟨m,H',I'.less,rm,aO m H' (qE.trans sm) fm⟩
end L2
namespace L2
open PySem PySem.Spec PyProof.Rows
section
variable {prog:Program}{w:World}{A:Around}{E:Value->Shared->Prop}{s:Shared}{cs:List Addr}
theorem Qi (hc:HdC A cs) (I:Addr) (hI:I∉cs) (n:Nat):Walks prog w A I (I::cs) [I] n (fun i v=>∃ t,v=.int i t) (fun i h=>IsRangeIter h I (i:Nat) ((n:Int) - (i:Nat)) 1/\Chn h cs) where
 sub:=fun b hb=>by simp at hb;simp[hb]
 frame:=fun _ _ _ x hk=>⟨hk I (by simp) _ x.1,x.2.mono fun b o hb e=>hk b (by simp[hb]) o e⟩
 item:=fun i s Q E hi x hQ=>by
  refine XS x.1 (by omega) fun h' bR a8=>?_
  refine hQ _ h' _ ⟨_,rfl⟩ ⟨?_,x.2.but hI a8.extBut⟩ fun b o hb e=>a8.extBut b o (fun h=>hb (by simp[h])) e
  rw[show(((i + 1:Nat):Int))=(i:Int) + 1 by omega,show(n:Int) - ((i:Int) + 1)=(n:Int) - (i:Int) - 1 by omega];exact bR
 done:=fun s Q E x hQ=>LH (hc.hd x.2) x.1 (by omega) fun h' dX=>hQ h' s.toks fun b o hb e=>dX b o (fun h=>hb (by simp[h])) e
 self:=fun _ _ _ _ x hQ=>XZ x.1 hQ
theorem Sh {R:Result->Shared->Prop} (hc:HdC A cs){r:Addr}{n:Nat}{t u v:Tok} (hr:IsRange s.heap r 0 n 1 t u v) (c:Chn s.heap cs) (ai:n<=2 ^ 24) (S:Addr) (res:Value) (c₀:Nat) (hS:s.heap.get? S=some { cls:=.type "list",data:=.seq #[] c₀ }) (GK:S∉cs)
  (hR:∀ h' tk fM c',(∀ b o,b≠S->s.heap.get? b=some o->h'.get? b=some o)->h'.get? S=some { cls:=.type "list",dict:=none,data:=.seq fM c',slots:=#[] }->ItemsOf (fun i v=>∃ t,v=.int i t) fM n->R (.ok (.ret res)) { s with heap:=h',toks:=tk }) :
  wpAny (model prog w) A.in1 (Builtin.List.listExtendWith (.ref S) (.ref r) res) (fun aO s'=>match aO with|.done f=>R (.ok f) s'|.again c'=>c'.quiet=true/\codeAny (model prog w) A c' R s') (fun e s'=>R (.error e) s') s:=by
 have hn:Builtin.Range.rangeSize 0 n 1=n:=by rw[rangeSize_one];split <;> omega
 have oP:Builtin.Range.small 0 n 1=true:=by
  unfold Builtin.Range.small;rw[zx (i:=0) (by decide) (by decide),zx (i:=(n:Int)) (by omega) (by omega),zx (i:=1) (by decide) (by decide),hn,zx (i:=(n:Int)) (by omega) (by omega),if_pos (by decide),zx (i:=(n:Int) + (1 - 1)) (by omega) (by omega),Yi];rfl
 have OR:S≠r:=fun e=>by rw[e,hr] at hS;simp at hS
 have IQ:S≠s.heap.objs.size:=Vq (Vk hS);have Ed:s.heap.objs.size∉cs:=fun z=>VE _ (c.lt _ z)
 have hV:S∉s.heap.objs.size::cs:=by simp[IQ,GK]
 have W:=(Qi (prog:=prog) (w:=w) (A:=A.in1) hc s.heap.objs.size Ed n).toS;have key:∀ (h:Heap) (c₁ tk:Nat),IsRangeIter h s.heap.objs.size ((0:Nat):Int) ((n:Int) - ((0:Nat):Int)) 1->Chn h cs->(∀ b o,b≠S->s.heap.get? b=some o->h.get? b=some o) ->
   h.get? S=some { cls:=.type "list",data:=.seq #[] c₁ }->codeAny (model prog w) A (.builtin "list.extend.loop" ⟨[.ref S,.ref s.heap.objs.size,res],[]⟩) R { s with heap:=h,toks:=tk }:=by
  intro h c₁ tk aI ch hk N9;refine codeAny_extend_loopS W (by rw[Vo];omega) S hV res n 0 _ #[] c₁ rfl (VU _) ⟨aI,ch⟩ N9 (ItemsOf.nil _) fun s' fM c' mv jT jA=>?_
  rw[Moved.eq_with mv];refine hR s'.heap s'.toks fM c' (fun b o hb e=>mv.heap b o (fun z=>?_) (hk b o hb e)) jT jA;rcases VH.mp z with e'|z
  ·exact hb e'
  ·exact absurd (Vk e) (by rw[W7.mp z];exact VE _)
 unfold Builtin.List.listExtendWith;refine oW (W6 (T:="range") ⟨_,hr,rfl⟩ ?_);have h1:Builtin.List.listSameRef (.ref S) (.ref r)=false:=by simp[Builtin.List.listSameRef,OR]
 have h2:(Value.type "range" == Value.type "list")=false:=by decide
 have h3:(Value.type "range" == Value.type "tuple")=false:=by decide
 simp only[h1,h2,h3,Bool.or_false,V2,if_false]
 refine oW (Yf hr oP ?_);refine oW (VJ (wpAny_hint_range (n:=n) (Ve _ hr) hn ai ?_));rw[hn];have wk:IsRangeIter (s.heap.push { cls:=.type "range_iterator",data:=.fields #[rawInt 0,rawInt n,rawInt 1] }) s.heap.objs.size ((0:Nat):Int) ((n:Int) - ((0:Nat):Int)) 1:=by
  rw[show(n:Int) - ((0:Nat):Int)=n by omega];exact Vm _ rfl
 have B0:=Ve { cls:=.type "range_iterator",data:=.fields #[rawInt 0,rawInt n,rawInt 1] } hS;have ID:Chn (s.heap.push { cls:=.type "range_iterator",data:=.fields #[rawInt 0,rawInt n,rawInt 1] }) cs:=c.mono fun b o _ e=>Ve _ e
 refine wpAny_ite_split (fun _=>?_) (fun _=>Vi ⟨plainId_quiet F.plain_extend_loop _,key _ c₀ _ wk ID (fun b o _ e=>Ve _ e) B0⟩);refine oW (WQ ?_);refine oW ?_;show wpAny _ _ (updateSeq S (·.push .none) >>= fun _=>updateSeq S (·.pop)) _ _ _;refine oW (Wz B0 rfl ?_);have AB:=VR (Obj.mapSeq (·.push Value.none)) B0 rfl;refine Wz (hz:=by seq_fits) AB rfl ?_;have Co:=VR (Obj.mapSeq (·.pop)) AB rfl;have jM:∀ b o,b≠S->(s.heap.push { cls:=.type "range_iterator",data:=.fields #[rawInt 0,rawInt n,rawInt 1] }).get? b=some o->(((s.heap.push { cls:=.type "range_iterator",data:=.fields #[rawInt 0,rawInt n,rawInt 1] }).update S (Obj.mapSeq (·.push Value.none))).update S (Obj.mapSeq (·.pop))).get? b=some o:=fun b o hb e=>
  (VB _ _ (Ne.symm hb)).trans ((VB _ _ (Ne.symm hb)).trans e)
 exact Vi ⟨plainId_quiet F.plain_extend_loop _,key _ _ _ (jM _ _ (Ne.symm IQ) wk) (ID.mono fun b o hb e=>jM b o (fun z=>GK (by rw[<- z];exact hb)) e) (fun b o hb e=>jM b o hb (Ve _ e)) Co⟩
theorem SK {Q:Value->Shared->Prop} (hc:HdC A cs){r:Addr}{n:Nat}{t u v:Tok} (hr:IsRange s.heap r 0 n 1 t u v) (c:Chn s.heap cs) (ai:n<=2 ^ 24)
  (hQ:∀ h' tk fM c',(∀ b o,s.heap.get? b=some o->h'.get? b=some o)->h'.get? s.heap.objs.size=some { cls:=.type "list",dict:=none,data:=.seq fM c',slots:=#[] }->ItemsOf (fun i v=>∃ t,v=.int i t) fM n->Q (.ref s.heap.objs.size) { s with heap:=h',toks:=tk }) :
  wpAny (model prog w) A (call (.type "list") [.ref r]) Q E s:=by
 refine callType_codes (Q₁:=fun obj s₁=>obj=.ref s.heap.objs.size/\s₁={ s with heap:=s.heap.push { cls:=.type "list",data:=.seq #[] } }) F.called_list (F.typeCall_list_1 _) F.entry_list_init (code_list_new _ ⟨rfl,rfl⟩) fun obj s₁ h₁=>?_
 obtain⟨rfl,rfl⟩:=h₁;have hS:(s.heap.push { cls:=.type "list",data:=.seq #[] }).get? s.heap.objs.size=some { cls:=.type "list",data:=.seq #[] }:=Vm _ rfl;have Ed:s.heap.objs.size∉cs:=fun z=>VE _ (c.lt _ z)
 refine⟨⟨_,hS,rfl⟩,F.args_list_init_2 _ _,?_⟩;refine(show wpAny _ A.in1.in1 (do let old <- Builtin.List.listItems (.ref s.heap.objs.size);Builtin.List.listUpdate (.ref s.heap.objs.size) (fun _=>#[]);letGo old.toList.reverse;Builtin.List.listExtendWith (.ref s.heap.objs.size) (.ref r) .none) _ _ _ from oW ?_);unfold Builtin.List.listItems;refine oW (VX hS rfl (Vi ?_));refine(show wpAny _ A.in1.in1 (updateSeq s.heap.objs.size (fun _=>#[]) >>= fun _=>letGo (#[]:Array Value).toList.reverse >>= fun _=>Builtin.List.listExtendWith (.ref s.heap.objs.size) (.ref r) .none) _ _ _ from oW (Wz hS rfl (oW (WF ?_))));have AB:=VR (Obj.mapSeq (fun _=>(#[]:Array Value))) hS rfl;have jM:∀ b o,s.heap.get? b=some o->((s.heap.push { cls:=.type "list",data:=.seq #[] }).update s.heap.objs.size (Obj.mapSeq (fun _=>(#[]:Array Value)))).get? b=some o:=fun b o e=>
  (VB _ _ (Ne.symm (Vq (Vk e)))).trans (Ve _ e)
 exact Sh (A:=A.in1) hc (jM r _ hr) (c.mono fun b o _ e=>jM b o e) ai _ .none _ AB Ed fun h' tk acc c' k jT jA=>⟨rfl,hQ h' tk acc c' (fun b o e=>k b o (Vq (Vk e)) (jM b o e)) jT jA⟩
end
def rng (n:Nat):List V:=(List.range n).map fun i=>V.int (i:Nat)
theorem TZ {n:Nat}{acc:Array Value} (h:ItemsOf (fun i v=>∃ t,v=Value.int i t) acc n):aw (rng n) acc.toList:=by
 have gen:∀ (k m:Nat) (us:List Value),us.length=k->(∀ i u,us[i]?=some u->∃ t,u=Value.int ((m + i:Nat):Int) t)->aw ((List.range' m k).map fun i=>V.int (i:Nat)) us:=fun k=>by
  induction k with
  | zero=>
   intro m us hl _;obtain rfl:=List.length_eq_zero_iff.mp hl;exact .nil
  | succ k ih=>
   intro m us hl hu;cases us with
   | nil=>cases hl
   | cons u us=>
    refine .cons ?_ (ih (m + 1) us (by simpa using hl) fun i x e=>?_)
    ·obtain⟨t,e⟩:=hu 0 u rfl
     exact⟨t,e⟩
    ·obtain⟨t,e⟩:=hu (i + 1) x (by simpa using e)
     refine⟨t,?_⟩;rw[e,show m + (i + 1)=m + 1 + i by omega]
 unfold rng;rw[List.range_eq_range'];refine gen n 0 acc.toList (by rw[Xv];exact h.1) fun i u e=>?_
 rw[XR];exact h.2 i u (by rw[Array.getElem?_toList] at e;exact e)
theorem PQ {X:Cx}{a:Expr}{ta:TA}{p p2 pos dP:Pos} (Oh:Gl X "list") (CQ:X.mg "list"=none) (hg:Gl X "range") (hm:X.mg "range"=none) (ha:PA X [a] ta) (hs:starEach [a] X.env=[(false,eval a X.env)]:=by rfl)
  (et:starEach [.Call (.Name "range" p2) [a] [] dP] X.env=[(false,eval (.Call (.Name "range" p2) [a] [] dP) X.env)]:=by rfl) :
  PE X (.Call (.Name "list" p) [.Call (.Name "range" p2) [a] [] dP] [] pos) (fun σ H Q=>ta σ H fun vs H1=>∃ j:Nat,vs=[.int j]/\j<=10000/\∀ r,H1 r=none->Q (.ref r) (upd H1 r (.lst (rng j)))):=by
 intro aa s σ H Q I h;refine V3 (iD I Oh CQ Lz ?_);refine PyProof.Rows.callWith_type1 ?_ et rfl;rw[et];refine Calls.spliced_cons ?_;refine Call_ (iD I hg hm boot_range (PyProof.Rows.callWith_type1 (thn (ha dP aa s σ H _ I h) fun us s1=>L2.ex5 fun vs H1 I1 r1 q1=>?_) hs rfl));obtain⟨j,e,j1,q⟩:=q1;subst e;cases r1 with
 | cons r rr=>
  cases rr
  obtain⟨t,rfl⟩:=r;refine call_range_1 (Calls.spliced_nil ?_);obtain⟨cs,cP,ch⟩:=I1.hd.chain;have hz:(s1.heap.push { cls:=.type "range",data:=.fields #[.int 0 s1.toks,.int j t,.int 1 (s1.toks + 1)] }).objs.size=s1.heap.objs.size + 1:=VI ..;refine SK (s:={ s1 with heap:=s1.heap.push { cls:=.type "range",data:=.fields #[.int 0 s1.toks,.int j t,.int 1 (s1.toks + 1)] },toks:=s1.toks + 1 + 1 }) cP (r:=s1.heap.objs.size) (n:=j) (Vm _ rfl) (ch.mono fun b o _ e=>Ve _ e) (by omega) fun h' tk acc c' k hS jA=>?_
  dsimp only at k hS;rw[hz] at hS;have fr:H1 (s1.heap.objs.size + 1)=none:=I1.hok.fresh (V8 _);refine⟨.ref (s1.heap.objs.size + 1),upd H1 (s1.heap.objs.size + 1) (.lst (rng j)),I1.laid (t':=tk) (fun b o e=>k b o (Ve _ e)) (V8 _) ⟨by unfold rng;rw[Vd,We,Vo];omega,acc.toList,c',TZ jA,by simpa using hS⟩,?_,q _ fr⟩;show Value.ref _=Value.ref _;rw[hz]
end L2
namespace L2
open PySem PySem.Spec PyProof.Rows
theorem QW {d:Addr}{o:Obj}{kvs:List (Key×V)}{g:TG}{tb:TS}{D:gL}{σ:St}{H:Hp} (Pv:Nat->St->Hp->Prop) (h0:Pv 0 σ H) (hf:∀ i σ H,i<=kvs.length->Pv i σ H->H d=some (.frz o (.dK kvs)))
  (hs:∀ i k x T σ H,kvs[i]?=some (k,x)->H T=none->Pv i σ H->g (.ref T) σ (upd H T (.tup [kV k,x])) fun σ2 H2=>tb { D with nx:=Pv (i + 1),ct:=Pv (i + 1),bk:=D.nx } σ2 H2) (hd:∀ σ H,Pv kvs.length σ H->D.nx σ H) :
  ∃ W:Nat->Nat->St->Hp->Prop,(∃ m,W 0 m σ H)/\∀ i m σ H,W i m σ H ->
   ((Iti d o kvs).stop i H/\D.nx σ H)\/((Iti d o kvs).go i H/\∃ N:St->Hp->Prop,(∀ σ' H',N σ' H'->∃ m',m'<m/\W (i + 1) m' σ' H')/\∀ x H',(Iti d o kvs).yld i H x H'->g x σ H' fun σ2 H2=>tb { D with nx:=N,ct:=N,bk:=D.nx } σ2 H2):=by
 refine⟨fun i m σ H=>m=kvs.length - i/\i<=kvs.length/\Pv i σ H,⟨kvs.length,by simp,VU _,h0⟩,?_⟩;rintro i m σ H ⟨rfl,hi,p⟩
 have q:=hf i σ H hi p;by_cases aE:i<kvs.length
 ·refine .inr ⟨⟨q,aE⟩,Pv (i + 1),fun σ' H' p'=>⟨kvs.length - (i + 1),by omega,rfl,aE,p'⟩,fun v H' y=>?_⟩
  obtain⟨T,k,x,rfl,hT,hx,rfl⟩:=y;exact hs i k x T σ H hx hT p
 ·have e:i=kvs.length:=by omega
  subst e;exact .inl ⟨⟨q,Vh _⟩,hd σ H p⟩
end L2
namespace L2
open PySem PySem.Spec PyProof.Rows
section
variable {X:Cx}
end
end L2
namespace L2
open PySem PySem.Spec PyProof.Rows
section
variable {X:Cx}
end
end L2
namespace L2
open PySem PySem.Spec PyProof.Rows
abbrev qj (h:Heap) (z TI TO T:Addr) (f:Bool):Prop:=h.get? z=some { cls:=.type "zip",dict:=none,data:=.fields #[rawInt T,.bool f,.bool false,.ref TI,.ref TO],slots:=#[] }
section
variable {prog:Program}{w:World}{A:Around}{E:Value->Shared->Prop}{s:Shared}{cs:List Addr}
theorem Kz {z TI TO T:Addr}{f:Bool}{oa:Obj}{Q:Bool->Shared->Prop} (hz:qj s.heap z TI TO T f) (ha:s.heap.get? T=some oa) (h:∀ h',qj h' z TI TO T true->Heap.SameBut z s.heap h'->Q false { s with heap:=h' }) :
  wpAny (model prog w) A (Builtin.SmallTypes.ownedTupleIsFree (.ref z)) Q E s:=by
 unfold Builtin.SmallTypes.ownedTupleIsFree;refine oW (VF hz rfl (x:=rawInt T) rfl ?_);show wpAny _ _ (loadIfAlive ((T:Int).toNat) >>= _) _ _ _;rw[Vn];refine oW (PySem.W.kdx_alive ha ?_);simp only[Option.isNone_some,V2,if_false]
 refine oW (VF hz rfl (x:=.bool f) rfl ?_);cases f with
 | true=>
  rw[if_neg (show ¬ ((Value.bool true != Value.bool true)=true) from Vu)];exact Vi (h s.heap hz (Heap.SameBut.refl _ _))
 | false=>
  rw[if_pos (show(Value.bool false != Value.bool true)=true from rfl)];refine oW (Wo hz (by simp) fun h₃ N1 eO=>?_);exact Vi (h h₃ N1 eO)
theorem SR {z TI TO T i1 i2 l1 l2:Addr}{f:Bool}{oa:Obj}{k1 k2:Nat}{xs ys:Array Value}{x y:Value}{Q:Option Value->Shared->Prop} (D:ZipApart z TI TO i1 i2 l1 l2)
  (hz:qj s.heap z TI TO T f) (ha:s.heap.get? T=some oa) (bT:IsPair s.heap TI (.ref i1) (.ref i2))
  (h1:s.heap.IsListIter i1 l1 k1) (h2:s.heap.IsListIter i2 l2 k2) (cf:s.heap.IsList l1 xs) (bQ:s.heap.IsList l2 ys) (hx:xs[k1]?=some x) (hy:ys[k2]?=some y)
  (hQ:∀ h',qj h' z TI TO T true->h'.IsListIter i1 l1 (k1 + 1)->h'.IsListIter i2 l2 (k2 + 1)->IsPair h' s.heap.objs.size x y ->
   (∀ c o,c≠z->c≠i1->c≠i2->s.heap.get? c=some o->h'.get? c=some o)->Q (some (.ref s.heap.objs.size)) { s with heap:=h' }) :
  wpAny (model prog w) A (pyNext (.ref z)) Q E s:=by
 have hT:s.TypeIs (.ref z) "zip":=⟨_,hz,rfl⟩;unfold pyNext;refine oW (Wx (VP (name:=Str.ofString "__next__") hT F.slot_zip_next (V6 F.slot_zip_next hT F.entry_zip_next ?_ (F.args_zip_next_1 _))));refine(show wpAny _ _ (field (.ref z) 2 >>= _) _ _ _ from oW (VF hz rfl (x:=.bool false) rfl ?_));refine(show wpAny _ _ (field (.ref z) 3 >>= _) _ _ _ from oW (VF hz rfl (x:=.ref TI) rfl (oW (VX bT rfl ?_))));refine(show wpAny _ _ (Builtin.SmallTypes.ownedTupleIsFree (.ref z) >>= _) _ _ _ from oW (Kz hz ha fun h₁ ou bA=>?_));simp only[V2,if_false,Yj,W4,X3]
 refine oW (oW (oW (VJ ?_)));refine(show wpAny _ _ (Builtin.SmallTypes.nextOf (.ref i1) >>= _) _ _ _ from oW (WJ (h1.extBut bA.extBut D.i1z) (cf.extBut bA.extBut D.l1z) hx fun h₂ EY cW=>Vi (Vi ?_)));refine oW (oW (VJ ?_));refine(show wpAny _ _ (Builtin.SmallTypes.nextOf (.ref i2) >>= _) _ _ _ from oW (WJ ((h2.extBut bA.extBut D.i2z).extBut cW.extBut D.i12.symm) ((bQ.extBut bA.extBut D.l2z).extBut cW.extBut D.l2i1) hy fun h₃ MJ eO=>Vi (Vi (Vi ?_))));refine(show wpAny _ _ (newTuple [x,y] >>= _) _ _ _ from oW (wpAny_newTuple ?_));have hsz:h₃.objs.size=s.heap.objs.size:=by rw[eO.1,cW.1,bA.1]
 have up:∀ c o,c≠z->c≠i1->c≠i2->s.heap.get? c=some o->(h₃.push { cls:=.type "tuple",data:=.seq #[x,y] }).get? c=some o:=fun c o c1 c2 c3 e=>
  Ve _ (eO.extBut _ _ c3 (cW.extBut _ _ c2 (bA.extBut _ _ c1 e)))
 have Mi:qj (h₃.push { cls:=.type "tuple",data:=.seq #[x,y] }) z TI TO T true:=Ve _ (eO.extBut _ _ D.i2z.symm (cW.extBut _ _ D.i1z.symm ou));have IE:IsPair (h₃.push { cls:=.type "tuple",data:=.seq #[x,y] }) h₃.objs.size x y:=Vm _ rfl;have Mg:(h₃.push { cls:=.type "tuple",data:=.seq #[x,y] }).IsListIter i1 l1 (k1 + 1):=EY.at fun o e=>Ve _ (eO.extBut _ _ D.i12 e)
 have PJ:(h₃.push { cls:=.type "tuple",data:=.seq #[x,y] }).IsListIter i2 l2 (k2 + 1):=MJ.at fun o e=>Ve _ e
 rw[hsz] at IE;refine Vi ⟨_,rfl,Vi ?_⟩;have aO:=hQ _ Mi Mg PJ IE up;rw[<- hsz] at aO;exact aO
theorem QE {z TI TO T i1 i2 l1 l2:Addr}{f:Bool}{oa:Obj}{k1 k2:Nat}{xs ys:Array Value}{Q:Option Value->Shared->Prop} (hc:HdC A cs) (c:Chn s.heap cs) (nz:z∉cs) (n1:i1∉cs) (D:ZipApart z TI TO i1 i2 l1 l2)
  (hz:qj s.heap z TI TO T f) (ha:s.heap.get? T=some oa) (bT:IsPair s.heap TI (.ref i1) (.ref i2))
  (h1:s.heap.IsListIter i1 l1 k1) (h2:s.heap.IsListIter i2 l2 k2) (cf:s.heap.IsList l1 xs) (bQ:s.heap.IsList l2 ys) (gT:xs[k1]?=none\/ys[k2]?=none)
  (hQ:∀ h',(∀ c o,c≠z->c≠i1->c≠i2->s.heap.get? c=some o->h'.get? c=some o)->Q none { s with heap:=h' }):wpAny (model prog w) A (pyNext (.ref z)) Q E s:=by
 have hT:s.TypeIs (.ref z) "zip":=⟨_,hz,rfl⟩;have aO:∀ h' e,(∀ c o,c≠z->c≠i1->c≠i2->s.heap.get? c=some o->h'.get? c=some o)->(∃ o,h'.get? e=some o/\o.cls=.type "StopIteration") ->
   wpAny (model prog w) A (do if <- isInstance (.ref e) (.type "StopIteration") then pure none else throw (.ref e)) Q E { s with heap:=h' }:=fun h' e k ⟨o,ho,kO⟩=>
  oW (Wu (T:="StopIteration") (b:=true) ⟨o,ho,kO⟩ isSubtype_stop (Vi (hQ _ k)))
 unfold pyNext;refine oW (Wx (VP (name:=Str.ofString "__next__") hT F.slot_zip_next (V6 F.slot_zip_next hT F.entry_zip_next ?_ (F.args_zip_next_1 _))));refine(show wpAny _ _ (field (.ref z) 2 >>= _) _ _ _ from oW (VF hz rfl (x:=.bool false) rfl ?_));refine(show wpAny _ _ (field (.ref z) 3 >>= _) _ _ _ from oW (VF hz rfl (x:=.ref TI) rfl (oW (VX bT rfl ?_))));refine(show wpAny _ _ (Builtin.SmallTypes.ownedTupleIsFree (.ref z) >>= _) _ _ _ from oW (Kz hz ha fun h₁ ou bA=>?_));have c₁:Chn h₁ cs:=c.but nz bA.extBut;simp only[V2,if_false,Yj,W4,X3]
 refine oW (oW (oW (VJ ?_)));cases hx:xs[k1]? with
 | none=>
  exact(show wpAny _ _ (Builtin.SmallTypes.nextOf (.ref i1) >>= _) _ _ _ from oW (qT (A:=A.in1) (HdC.hd (A:=A.in1) hc c₁) (h1.extBut bA.extBut D.i1z) (cf.extBut bA.extBut D.l1z) hx fun h₂ e cW he=>
   aO h₂ e (fun c o c1 c3 _ x=>cW _ _ c3 (bA.extBut _ _ c1 x)) he))
 | some x=>
  have hy:ys[k2]?=none:=by rcases gT with h|h;rw[hx] at h;cases h;exact h
  refine(show wpAny _ _ (Builtin.SmallTypes.nextOf (.ref i1) >>= _) _ _ _ from oW (WJ (h1.extBut bA.extBut D.i1z) (cf.extBut bA.extBut D.l1z) hx fun h₂ EY cW=>Vi (Vi ?_)));refine oW (oW (VJ ?_));have c₂:Chn h₂ cs:=c₁.but n1 cW.extBut;exact(show wpAny _ _ (Builtin.SmallTypes.nextOf (.ref i2) >>= _) _ _ _ from oW (qT (A:=A.in1) (HdC.hd (A:=A.in1) hc c₂) ((h2.extBut bA.extBut D.i2z).extBut cW.extBut D.i12.symm) ((bQ.extBut bA.extBut D.l2z).extBut cW.extBut D.l2i1) hy fun h₃ e eO he=>
   aO h₃ e (fun c o c1 c2 c3 x=>eO _ _ c3 (cW.extBut _ _ c2 (bA.extBut _ _ c1 x))) he))
def ZS (h:Heap) (z TI TO i1 i2 l1 l2 d:Addr) (xs ys:Array Value) (i:Nat):Prop:=
 (IsZip h z TI TO .none\/∃ T f oa,qj h z TI TO T f/\h.get? T=some oa/\T≠z/\T≠i1/\T≠i2/\T≠d)/\IsPair h TI (.ref i1) (.ref i2)/\(∃ a b,IsPair h TO a b)/\h.IsListIter i1 l1 i/\h.IsListIter i2 l2 i/\h.IsList l1 xs/\h.IsList l2 ys
theorem QS {z TI TO i1 i2 l1 l2 d:Addr}{xs ys:Array Value}{i:Nat}{x y:Value}{Q:Option Value->Shared->Prop} (D:ZipApart z TI TO i1 i2 l1 l2) (dl:d<s.heap.objs.size) (st:ZS s.heap z TI TO i1 i2 l1 l2 d xs ys i) (hx:xs[i]?=some x) (hy:ys[i]?=some y)
  (hQ:∀ h',ZS h' z TI TO i1 i2 l1 l2 d xs ys (i + 1)->IsPair h' s.heap.objs.size x y->(∀ c o,c≠z->c≠TO->c≠i1->c≠i2->s.heap.get? c=some o->h'.get? c=some o)->Q (some (.ref s.heap.objs.size)) { s with heap:=h' }) :
  wpAny (model prog w) A (pyNext (.ref z)) Q E s:=by
 obtain⟨zs,bT,⟨a,b,dD⟩,h1,h2,cf,bQ⟩:=st;have lt:∀ {c o},s.heap.get? c=some o->s.heap.objs.size≠c:=fun e=>V9 (Vk e)
 have n1:s.heap.objs.size≠i1:=by obtain⟨_,e,_⟩:=h1;exact lt e
 have n2:s.heap.objs.size≠i2:=by obtain⟨_,e,_⟩:=h2;exact lt e
 rcases zs with hz|⟨T,f,oa,hz,ha,t1,t2,t3,t4⟩
 ·refine X4 D hz bT dD h1 h2 cf bQ hx hy fun h' a1 a2 a3 a4 a5 a6 hk=>?_
  exact hQ h' ⟨.inr ⟨s.heap.objs.size,false,_,a1,a5,lt hz,n1,n2,V9 dl⟩,hk _ _ D.TIz D.TITO D.TIi1 D.TIi2 bT,⟨_,_,a2⟩,a3,a4,cf.at fun o e=>hk _ o D.l1z D.l1TO D.l1i1 D.l1i2 e,bQ.at fun o e=>hk _ o D.l2z D.l2TO D.l2i1 D.l2i2 e⟩ a5 hk
 ·refine SR D hz ha bT h1 h2 cf bQ hx hy fun h' a1 a3 a4 a5 hk=>?_
  exact hQ h' ⟨.inr ⟨T,true,oa,a1,hk _ _ t1 t2 t3 ha,t1,t2,t3,t4⟩,hk _ _ D.TIz D.TIi1 D.TIi2 bT,⟨_,_,hk _ _ D.TOz D.TOi1 D.TOi2 dD⟩,a3,a4,cf.at fun o e=>hk _ o D.l1z D.l1i1 D.l1i2 e,bQ.at fun o e=>hk _ o D.l2z D.l2i1 D.l2i2 e⟩ a5
   fun c o c1 _ c3 c4 e=>hk c o c1 c3 c4 e
theorem zs_end {z TI TO i1 i2 l1 l2 d:Addr}{xs ys:Array Value}{i:Nat}{Q:Option Value->Shared->Prop} (hc:HdC A cs) (c:Chn s.heap cs) (nz:z∉cs) (nT:TO∉cs) (n1:i1∉cs) (n2:i2∉cs) (D:ZipApart z TI TO i1 i2 l1 l2) (st:ZS s.heap z TI TO i1 i2 l1 l2 d xs ys i) (gT:xs[i]?=none\/ys[i]?=none)
  (hQ:∀ h',(∀ c o,c≠z->c≠TO->c≠i1->c≠i2->s.heap.get? c=some o->h'.get? c=some o)->Q none { s with heap:=h' }):wpAny (model prog w) A (pyNext (.ref z)) Q E s:=by
 obtain⟨zs,bT,⟨a,b,dD⟩,h1,h2,cf,bQ⟩:=st;rcases zs with hz|⟨T,f,oa,hz,ha,t1,t2,t3,t4⟩
 ·exact Ly hc c nz nT n1 n2 D hz bT dD h1 h2 cf bQ gT hQ
 ·exact QE hc c nz n1 D hz ha bT h1 h2 cf bQ gT fun h' hk=>hQ h' fun c o c1 _ c3 c4 e=>hk c o c1 c3 c4 e
structure Fx (z TI TO i1 i2 l1 l2 d:Addr):Prop where
 z:z≠d
 TI:TI≠d
 TO:TO≠d
 i1:i1≠d
 i2:i2≠d
 l1:l1≠d
 l2:l2≠d
theorem ZS.but {z TI TO i1 i2 l1 l2 d:Addr}{xs ys:Array Value}{i:Nat}{h h':Heap} (N:Fx z TI TO i1 i2 l1 l2 d) (st:ZS h z TI TO i1 i2 l1 l2 d xs ys i) (hk:∀ c o,c≠d->h.get? c=some o->h'.get? c=some o):ZS h' z TI TO i1 i2 l1 l2 d xs ys i:=by
 obtain⟨zs,bT,⟨a,b,dD⟩,h1,h2,cf,bQ⟩:=st;refine⟨?_,hk _ _ N.TI bT,⟨a,b,hk _ _ N.TO dD⟩,h1.at fun o e=>hk _ o N.i1 e,h2.at fun o e=>hk _ o N.i2 e,cf.at fun o e=>hk _ o N.l1 e,bQ.at fun o e=>hk _ o N.l2 e⟩;rcases zs with hz|⟨T,f,oa,hz,ha,t1,t2,t3,t4⟩
 ·exact .inl (hk _ _ N.z hz)
 ·exact .inr ⟨T,f,oa,hk _ _ N.z hz,hk _ _ t4 ha,t1,t2,t3,t4⟩
end
section
variable {prog:Program}{w:World}{A:Around}{R:Result->Shared->Prop}{cs:List Addr}{κ:Type} [DecidableEq κ] {knd:KeyKind prog w κ}
theorem TM {z TI TO i1 i2 l1 l2 d:Addr}{xs ys:Array Value} (D:ZipApart z TI TO i1 i2 l1 l2) (N:Fx z TI TO i1 i2 l1 l2 d) (hc:HdC A cs) (nz:z∉cs) (nT:TO∉cs) (n1:i1∉cs) (n2:i2∉cs) (nd:d∉cs) (ai:xs.size<=ys.size) (hn:xs.size<=1000)
  (ks:Nat->κ) (vs:Nat->Value) (kvs:Nat->List (κ×Value)) (res:Value) (fQ:∀ i x y,xs[i]?=some x->ys[i]?=some y->knd.is (ks i) x=true/\y=vs i)
  (hs:∀ i,kvs (i + 1)=stored (kvs i) (ks i) (vs i)) (hl:∀ i,(kvs i).length<=i) (s0:Shared) :
  ∀ (k i:Nat) (h:Heap) (tk:Nat),xs.size - i=k->i<=xs.size->ZS h z TI TO i1 i2 l1 l2 d xs ys i->Chn h cs->h.DictOf knd d (kvs i)->(∀ b o,b≠d->b≠z->b≠TO->b≠i1->b≠i2->s0.heap.get? b=some o->h.get? b=some o) ->
   (∀ h' gU,(∀ b o,b≠d->b≠z->b≠TO->b≠i1->b≠i2->s0.heap.get? b=some o->h'.get? b=some o)->h'.DictOf knd d (kvs xs.size)->R (.ok (.ret res)) { s0 with heap:=h',toks:=gU }) ->
   codeAny (model prog w) A (.builtin "dict.update.loop" ⟨[.ref d,.ref z,.int i 0,res],[]⟩) R { s0 with heap:=h,toks:=tk }:=by
 intro k
 induction k with
 | zero=>
  intro i h tk hk hi st ch hD keep hR;have hin:i=xs.size:=by omega
  subst hin;refine codeAny_builtin AZ ?_;rw[Around.under_plainId nF _];show wpAny _ A.in1 (pyNext (.ref z) >>= _) _ _ _;refine oW (zs_end (A:=A.in1) (s:={ s0 with heap:=h,toks:=tk }) hc ch nz nT n1 n2 D st (.inl (by simp)) fun h' cX=>?_);show wpAny _ A.in1 (pure () >>= fun _=>ret res) _ _ _;refine oW (Vi (Vi (hR h' tk (fun b o b0 b1 b2 b3 b4 e=>cX b o b1 b2 b3 b4 (keep b o b0 b1 b2 b3 b4 e)) ?_)));obtain⟨o,es,ep,ho,aP⟩:=hD;exact⟨o,es,ep,cX _ _ (Ne.symm N.z) (Ne.symm N.TO) (Ne.symm N.i1) (Ne.symm N.i2) ho,aP⟩
 | succ k ih=>
  intro i h tk hk hi st ch hD keep hR;have aE:i<xs.size:=by omega
  refine codeAny_builtin AZ ?_;rw[Around.under_plainId nF _];show wpAny _ A.in1 (pyNext (.ref z) >>= _) _ _ _;have dl:d<h.objs.size:=by
   obtain⟨o,es,ep,ho,aP⟩:=hD;exact Vk ho
  have hx:xs[i]?=some xs[i]:=XH aE;have hy:ys[i]?=some (ys[i]'(by omega)):=XH (by omega);obtain⟨cz,hv⟩:=fQ i _ _ hx hy;refine oW (QS (A:=A.in1) (s:={ s0 with heap:=h,toks:=tk }) D dl st hx hy fun h' jP hP cX=>?_);rw[hv] at hP;generalize xs[i]=key at cz hP hx;have tn:∀ b o,h.get? b=some o->b≠h.objs.size:=fun b o e=>Vq (Vk e)
  have ku:h'.DictOf knd d (kvs i):=by
   obtain⟨o,es,ep,ho,aP⟩:=hD;exact⟨o,es,ep,cX _ _ (Ne.symm N.z) (Ne.symm N.TO) (Ne.symm N.i1) (Ne.symm N.i2) ho,aP⟩
  have hT:Shared.TypeIs { s0 with heap:=h',toks:=tk } (.ref h.objs.size) "tuple":=⟨_,hP,rfl⟩;have mN:Chn h' cs:=ch.mono fun b o hb e=>cX b o (fun q=>nz (q ▸ hb)) (fun q=>nT (q ▸ hb)) (fun q=>n1 (q ▸ hb)) (fun q=>n2 (q ▸ hb)) e
  dsimp only;refine oW (VJ (oW (Wh ?_)));unfold Builtin.Dict.pairItems;refine oW (W6 hT ?_);rw[if_pos (by decide)];refine oW (VX hP rfl (Vi ?_));show wpAny _ _ (holding [key,vs i] (dictSet d key (vs i))) _ _ _;refine VJ (Yc (knd:=knd) (s:={ s0 with heap:=h',toks:=tk }) cz ku (fun h'' wO oE=>?_) (by rw[Vo];have:=hl i;omega));have e1:kvs (i + 1)=stored (kvs i) (ks i) (vs i):=hs i;rw[<- e1] at wO;have kb:∀ c o,c≠d->h'.get? c=some o->h''.get? c=some o:=fun c o fh e=>by rw[oE.2 c fh];exact e
  exact Vi ⟨plainId_quiet nF _,ih (i + 1) h'' _ (by omega) aE (jP.but N kb) (mN.mono fun b o hb e=>kb b o (fun q=>nd (q ▸ hb)) e) wO (fun b o b0 b1 b2 b3 b4 e=>kb b o b0 (cX b o b1 b2 b3 b4 (keep b o b0 b1 b2 b3 b4 e))) hR⟩
end
section
variable {prog:Program}{w:World}{A:Around}{E:Value->Shared->Prop}{s:Shared}{cs:List Addr}
theorem RB:typeLookup (.type "zip") "keys"=pure none:=am_miss_of_fast (by kernel_rfl)
theorem QC:entryFor table "zip.__getattribute__"=some Builtin.«object.__getattribute__»:=entryFor_alias (id':="object.__getattribute__") (by kernel_rfl) (by first|rfl|decide +kernel) (by decide +kernel) (by kernel_rfl)
theorem SH {z TI TO:Addr}{tk:Tok}{Q:Fin->Shared->Prop} (hd:Hd A s.heap) (ho:IsZip s.heap z TI TO .none)
  (h:∀ h' tk e,(∀ b ob,s.heap.get? b=some ob->h'.get? b=some ob)->(∃ o',h'.get? e=some o'/\o'.cls=.type "AttributeError")->E (.ref e) { s with heap:=h',toks:=tk }) :
  wpAny (model prog w) A (Builtin.«object.__getattribute__» ⟨[.ref z,.str "keys" tk],[]⟩) Q E s:=by
 have hT:s.TypeIs (.ref z) "zip":=⟨_,ho,rfl⟩;have f4:=RB;unfold Builtin.«object.__getattribute__»;obtain⟨hp,g,d,gU,os⟩:=s
 repeat (any_goals (first|assumption|wp_step))
 exact Lw hd h (attrMsg_fits (by decide +kernel) (by size_fits))
theorem S5 {z TI TO:Addr}{Q:Option Value->Shared->Prop} (hd:Hd A s.heap) (ho:IsZip s.heap z TI TO .none)
  (h:∀ h' tk,(∀ b ob,s.heap.get? b=some ob->h'.get? b=some ob)->Q none { s with heap:=h',toks:=tk }) :
  wpAny (model prog w) A (getAttr? (.ref z) "keys") Q E s:=by
 unfold getAttr? getAttrBy?;obtain⟨hp,g,d,gU,os⟩:=s;have hT:(⟨hp,g,d,gU + 1,os⟩:Shared).TypeIs (.ref z) "zip":=⟨_,ho,rfl⟩;have f1:=sub_AttributeError;have f2:=F.slot_zip_getattribute.lookup;have f3:=F.slot_zip_getattribute.bind (.ref z);have f5:typeLookup (.type "zip") "__getattr__"=pure none:=am_miss_of_fast (by kernel_rfl);unfold getAttrBy
 repeat (any_goals (first|assumption|wp_step))
 refine codeAny_call_builtin F.slot_zip_getattribute.plain QC (F.slot_zip_getattribute.check _ _ _ _ _ _ _ _ hT (F.args_zip_getattribute_2 _ _) (SH (s:=⟨hp,g,d,gU + 1,os⟩) hd ho fun h' kT e k' ⟨o',e1,e2⟩=>?_));dsimp only;show wpAny _ _ (getattributeRaised _ _ _ _ _ _ _) _ _ _;unfold getattributeRaised;have hE:(⟨h',g,d,kT,os⟩:Shared).TypeIs (.ref e) "AttributeError":=⟨_,e1,e2⟩
 repeat (any_goals (first|assumption|wp_step))
 exact h h' kT k'
end
section
variable {prog:Program}{w:World}{A:Around}{E:Value->Shared->Prop}{s:Shared}{cs:List Addr}{κ:Type} [DecidableEq κ] {knd:KeyKind prog w κ}
set_option maxHeartbeats 3200000 in
theorem Uh {z TI TO i1 i2 l1 l2:Addr}{xs ys:Array Value}{a b:Value}{Q:Value->Shared->Prop} (hc:HdC A cs) (ch:Chn s.heap cs) (nz:z∉cs) (nT:TO∉cs) (n1:i1∉cs) (n2:i2∉cs) (D:ZipApart z TI TO i1 i2 l1 l2)
  (hz:IsZip s.heap z TI TO .none) (bT:IsPair s.heap TI (.ref i1) (.ref i2)) (dD:IsPair s.heap TO a b) (h1:s.heap.IsListIter i1 l1 0) (h2:s.heap.IsListIter i2 l2 0) (cf:s.heap.IsList l1 xs) (bQ:s.heap.IsList l2 ys) (ai:xs.size<=ys.size) (hn:xs.size<=1000)
  (ks:Nat->κ) (vs:Nat->Value) (kvs:Nat->List (κ×Value)) (h0:kvs 0=[]) (hs:∀ i,kvs (i + 1)=stored (kvs i) (ks i) (vs i)) (hl:∀ i,(kvs i).length<=i)
  (fQ:∀ i x y,xs[i]?=some x->ys[i]?=some y->knd.is (ks i) x=true/\y=vs i)
  (h:∀ h' tk,h'.DictOf knd s.heap.objs.size (kvs xs.size)->(∀ b o,b≠z->b≠TO->b≠i1->b≠i2->s.heap.get? b=some o->h'.get? b=some o)->Q (.ref s.heap.objs.size) { s with heap:=h',toks:=tk }) :
  wpAny (model prog w) A (call (.type "dict") [.ref z]) Q E s:=by
 refine callType_codes (Q₁:=fun obj s₁=>obj=.ref s.heap.objs.size/\s₁={ s with heap:=s.heap.push { cls:=.type "dict",data:=.dict #[] } }) F.kt_called_dict (F.kt_typeCall_dict_1 _) F.entry_dict_init (kt_code_dict_new _ ⟨rfl,rfl⟩) ?_;rintro obj s₁ ⟨rfl,rfl⟩
 have cx:(s.heap.push { cls:=.type "dict",data:=.dict #[] }).DictOf knd s.heap.objs.size []:=Heap.DictOf.new s.heap;have keep:∀ b o,s.heap.get? b=some o->(s.heap.push { cls:=.type "dict",data:=.dict #[] }).get? b=some o:=fun b o e=>Ve _ e
 have lt:∀ b∈cs,b<s.heap.objs.size:=ch.lt;have gl:∀ {b o},s.heap.get? b=some o->b≠s.heap.objs.size:=fun e=>Vq (Vk e)
 have N:Fx z TI TO i1 i2 l1 l2 s.heap.objs.size:=⟨gl hz,gl bT,gl dD,by obtain⟨_,e,_⟩:=h1;exact gl e,by obtain⟨_,e,_⟩:=h2;exact gl e,by obtain⟨_,e,_⟩:=cf;exact gl e,by obtain⟨_,e,_⟩:=bQ;exact gl e⟩;generalize s.heap.push { cls:=.type "dict",data:=.dict #[] }=hp at cx keep ⊢;have mN:Chn hp cs:=ch.mono fun b o _ e=>keep b o e
 have jz:IsZip hp z TI TO .none:=keep _ _ hz;refine⟨cx.typeIs,F.args_dict_init_2 _ _,?_⟩;unfold Builtin.«dict.__init__»;refine oW ?_;unfold Builtin.Dict.selfAndRest;refine oW (X6 cx.typeIs ?_);show wpAny _ _ (pure (s.heap.objs.size,[Value.ref z])) _ _ _;refine Vi ?_;show wpAny _ _ (Builtin.Dict.updateFrom "dict.__init__" s.heap.objs.size (.ref z) [] .none) _ _ _;unfold Builtin.Dict.updateFrom;have hT:Shared.TypeIs { s with heap:=hp } (.ref z) "zip":=⟨_,jz,rfl⟩;refine oW (W6 hT ?_);rw[if_pos (by decide)];refine oW ?_;refine S5 (s:={ s with heap:=hp }) (HdC.hd (A:=A.in1.in1) hc mN) jz fun fj kT k2=>?_
 have all2:∀ b o,s.heap.get? b=some o->fj.get? b=some o:=fun b o e=>k2 b o (keep b o e)
 have BX:Chn fj cs:=mN.mono fun b o _ e=>k2 b o e
 rw[if_pos (show(none:Option Value).isNone=true from rfl)];refine oW (WQ ?_);refine oW (XO (s:={ s with heap:=fj,toks:=kT }) (all2 _ _ hz) ?_);have c9:fj.DictOf knd s.heap.objs.size (kvs 0):=by
  rw[h0];obtain⟨o,es,ep,hg,aP⟩:=cx;exact⟨o,es,ep,k2 _ _ hg,aP⟩
 have st:ZS fj z TI TO i1 i2 l1 l2 s.heap.objs.size xs ys 0:=⟨.inl (all2 _ _ hz),all2 _ _ bT,⟨_,_,all2 _ _ dD⟩,h1.at fun o e=>all2 _ o e,h2.at fun o e=>all2 _ o e,cf.at fun o e=>all2 _ o e,bQ.at fun o e=>all2 _ o e⟩;refine Vi ⟨plainId_quiet nF _,TM (knd:=knd) (A:=A.in1) D N hc nz nT n1 n2 (fun q=>VE _ (lt _ q)) ai hn ks vs kvs .none fQ hs hl s xs.size 0 fj kT rfl (VU _) st BX c9 (fun b o b0 _ _ _ _ e=>all2 b o e) fun h' gU hk hD=>?_⟩;exact⟨rfl,h h' gU hD fun b o c1 c2 c3 c4 e=>hk b o (gl e) c1 c2 c3 c4 e⟩
end
section
variable {X:Cx}
theorem Qh {p p2 pos dP:Pos}{a b:Expr}{ta:TA} (hg:Gl X "dict") (hm:X.mg "dict"=none) (oU:Gl X "zip") (O4:X.mg "zip"=none) (ha:PA X [a,b] ta) (hs:starEach [a,b] X.env=[(false,eval a X.env),(false,eval b X.env)]:=by rfl) (et:starEach [b] X.env=[(false,eval b X.env)]:=by rfl)
  (he:starEach [.Call (.Name "zip" p2) [a,b] [] dP] X.env=(false,eval (.Call (.Name "zip" p2) [a,b] [] dP) X.env)::starEach [] X.env:=by rfl) (bX:(backTo pos (starEach [] X.env)).any (·.1)=false:=by rfl) :
  PE X (.Call (.Name "dict" p) [.Call (.Name "zip" p2) [a,b] [] dP] [] pos) (fun σ H Q=>ta σ H fun vs H1=>∃ l1 l2,∃ ns:List Key,∃ ms:List V,vs=[.ref l1,.ref l2]/\SqL X.K H1 l1 (ns.map kV)/\SqL X.K H1 l2 ms/\ns.length<=ms.length/\ns.length<=1000/\∀ d,H1 d=none->Q (.ref d) (upd H1 d (.dK (mkD (ns.zip ms))))):=by
 intro aa s σ H Q I h;refine V3 (iD I hg hm Fo ?_);refine PyProof.Rows.callWith_type1 ?_ he bX;rw[he];show wpAny _ _ (spliced ((false,eval _ X.env)::backTo pos (starEach [] X.env))) _ _ s;refine Calls.spliced_cons ?_;refine Call_ (iD I oU O4 boot_zip (PyProof.Rows.callWith_type1 (thn (ha dP aa s σ H _ I h) fun us s1=>L2.ex5 fun vs H1 I1 r1 bi=>?_) (by rw[hs,et]) (by rw[et];rfl)));obtain⟨l1,l2,ns,ms,e,q1,q2,ai,yt,q⟩:=bi;subst e;obtain⟨u,u',rfl,ru,ur⟩:=y9 r1;obtain rfl:u=Value.ref l1:=ru;obtain rfl:u'=Value.ref l2:=ur;obtain⟨its,rv,pl,_⟩:=I1.list q1;obtain⟨its',cK,jV,_⟩:=I1.list q2;refine call_zip_2 pl.isList jV.isList fun h' b1 b2 b3 b4 b5 b6 hk=>?_
 refine Calls.spliced_nil ?_;have I2:Inv X aa σ H1 { s1 with heap:=h' }:=I1.kept (t':=s1.toks) hk;obtain⟨cs,cP,ch⟩:=I1.hd.chain;have lt:∀ b∈cs,b<s1.heap.objs.size:=ch.lt;have gX:l1<s1.heap.objs.size:=by obtain⟨o,e,_⟩:=pl.isList;exact Vk e
 have kU:l2<s1.heap.objs.size:=by obtain⟨o,e,_⟩:=jV.isList;exact Vk e
 have nn:∀ (x y:Nat),x<y->∀ j:Nat,x≠y + j:=fun x y h j e=>by omega
 have n0:∀ (y i j:Nat),i≠j->y + i≠y + j:=fun y i j h e=>by omega
 have D:ZipApart (s1.heap.objs.size + 4) (s1.heap.objs.size + 2) (s1.heap.objs.size + 3) s1.heap.objs.size (s1.heap.objs.size + 1) l1 l2:=
  ⟨n0 _ 2 4 (by decide),n0 _ 3 4 (by decide),n0 _ 0 4 (by decide),n0 _ 1 4 (by decide),n0 _ 2 3 (by decide),n0 _ 2 0 (by decide),n0 _ 2 1 (by decide),n0 _ 3 0 (by decide),n0 _ 3 1 (by decide),n0 _ 0 1 (by decide),
   nn _ _ gX 4,nn _ _ gX 3,nn _ _ gX 0,nn _ _ gX 1,nn _ _ kU 4,nn _ _ kU 3,nn _ _ kU 0,nn _ _ kU 1⟩
 have nc:∀ j:Nat,s1.heap.objs.size + j∉cs:=fun j q=>absurd (lt _ q) (Nat.not_lt.mpr (VO _ _))
 have e1:=rv.length;have e2:=cK.length;rw[Vd] at e1;have ue:∀ i k y,ns[i]?=some k->its'[i]?=some y->(ns.zip its').getD i (Sum.inl 0,.none)=(k,y):=fun i k y q1 q2=>by
  have q:(ns.zip its')[i]?=some (k,y):=by
   rw[VQ];exact⟨q1,q2⟩
  rw[Vf,q];rfl
 have hz:its.toArray.size=ns.length:=by simp[e1]
 have zl:(ns.zip ms).length=ns.length:=by rw[Wm];omega
 refine Uh (s:={ s1 with heap:=h' }) (knd:=cr X.prog X.w) cP (ch.mono fun b o _ e=>hk b o e) (nc 4) (nc 3) (nc 0) (nc 1) D b1 b2 b3 b4 b5 (pl.isList.at fun o e=>hk _ o e) (jV.isList.at fun o e=>hk _ o e) (by simp;omega) (by rw[hz];exact yt)
  (fun i=>((ns.zip its').getD i (Sum.inl 0,.none)).1) (fun i=>((ns.zip its').getD i (Sum.inl 0,.none)).2) (stN (ns.zip its')) rfl (fun _=>rfl) (Gg _) (fun i x y hx hy=>?_) fun h'' tk hD keep=>?_
 ·have hx:its[i]?=some x:=by simpa using hx
  have hy:its'[i]?=some y:=by simpa using hy
  have hi:i<ns.length:=by
   have:=(List.getElem?_eq_some_iff.mp hx).1;omega
  have cX:ns[i]?=some ns[i]:=Vg hi;obtain⟨u,hu,ru⟩:=rv.get (i:=i) (x:=kV ns[i]) (by rw[Vp,cX];rfl);rw[hx] at hu;obtain rfl:=Option.some.inj hu;rw[ue i _ y cX hy];exact⟨lm ru,rfl⟩
 have rel:=Fl (kvs:=ns.zip ms) (us:=ns.zip its') (fun i kv Ng=>by
  obtain⟨g1,g2⟩:=VQ.mp Ng;obtain⟨u,hu,ru⟩:=cK.get g2;rw[ue i _ u g1 hu];exact⟨rfl,ru⟩) (ns.zip ms).length (Vh _)
 rw[Vv,zl] at rel;rw[hz] at hD;have ne:(h'.objs.size == sysModules)=false:=(AT (P:=X.prog) (w:=X.w) (H:=H1) h' I2.big).2.1;have z:(mkD (ns.zip ms)).length<=sizeLine:=by
  have:=mkD_len (ns.zip ms) [];have z0:([]:List (Key×V)).length=0:=rfl;rw[Vo];unfold mkD;omega
 have le:s1.heap.objs.size<=h'.objs.size:=by omega
 refine⟨.ref h'.objs.size,_,I1.laid (a:=h'.objs.size) (o:=.dK (mkD (ns.zip ms))) (t':=tk) (fun b o e=>?_) le ⟨z,ne,_,rel,hD⟩,rfl,q _ (I1.hok.fresh le)⟩;have bl:=Vk e;exact keep b o (Vq (Vy bl (VO _ 4))) (Vq (Vy bl (VO _ 3))) (Vq bl) (Vq (Vy bl (VO _ 1))) (hk b o e)
end
end L2
namespace L2
open PySem PySem.Spec PyProof.Rows
section
variable {prog:Program}{w:World}{A:Around}{E:Value->Shared->Prop}{s:Shared}{cs:List Addr}
variable {κ:Type} [DecidableEq κ] {knd:KeyKind prog w κ}
end
section
variable {X:Cx}
end
section
variable {g:TG}{tt:TT}{te:TE}
end
end L2
namespace K64
open PySem L2
def top (i:Nat):Stmt:=PySem.Challenge.pw_layerdraw_k64_none_costs_less.main.body.getD i (.Pass ⟨0,0,0,0⟩)
abbrev zm:Stmt:=AW (top 4) 0
theorem SJ:bo ["self","ring"] ["self","ring"] (aq zm):=⟨rfl,rfl,rfl,by decide +kernel,rfl,by decide +kernel,by decide +kernel⟩
abbrev rD:Stmt:=top 6
theorem RY:bo ["wishes"] ["wishes"] (aq rD):=⟨rfl,rfl,rfl,by decide +kernel,rfl,by decide +kernel,by decide +kernel⟩
abbrev zc:Stmt:=top 7
theorem Bb:bo ["count","wishes","amounts","left","wish","amount"] ["count","wishes","amounts"] (aq zc):=⟨rfl,rfl,rfl,by decide +kernel,rfl,by decide +kernel,by decide +kernel⟩
abbrev qi:Stmt:=top 8
theorem QM:bo ["count","wishes","flow"] ["count","wishes","flow"] (aq qi):=⟨rfl,rfl,rfl,by decide +kernel,rfl,by decide +kernel,by decide +kernel⟩
abbrev jZ:Stmt:=AW (top 11) 0
theorem FJ:bo ["self","count","wishes","number","wish"] ["self","count","wishes"] (aq jZ):=⟨rfl,rfl,rfl,by decide +kernel,rfl,by decide +kernel,by decide +kernel⟩
abbrev zI:Stmt:=AW (top 11) 1
theorem T6:bo ["self","number"] ["self","number"] (aq zI):=⟨rfl,rfl,rfl,by decide +kernel,rfl,by decide +kernel,by decide +kernel⟩
abbrev zi:Stmt:=AW (top 11) 2
theorem Tr:bo ["self","number","point"] ["self","number","point"] (aq zi):=⟨rfl,rfl,rfl,by decide +kernel,rfl,by decide +kernel,by decide +kernel⟩
abbrev zt:Stmt:=top 12
theorem rh:bo ["layout","count","pushers","pushed","time"] ["layout"] (aq zt):=⟨rfl,rfl,rfl,by decide +kernel,rfl,by decide +kernel,by decide +kernel⟩
abbrev zz:Stmt:=top 13
theorem rK:bo ["layout","pushers","pushed","number","other","lacking"] ["layout","pushers"] (aq zz):=⟨rfl,rfl,rfl,by decide +kernel,rfl,by decide +kernel,by decide +kernel⟩
abbrev zw:Stmt:=top 14
theorem Ba:bo ["layout","pushers","point","time","ring"] ["layout","pushers","point"] (aq zw):=⟨rfl,rfl,rfl,by decide +kernel,rfl,by decide +kernel,by decide +kernel⟩
abbrev zE:Stmt:=top 15
theorem qV:bo ["layout","far","came_by","end","point","distance"] ["layout"] (aq zE):=⟨rfl,rfl,rfl,by decide +kernel,rfl,by decide +kernel,by decide +kernel⟩
abbrev rA:Stmt:=top 16
theorem yZ:bo ["layout","far","came_by","waiting","point","need"] ["layout","far","came_by"] (aq rA):=⟨rfl,rfl,rfl,by decide +kernel,rfl,by decide +kernel,by decide +kernel⟩
abbrev pU:Stmt:=top 17
theorem rQ:bo ["layout","point","far","waiting","came_by","steps","number","slack","neighbour","distance"] ["layout","point","far","waiting","came_by"] (aq pU):=⟨rfl,rfl,rfl,by decide +kernel,rfl,by decide +kernel,by decide +kernel⟩
abbrev zb:Stmt:=top 18
theorem A3:bo ["layout","came_by","end","steps","point"] ["layout","came_by","end"] (aq zb):=⟨rfl,rfl,rfl,by decide +kernel,rfl,by decide +kernel,by decide +kernel⟩
abbrev p6:Stmt:=top 19
theorem p0:bo ["layout","steps","end","last","start","back","amount","number","point"] ["layout","steps","end"] (aq p6):=⟨rfl,rfl,rfl,by decide +kernel,rfl,by decide +kernel,by decide +kernel⟩
abbrev qO:Stmt:=top 20
theorem rg:bo ["count","wishes","parts","wish","old","new"] ["count","wishes"] (aq qO):=⟨rfl,rfl,rfl,by decide +kernel,rfl,by decide +kernel,by decide +kernel⟩
abbrev rP:Stmt:=top 21
theorem A5:bo ["places","parts","least","place","part"] ["places","parts"] (aq rP):=⟨rfl,rfl,rfl,by decide +kernel,rfl,by decide +kernel,by decide +kernel⟩
abbrev yX:Stmt:=top 22
theorem LU:bo ["weights","worths"] ["weights"] (aq yX):=⟨rfl,rfl,rfl,by decide +kernel,rfl,by decide +kernel,by decide +kernel⟩
abbrev nH:Stmt:=top 23
theorem AX:bo ["count","wishes","layout","weights","worth"] ["count","wishes"] (aq nH):=⟨rfl,rfl,rfl,by decide +kernel,rfl,by decide +kernel,by decide +kernel⟩
abbrev zQ:Stmt:=top 27
theorem Sr:bo ["halves","gap","left","right"] ["halves","gap","left","right"] (aq zQ):=⟨rfl,rfl,rfl,by decide +kernel,rfl,by decide +kernel,by decide +kernel⟩
abbrev rj:Stmt:=top 28
theorem Gc:bo ["rows","found","row"] ["rows"] (aq rj):=⟨rfl,rfl,rfl,by decide +kernel,rfl,by decide +kernel,by decide +kernel⟩
abbrev rc:Stmt:=top 29
theorem QJ:bo ["rows","halves","gap","places"] ["rows","halves","gap","places"] (aq rc):=⟨rfl,rfl,rfl,by decide +kernel,rfl,by decide +kernel,by decide +kernel⟩
abbrev qS:Stmt:=top 30
theorem ST:bo ["lines","places"] ["lines","places"] (aq qS):=⟨rfl,rfl,rfl,by decide +kernel,rfl,by decide +kernel,by decide +kernel⟩
abbrev zj:Stmt:=top 31
theorem FX:bo ["rows","marks","row"] ["rows"] (aq zj):=⟨rfl,rfl,rfl,by decide +kernel,rfl,by decide +kernel,by decide +kernel⟩
abbrev pP:Stmt:=top 32
theorem qN:bo ["rows","halves","lines","gap","marks","numbers","wishes","helper","line"] ["rows","halves","lines","gap"] (aq pP):=⟨rfl,rfl,rfl,by decide +kernel,rfl,by decide +kernel,by decide +kernel⟩
abbrev zp:Stmt:=top 33
theorem FU:bo ["rows","halves","lines","gap","question","answer"] ["rows","halves","lines","gap"] (aq zp):=⟨rfl,rfl,rfl,by decide +kernel,rfl,by decide +kernel,by decide +kernel⟩
abbrev zS:Stmt:=top 35
theorem TK:bo ["_law_script","_law_k"] ["_law_script","_law_k"] (aq zS):=⟨rfl,rfl,rfl,by decide +kernel,rfl,by decide +kernel,by decide +kernel⟩
abbrev zN:Stmt:=top 36
theorem JQ:bo ["_law_cell","_law_k","_law_number"] ["_law_cell","_law_k"] (aq zN):=⟨rfl,rfl,rfl,by decide +kernel,rfl,by decide +kernel,by decide +kernel⟩
abbrev rT:Stmt:=top 37
theorem pG:bo ["_law_script","_law_first","_law_marks","_law_rows_here","_law_halves","_law_k","_law_mark"] ["_law_script"] (aq rT):=⟨rfl,rfl,rfl,by decide +kernel,rfl,by decide +kernel,by decide +kernel⟩
abbrev zO:Stmt:=top 38
theorem qZ:bo ["_law_cells","_law_marks","_law_lines_here","_law_cell","_law_one","_law_other","_law_weight"] ["_law_cells","_law_marks"] (aq zO):=⟨rfl,rfl,rfl,by decide +kernel,rfl,by decide +kernel,by decide +kernel⟩
abbrev zG:Stmt:=top 39
theorem la:bo ["_law_rows_here","_law_halves","_law_gap","_law_cell","_law_places","_law_k","_law_row","_law_at","_law_j","_law_mark","_law_far"] ["_law_rows_here","_law_halves","_law_gap","_law_cell"] (aq zG):=⟨rfl,rfl,rfl,by decide +kernel,rfl,by decide +kernel,by decide +kernel⟩
abbrev zq:Stmt:=top 40
theorem pM:bo ["_law_rows_here","_law_places","_law_cell","_law_found","_law_row","_law_step","_law_at","_law_mark"] ["_law_rows_here","_law_places","_law_cell"] (aq zq):=⟨rfl,rfl,rfl,by decide +kernel,rfl,by decide +kernel,by decide +kernel⟩
abbrev zh:Stmt:=top 41
theorem Q5:bo ["_law_rows_here","_law_halves","_law_lines_here","_law_gap","_law_other","_law_price"] ["_law_rows_here","_law_halves","_law_lines_here","_law_gap","_law_other","_law_price"] (aq zh):=⟨rfl,rfl,rfl,by decide +kernel,rfl,by decide +kernel,by decide +kernel⟩
abbrev nC:Stmt:=top 42
theorem g8:bo ["_law_script","_law_marks","_law_rows_here","_law_halves","_law_lines_here","_law_gap","_law_places","_law_flow","_law_price","_law_cell","_law_count","_law_wishes","_law_weights"] ["_law_script"] (aq nC):=⟨rfl,rfl,rfl,by decide +kernel,rfl,by decide +kernel,by decide +kernel⟩
def p7:Pos:=⟨88,33,88,69⟩
def pK:Str:=(("search":Str)++(".<locals>.":Str))++("<lambda>":Str)
structure Adr where
 DrawError:Addr
 TooMany:Addr
 NoFlow:Addr
 Ring:Addr
 Layout:Addr
 tb_search:Addr
structure Tx (K:PySem.W.Frag) (mg:Str->Option Value) (a:Adr):Prop where
 g_DrawError:mg "DrawError"=some (.ref a.DrawError)
 xb_DrawError:PySem.W.mroIn K a.DrawError (.type "BaseException")=some true
 xt_DrawError:PySem.W.typeIn K (.ref a.DrawError)=some (.type "type")
 g_TooMany:mg "TooMany"=some (.ref a.TooMany)
 xb_TooMany:PySem.W.mroIn K a.TooMany (.type "BaseException")=some true
 xt_TooMany:PySem.W.typeIn K (.ref a.TooMany)=some (.type "type")
 x_TooMany:XC0 K a.TooMany
 g_NoFlow:mg "NoFlow"=some (.ref a.NoFlow)
 xb_NoFlow:PySem.W.mroIn K a.NoFlow (.type "BaseException")=some true
 xt_NoFlow:PySem.W.typeIn K (.ref a.NoFlow)=some (.type "type")
 x_NoFlow:XC0 K a.NoFlow
 g_Ring:mg "Ring"=some (.ref a.Ring)
 xb_Ring:PySem.W.mroIn K a.Ring (.type "BaseException")=some true
 xt_Ring:PySem.W.typeIn K (.ref a.Ring)=some (.type "type")
 g_Layout:mg "Layout"=some (.ref a.Layout)
 c_Layout:Cls K a.Layout
 na_Layout_coming:gH K a.Layout "coming"
 na_Layout_flow:gH K a.Layout "flow"
 na_Layout_going:gH K a.Layout "going"
 na_Layout_leasts:gH K a.Layout "leasts"
 na_Layout_needs:gH K a.Layout "needs"
 na_Layout_ones:gH K a.Layout "ones"
 na_Layout_others:gH K a.Layout "others"
 na_Layout_places:gH K a.Layout "places"
 xi_Ring:XIni K mg a.Ring "Ring" "Ring.__init__" zm ["self","ring"]
 xs_Ring_ring:XSet K a.Ring "ring"
 xg_Ring_ring:XGet K a.Ring "ring"
 d_weights_of:Def K mg "weights_of" rD ["wishes"] []
 d_left_at_points:Def K mg "left_at_points" zc ["count","wishes","amounts"] []
 d_bound:Def K mg "bound" qi ["count","wishes","flow"] []
 i_Layout:Ini K mg a.Layout "Layout" "Layout.__init__" jZ ["self","count","wishes"]
 m_Layout_slack:Met K a.Layout "slack" "Layout.slack" zI ["self","number"] []
 m_Layout_end_across:Met K a.Layout "end_across" "Layout.end_across" zi ["self","number","point"] []
 d_fit:Def K mg "fit" zt ["layout"] []
 d_push_once:Def K mg "push_once" zz ["layout","pushers"] []
 d_ring_behind:Def K mg "ring_behind" zw ["layout","pushers","point"] []
 d_send_once:Def K mg "send_once" zE ["layout"] []
 d_search:Def K mg "search" rA ["layout","far","came_by"] []
 d_look_around:Def K mg "look_around" pU ["layout","point","far","waiting","came_by"] []
 d_way_back:Def K mg "way_back" zb ["layout","came_by","end"] []
 d_send_along:Def K mg "send_along" p6 ["layout","steps","end"] []
 d_parts_of:Def K mg "parts_of" qO ["count","wishes"] []
 d_from_nought:Def K mg "from_nought" rP ["places","parts"] []
 d_figure_worths:Def K mg "figure_worths" yX ["weights"] []
 d_laid:Def K mg "laid" nH ["count","wishes"] []
 d_apart:Def K mg "apart" zQ ["halves","gap","left","right"] []
 d_neighbours:Def K mg "neighbours" rj ["rows"] []
 d_keeps_gap:Def K mg "keeps_gap" rc ["rows","halves","gap","places"] []
 d_cost_of:Def K mg "cost_of" qS ["lines","places"] []
 d_marks_in_line:Def K mg "marks_in_line" zj ["rows"] []
 d_asked:Def K mg "asked" pP ["rows","halves","lines","gap"] []
 d_sideways:Def K mg "sideways" zp ["rows","halves","lines","gap"] []
 d__law_cell_at:Def K mg "_law_cell_at" zS ["_law_script","_law_k"] []
 d__law_mixed:Def K mg "_law_mixed" zN ["_law_cell","_law_k"] []
 d__law_rows:Def K mg "_law_rows" rT ["_law_script"] []
 d__law_lines:Def K mg "_law_lines" zO ["_law_cells","_law_marks"] []
 d__law_packed:Def K mg "_law_packed" zG ["_law_rows_here","_law_halves","_law_gap","_law_cell"] []
 d__law_moved:Def K mg "_law_moved" zq ["_law_rows_here","_law_places","_law_cell"] []
 d__law_less:Def K mg "_law_less" zh ["_law_rows_here","_law_halves","_law_lines_here","_law_gap","_law_other","_law_price"] []
 d_law:Def K mg "law" nC ["_law_script"] []
 k_BASE:∃ t,mg "BASE"=some (.int 16 t)
 k_MOST_LINES:∃ t,mg "MOST_LINES"=some (.int 40 t)
 k_MOST_MARKS:∃ t,mg "MOST_MARKS"=some (.int 40 t)
 lam_search:Lx K mg "search" a.tb_search
 n_abs:mg "abs"=none
 n_all:mg "all"=none
 n_any:mg "any"=none
 n_dict:mg "dict"=none
 n_enumerate:mg "enumerate"=none
 n_len:mg "len"=none
 n_list:mg "list"=none
 n_max:mg "max"=none
 n_min:mg "min"=none
 n_range:mg "range"=none
 n_sum:mg "sum"=none
 n_zip:mg "zip"=none
end K64
namespace K64
def itr {α:Type} (f:α->α):Nat->α->α
 | 0,a=>a
 | k + 1,a=>f (itr f k a)
theorem zd {α:Type} (f:α->α) (i:Nat) (a:α):∀ j,itr f (i + j) a=itr f j (itr f i a)
 | 0=>rfl
 | j + 1=>by
  show f (itr f (i + j) a)=f (itr f j (itr f i a));rw[zd f i a j]
theorem Ka:∀ (c:Nat) (f:Nat->Nat),(∀ i,i<=c->f i<c)->∃ i j,i<j/\j<=c/\f i=f j
 | 0,f,h=>absurd (h 0 (Vh _)) (Wj _)
 | c + 1,f,h=>by
  by_cases e:∃ i,i<=c/\f i=f (c + 1)
  ·obtain⟨i,hi,q⟩:=e
   exact⟨i,c + 1,by omega,Vh _,q⟩
  ·have ne:∀ i,i<=c->f i≠f (c + 1):=fun i hi q=>e ⟨i,hi,q⟩
   have hl:=h (c + 1) (Vh _);obtain⟨i,j,ij,jc,q⟩:=Ka c (fun i=>if f i=c then f (c + 1) else f i) fun i hi=>by
    have h1:=h i (by omega);have h2:=ne i hi;show(if f i=c then f (c + 1) else f i)<c;split <;> omega
   refine⟨i,j,ij,by omega,?_⟩;have n1:=ne i (by omega);have n2:=ne j jc;have q:(if f i=c then f (c + 1) else f i)=if f j=c then f (c + 1) else f j:=q;split at q <;> split at q <;> omega
structure Wn where
 c:Nat
 m:Nat
 on:Nat->Nat
 ot:Nat->Nat
 le:Nat->Int
structure Wn.Ok (N:Wn):Prop where
 on:∀ n,n<N.m->N.on n<N.c
 ot:∀ n,n<N.m->N.ot n<N.c
def slk (N:Wn) (P:Nat->Int) (n:Nat):Int:=P (N.ot n) - P (N.on n) - N.le n
def up {α:Type} (f:Nat->α) (k:Nat) (v:α):Nat->α:=fun i=>if i=k then v else f i
theorem aT {α:Type} (f:Nat->α) (k:Nat) (v:α):up f k v k=v:=if_pos rfl
theorem aG {α:Type} (f:Nat->α){k i:Nat} (v:α) (h:i≠k):up f k v i=f i:=if_neg h
def bk (N:Wn) (pu:Nat->Option Nat) (v:Nat):Nat:=match pu v with
 | some n=>N.on n
 | none=>v
def fz (N:Wn) (pu:Nat->Option Nat) (p:Nat):Nat->Int
 | 0=>0
 | k + 1=>fz N pu p k + (match pu (itr (bk N pu) k p) with
  | some n=>N.le n
  | none=>0)
def Rg (N:Wn) (pu:Nat->Option Nat):Prop:=∀ p k,0<k->(∀ i,i<k->(pu (itr (bk N pu) i p)).isSome=true)->itr (bk N pu) k p=p->0<fz N pu p k
structure Fi (N:Wn) (t:Nat->Nat) (P:Nat->Int) (pu:Nat->Option Nat):Prop where
 a:∀ v n,pu v=some n->n<N.m/\N.ot n=v/\P v<=P (N.on n) + N.le n
 b:Rg N pu
 c:∀ v,1<=t v->∃ n,pu v=some n/\t v<=t (N.on n) + 1
structure Rd (N:Wn) (t:Nat->Nat) (P:Nat->Int) (r k:Nat):Prop where
 g:∀ v,t v<=r
 d:∀ n,n<k->n<N.m->0<=slk N P n\/r<=t (N.on n)
 e:∀ n,k<=n->n<N.m->0<=slk N P n\/r<=t (N.on n) + 1
theorem Fi.start (N:Wn):Fi N (fun _=>0) (fun _=>0) (fun _=>none):=⟨fun v n h=>(by cases h),fun p k h1 h2=>absurd (h2 0 h1) (by decide),fun v h=>absurd h (by decide)⟩
theorem Rd.start (N:Wn) (P:Nat->Int):Rd N (fun _=>0) P 1 0:=⟨fun _=>VU _,fun n h=>absurd h (Wj _),fun n _ _=>.inr (by omega)⟩
theorem Rd.next {N:Wn}{t:Nat->Nat}{P:Nat->Int}{r:Nat} (h:Rd N t P r N.m):Rd N t P (r + 1) 0:=by
 refine⟨fun v=>Yo (h.g v),fun n h=>absurd h (Wj _),fun n _ hm=>?_⟩;rcases h.d n hm hm with q|q
 ·exact .inl q
 ·exact .inr (by omega)
theorem Rd.skip {N:Wn}{t:Nat->Nat}{P:Nat->Int}{r k:Nat} (h:Rd N t P r k) (s:0<=slk N P k):Rd N t P r (k + 1):=by
 refine⟨h.g,fun n h1 h2=>?_,fun n h1 h2=>h.e n (by omega) h2⟩;rcases Wc n k with q|q
 ·exact h.d n q h2
 ·obtain rfl:n=k:=by omega
  exact .inl s
theorem Lq {N:Wn}{pu:Nat->Option Nat}{P:Nat->Int}{p:Nat}:∀ k,(∀ i,i<k->∃ n,pu (itr (bk N pu) i p)=some n/\P (itr (bk N pu) i p)<=P (N.on n) + N.le n)->P p<=P (itr (bk N pu) k p) + fz N pu p k
 | 0,_=>by
  show P p<=P p + 0;omega
 | k + 1,h=>by
  have ih:=Lq k fun i hi=>h i (by omega)
  obtain⟨n,e,q⟩:=h k (by omega);have e2:itr (bk N pu) (k + 1) p=N.on n:=by
   show bk N pu (itr (bk N pu) k p)=_;unfold bk;unfold bk at e;rw[e]
  have e3:fz N pu p (k + 1)=fz N pu p k + N.le n:=by
   show fz N pu p k + _=_;rw[e]
  rw[e2,e3];omega
theorem Lg {N:Wn}{pu:Nat->Option Nat}{P:Nat->Int}{p j:Nat}:∀ k,j<k->(∀ i,i<k->∃ n,pu (itr (bk N pu) i p)=some n/\P (itr (bk N pu) i p)<=P (N.on n) + N.le n)->(∃ n,pu (itr (bk N pu) j p)=some n/\P (itr (bk N pu) j p)<P (N.on n) + N.le n)->P p<P (itr (bk N pu) k p) + fz N pu p k
 | 0,hj,_,_=>absurd hj (Wj _)
 | k + 1,hj,h,s=>by
  obtain⟨n,e,q⟩:=h k (by omega);have e2:itr (bk N pu) (k + 1) p=N.on n:=by
   show bk N pu (itr (bk N pu) k p)=_;unfold bk;unfold bk at e;rw[e]
  have e3:fz N pu p (k + 1)=fz N pu p k + N.le n:=by
   show fz N pu p k + _=_;rw[e]
  rw[e2,e3];by_cases c:j<k
  ·have ih:=Lg k c (fun i hi=>h i (by omega)) s
   omega
  ·obtain rfl:j=k:=by omega
   obtain⟨n',e',q'⟩:=s;rw[e] at e';cases e'
   have:=Lq j fun i hi=>h i (by omega)
   omega
section
variable {N:Wn}{t:Nat->Nat}{P:Nat->Int}{pu:Nat->Option Nat}{r k:Nat}
theorem F9 (s:slk N P k<0) (w:Nat):P w<=up P (N.ot k) (P (N.ot k) + (0 - slk N P k)) w:=by
 unfold up;split
 ·rename_i e
  rw[e];omega
 ·omega
theorem up_t (g:∀ v,t v<=r) (w:Nat):t w<=up t (N.ot k) r w:=by
 unfold up;split
 ·exact g w
 ·exact Vh _
theorem SG (f:Fi N t P pu) (h:Rd N t P r k) (hk:k<N.m) (s:slk N P k<0):Fi N (up t (N.ot k) r) (up P (N.ot k) (P (N.ot k) + (0 - slk N P k))) (up pu (N.ot k) (some k)):=by
 refine⟨fun w n e=>?_,fun p k' h0 hs hc=>?_,fun w hw=>?_⟩
 ·by_cases c:w=N.ot k
  ·subst c
   rw[aT] at e;cases e
   refine⟨hk,rfl,?_⟩;rw[aT];have:=F9 s (N.on k);unfold slk at this ⊢;omega
  ·rw[aG _ _ c] at e
   obtain⟨a1,a2,a3⟩:=f.a w n e;refine⟨a1,a2,?_⟩;rw[aG _ _ c];have:=F9 s (N.on n);omega
 ·have old:∀ i,i<k'->∃ n,up pu (N.ot k) (some k) (itr (bk N (up pu (N.ot k) (some k))) i p)=some n/\P (itr (bk N (up pu (N.ot k) (some k))) i p)<=P (N.on n) + N.le n:=fun i hi=>by
   obtain⟨n,e⟩:=Option.isSome_iff_exists.mp (hs i hi);refine⟨n,e,?_⟩;generalize itr (bk N (up pu (N.ot k) (some k))) i p=w at e;by_cases c:w=N.ot k
   ·subst c
    rw[aT] at e;cases e
    unfold slk at s;omega
   ·rw[aG _ _ c] at e
    exact(f.a w n e).2.2
  by_cases c:∃ j,j<k'/\itr (bk N (up pu (N.ot k) (some k))) j p=N.ot k
  ·obtain⟨j,hj,e⟩:=c
   have z:=Lg k' hj old ⟨k,by rw[e,aT],by
    rw[e];unfold slk at s;omega⟩
   rw[hc] at z;omega
  ·have ne:∀ i,i<k'->itr (bk N (up pu (N.ot k) (some k))) i p≠N.ot k:=fun i hi e=>c ⟨i,hi,e⟩
   have same:∀ i,i<=k'->itr (bk N (up pu (N.ot k) (some k))) i p=itr (bk N pu) i p/\fz N (up pu (N.ot k) (some k)) p i=fz N pu p i:=fun i=>by
    induction i with
    | zero=>exact fun _=>⟨rfl,rfl⟩
    | succ i ih=>
     intro hi;obtain⟨e1,e2⟩:=ih (by omega);have n1:=ne i (by omega);rw[e1] at n1
     constructor
     ·show bk N (up pu (N.ot k) (some k)) (itr (bk N (up pu (N.ot k) (some k))) i p)=bk N pu (itr (bk N pu) i p)
      rw[e1];unfold bk at n1 ⊢;rw[aG _ _ n1]
     ·show fz N (up pu (N.ot k) (some k)) p i + _=fz N pu p i + _
      rw[e1,e2,aG _ _ n1]
   rw[(same k' (Vh _)).2];refine f.b p k' h0 (fun i hi=>?_) ?_
   ·have:=hs i hi
    have n1:=ne i hi;rw[(same i (by omega)).1] at this n1;rw[aG _ _ n1] at this;exact this
   ·rw[<- (same k' (Vh _)).1]
    exact hc
 ·by_cases c:w=N.ot k
  ·subst c
   refine⟨k,aT _ _ _,?_⟩;rw[aT];rcases h.e k (Vh _) hk with q|q
   ·omega
   ·have:=up_t (N:=N) (k:=k) h.g (N.on k)
    omega
  ·rw[aG _ _ c] at hw
   obtain⟨n,e1,e2⟩:=f.c w hw;refine⟨n,by rw[aG _ _ c];exact e1,?_⟩;rw[aG t r c];have:=up_t (N:=N) (k:=k) h.g (N.on n);omega
theorem Kq (s:slk N P k<0) (n:Nat) (c:N.on n≠N.ot k):slk N P n<=slk N (up P (N.ot k) (P (N.ot k) + (0 - slk N P k))) n:=by
 have:=F9 s (N.ot n);generalize e:slk N P k=z at this s;unfold slk;rw[aG _ _ c];omega
theorem RT (h:Rd N t P r k) (s:slk N P k<0):Rd N (up t (N.ot k) r) (up P (N.ot k) (P (N.ot k) + (0 - slk N P k))) r (k + 1):=by
 refine⟨fun w=>?_,fun n h1 h2=>?_,fun n h1 h2=>?_⟩
 ·unfold up
  split
  ·exact Vh _
  ·exact h.g w
 ·by_cases c:N.on n=N.ot k
  ·right
   rw[c,aT];exact Vh _
  ·rcases Wc n k with q|q
   ·rcases h.d n q h2 with z|z
    ·left
     have:=Kq s n c;omega
    ·right
     rw[aG _ _ c];exact z
   ·obtain rfl:n=k:=by omega
    left
    have e:slk N (up P (N.ot n) (P (N.ot n) + (0 - slk N P n))) n=0:=by
     generalize ez:slk N P n=z;unfold slk at ez ⊢;rw[aG _ _ c,aT];omega
    omega
 ·by_cases c:N.on n=N.ot k
  ·right
   rw[c,aT];omega
  ·rcases h.e n (by omega) h2 with z|z
   ·left
    have:=Kq s n c;omega
   ·right
    rw[aG _ _ c];exact z
theorem R4 (ok:N.Ok) (f:Fi N t P pu){v:Nat} (ht:N.c<=t v) (hv:v<N.c):(∀ i,(pu (itr (bk N pu) i v)).isSome=true)/\∃ d,0<d/\d<=N.c/\itr (bk N pu) d (itr (bk N pu) N.c v)=itr (bk N pu) N.c v:=by
 have st:∀ w n,pu w=some n->bk N pu w=N.on n:=fun w n e=>by unfold bk;rw[e]
 have tt:∀ i,i<=N.c->N.c<=t (itr (bk N pu) i v) + i:=fun i=>by
  induction i with
  | zero=>exact fun _=>ht
  | succ i ih=>
   intro hi;have q:=ih (by omega);obtain⟨n,e1,e2⟩:=f.c _ (show 1<=t (itr (bk N pu) i v) by omega);show N.c<=t (bk N pu (itr (bk N pu) i v)) + (i + 1);rw[st _ _ e1];omega
 have pd:∀ i,i<N.c->∃ n,pu (itr (bk N pu) i v)=some n:=fun i hi=>by
  have q:=tt i (by omega);obtain⟨n,e1,_⟩:=f.c _ (show 1<=t (itr (bk N pu) i v) by omega);exact⟨n,e1⟩
 have lt:∀ i,i<=N.c->itr (bk N pu) i v<N.c:=fun i hi=>by
  cases i with
  | zero=>exact hv
  | succ i=>
   obtain⟨n,e⟩:=pd i (by omega);show bk N pu (itr (bk N pu) i v)<N.c;rw[st _ _ e];exact ok.on n (f.a _ _ e).1
 obtain⟨i,j,ij,jc,q⟩:=Ka N.c (fun i=>itr (bk N pu) i v) lt;have q:itr (bk N pu) i v=itr (bk N pu) j v:=q;have GF:∀ s,j<=s->itr (bk N pu) s v=itr (bk N pu) (s - (j - i)) v:=fun s hs=>by
  have e1:s=j + (s - j):=by omega
  have e2:s - (j - i)=i + (s - j):=by omega
  rw[e2,zd,q,<- zd,<- e1]
 refine⟨fun s=>?_,j - i,by omega,by omega,?_⟩
 ·induction s using Nat.strongRecOn with
  | ind s ih=>
   by_cases c:s<N.c
   ·obtain⟨n,e⟩:=pd s c
    rw[e];rfl
   ·rw[GF s (by omega)]
    exact ih _ (by omega)
 ·rw[<- zd,GF (N.c + (j - i)) (by omega)]
  congr 1;omega
end
end K64
namespace K64
def sm (f:Nat->Int):Nat->Int
 | 0=>0
 | n + 1=>sm f n + f n
theorem cT {f g:Nat->Int}:∀ n,(∀ i,i<n->f i=g i)->sm f n=sm g n
 | 0,_=>rfl
 | n + 1,h=>by
  show sm f n + f n=sm g n + g n;rw[cT n fun i hi=>h i (by omega),h n (by omega)]
theorem pC:∀ n,sm (fun _=>0) n=0
 | 0=>rfl
 | n + 1=>by
  show sm (fun _=>0) n + 0=0;rw[pC n];rfl
theorem ra (f g:Nat->Int):∀ n,sm (fun i=>f i + g i) n=sm f n + sm g n
 | 0=>rfl
 | n + 1=>by
  show sm (fun i=>f i + g i) n + (f n + g n)=sm f n + f n + (sm g n + g n);rw[ra f g n];omega
theorem lu (f g:Nat->Int):∀ n,sm (fun i=>f i - g i) n=sm f n - sm g n
 | 0=>rfl
 | n + 1=>by
  show sm (fun i=>f i - g i) n + (f n - g n)=sm f n + f n - (sm g n + g n);rw[lu f g n];omega
theorem Ft (k:Int) (f:Nat->Int):∀ n,sm (fun i=>k * f i) n=k * sm f n
 | 0=>(Int.mul_zero k).symm
 | n + 1=>by
  show sm (fun i=>k * f i) n + k * f n=k * (sm f n + f n);rw[Ft k f n,Yu]
theorem FH (f:Nat->Nat->Int) (m:Nat):∀ n,sm (fun i=>sm (f i) m) n=sm (fun j=>sm (fun i=>f i j) n) m
 | 0=>(pC m).symm
 | n + 1=>by
  show sm (fun i=>sm (f i) m) n + sm (f n) m=sm (fun j=>sm (fun i=>f i j) n + f n j) m;rw[FH f m n,ra]
theorem zP {f:Nat->Int}:∀ n,(∀ i,i<n->0<=f i)->0<=sm f n
 | 0,_=>V1 _
 | n + 1,h=>by
  have:=zP n fun i hi=>h i (by omega)
  have:=h n (by omega);show 0<=sm f n + f n;omega
theorem rq (k:Nat) (v:Int):∀ n,sm (fun i=>if i=k then v else 0) n=if k<n then v else 0
 | 0=>rfl
 | n + 1=>by
  show sm (fun i=>if i=k then v else 0) n + (if n=k then v else 0)=_;rw[rq k v n];by_cases c1:k<n
  ·rw[if_pos c1,if_neg (by omega),if_pos (by omega)]
   omega
  ·by_cases c2:n=k
   ·rw[if_neg c1,if_pos c2,if_pos (by omega)]
    omega
   ·rw[if_neg c1,if_neg c2,if_neg (by omega)]
    omega
theorem Bf {f:Nat->Int}{k:Nat}:∀ n,(∀ i,i<n->f i<=0)->k<n->f k<0->sm f n<0
 | 0,_,h,_=>absurd h (Wj _)
 | n + 1,h,hk,hf=>by
  show sm f n + f n<0;have:=h n (by omega);have nn:sm f n<=0:=by
   have:=zP (f:=fun i=>0 - f i) n fun i hi=>by
    have:=h i (by omega);omega
   rw[lu,pC] at this;omega
  by_cases c:k<n
  ·have:=Bf n (fun i hi=>h i (by omega)) c hf
   omega
  ·obtain rfl:k=n:=by omega
   omega
def bal (N:Wn) (a:Nat->Int) (p:Nat):Int:=sm (fun n=>(if N.ot n=p then a n else 0) - (if N.on n=p then a n else 0)) N.m
theorem pick (S:Nat->Bool){q c:Nat} (hq:q<c) (x:Int):sm (fun p=>if S p=true then(if q=p then x else 0) else 0) c=if S q=true then x else 0:=by
 have e:sm (fun p=>if S p=true then(if q=p then x else 0) else 0) c=sm (fun p=>if p=q then(if S q=true then x else 0) else 0) c:=cT c fun p _=>by
  by_cases h:p=q
  ·subst h
   simp
  ·rw[if_neg h,if_neg (show ¬ q=p from fun z=>h z.symm)]
   simp
 rw[e,rq,if_pos hq]
theorem Bg {N:Wn} (ok:N.Ok) (a:Nat->Int) (S:Nat->Bool):sm (fun p=>if S p=true then bal N a p else 0) N.c=sm (fun n=>(if S (N.ot n)=true then a n else 0) - (if S (N.on n)=true then a n else 0)) N.m:=by
 have e:sm (fun p=>if S p=true then bal N a p else 0) N.c=sm (fun p=>sm (fun n=>if S p=true then((if N.ot n=p then a n else 0) - (if N.on n=p then a n else 0)) else 0) N.m) N.c:=cT _ fun p _=>by
  by_cases h:S p=true
  ·rw[if_pos h]
   unfold bal;exact cT _ fun n _=>(if_pos h).symm
  ·rw[if_neg h]
   refine(pC N.m).symm.trans (cT _ fun n _=>(if_neg h).symm)
 rw[e,FH];refine cT _ fun n hn=>?_
 have e2:sm (fun p=>if S p=true then((if N.ot n=p then a n else 0) - (if N.on n=p then a n else 0)) else 0) N.c=sm (fun p=>(if S p=true then(if N.ot n=p then a n else 0) else 0) - (if S p=true then(if N.on n=p then a n else 0) else 0)) N.c:=cT _ fun p _=>by
  by_cases h:S p=true <;> simp[h]
 rw[e2,lu,pick S (ok.ot n hn),pick S (ok.on n hn)]
theorem cut {N:Wn} (ok:N.Ok){w fl nd:Nat->Int} (hw:∀ n,n<N.m->0<=w n) (hnd:∀ p,p<N.c->nd p=bal N w p - bal N fl p) (hf:∀ n,n<N.m->0<=fl n) (S:Nat->Bool)
  (h1:∀ n,n<N.m->S (N.on n)=true->S (N.ot n)=true) (h2:∀ n,n<N.m->S (N.ot n)=true->0<fl n->S (N.on n)=true):0<=sm (fun p=>if S p=true then nd p else 0) N.c:=by
 have e:sm (fun p=>if S p=true then nd p else 0) N.c=sm (fun p=>(if S p=true then bal N w p else 0) - (if S p=true then bal N fl p else 0)) N.c:=cT _ fun p hp=>by
  by_cases h:S p=true
  ·rw[if_pos h,if_pos h,if_pos h,hnd p hp]
  ·rw[if_neg h,if_neg h,if_neg h]
   rfl
 rw[e,lu,Bg ok,Bg ok,<- lu];refine zP _ fun n hn=>?_
 have a1:=h1 n hn;have a2:=h2 n hn;have a3:=hw n hn;have a4:=hf n hn;by_cases c1:S (N.on n)=true
 ·rw[if_pos (a1 c1),if_pos (a1 c1),if_pos c1,if_pos c1]
  omega
 ·by_cases c2:S (N.ot n)=true
  ·rw[if_pos c2,if_pos c2,if_neg c1,if_neg c1]
   have:¬ 0<fl n:=fun z=>c1 (a2 c2 z)
   omega
  ·rw[if_neg c2,if_neg c2,if_neg c1,if_neg c1]
   omega
theorem KU {N:Wn} (ok:N.Ok){w fl nd:Nat->Int} (hnd:∀ p,p<N.c->nd p=bal N w p - bal N fl p):sm nd N.c=0:=by
 have e:sm nd N.c=sm (fun p=>(if (fun _=>true) p=true then bal N w p else 0) - (if (fun _=>true) p=true then bal N fl p else 0)) N.c:=cT _ fun p hp=>by
  rw[if_pos rfl,if_pos rfl,hnd p hp]
 rw[e,lu,Bg ok,Bg ok,<- lu,<- pC N.m];refine cT _ fun n _=>?_
 simp
theorem T8 {N:Wn} (ok:N.Ok){w fl nd:Nat->Int} (hnd:∀ p,p<N.c->nd p=bal N w p - bal N fl p){k:Nat} (hk:k<N.c) (pos:0<nd k):∃ p,p<N.c/\nd p<0:=by
 by_cases c:∃ p,p<N.c/\nd p<0
 ·exact c
 ·exfalso
  have z:=KU ok hnd;have q:=Bf (f:=fun p=>0 - nd p) (k:=k) N.c (fun i hi=>by
   have:¬ nd i<0:=fun z=>c ⟨i,hi,z⟩
   omega) hk (by omega)
  rw[lu,pC,z] at q;omega
def Arc (N:Wn) (P fl:Nat->Int) (q p n:Nat) (d:Int):Prop:=n<N.m/\((N.on n=q/\N.ot n=p/\d=slk N P n)\/(N.ot n=q/\N.on n=p/\0<fl n/\d=0))
structure Ti (N:Wn) (P fl:Nat->Int):Prop where
 s:∀ n,n<N.m->0<=slk N P n
 f:∀ n,n<N.m->0<=fl n
 t:∀ n,n<N.m->0<fl n->slk N P n=0
theorem Arc.nn {N:Wn}{P fl:Nat->Int}{q p n:Nat}{d:Int} (h:Ti N P fl) (a:Arc N P fl q p n d):0<=d:=by
 obtain⟨hn,⟨_,_,rfl⟩|⟨_,_,_,rfl⟩⟩:=a
 ·exact h.s n hn
 ·exact V1 _
theorem Arc.lt {N:Wn}{P fl:Nat->Int}{q p n:Nat}{d:Int} (ok:N.Ok) (a:Arc N P fl q p n d):p<N.c:=by
 obtain⟨hn,⟨_,rfl,_⟩|⟨_,rfl,_⟩⟩:=a
 ·exact ok.ot n hn
 ·exact ok.on n hn
structure Se (N:Wn) (P fl nd:Nat->Int) (far wt:Nat->Option Int) (cm:Nat->Option Nat) (rk:Nat->Nat) (size:Nat) (Lk:Nat->Nat->Int->Prop):Prop where
 dj:∀ p a,far p=some a->wt p=none
 lo:∀ p a q b,far p=some a->wt q=some b->a<=b
 nn:∀ p a,far p=some a\/wt p=some a->0<=a/\p<N.c
 ro:∀ p,p<N.c->nd p<0->(far p=some 0\/wt p=some 0)/\cm p=none
 cb:∀ p a,far p=some a\/wt p=some a->¬ nd p<0->∃ n q d b,cm p=some n/\Arc N P fl q p n d/\far q=some b/\a=b + d/\q≠p/\(far p=some a->rk q<rk p)
 ck:∀ p n,cm p=some n->∃ a,far p=some a\/wt p=some a
 rk:∀ p a,far p=some a->rk p<size
 ar:∀ q n d p a,Arc N P fl q p n d->Lk q n d->far q=some a->∃ b,(far p=some b\/wt p=some b)/\b<=a + d
section
variable {N:Wn}{P fl nd:Nat->Int}{far wt:Nat->Option Int}{cm:Nat->Option Nat}{rk:Nat->Nat}{size:Nat}{Lk:Nat->Nat->Int->Prop}
theorem Se.start {wt:Nat->Option Int} (h:∀ p,wt p=if p<N.c/\nd p<0 then some 0 else none) (rk:Nat->Nat) (Lk:Nat->Nat->Int->Prop):Se N P fl nd (fun _=>none) wt (fun _=>none) rk 0 Lk:=by
 have z:∀ p a,wt p=some a->a=0/\p<N.c/\nd p<0:=fun p a e=>by
  rw[h p] at e;split at e
  ·cases e
   exact⟨rfl,by assumption⟩
  ·cases e
 refine⟨fun p a e=>(by cases e),fun p a q b e=>(by cases e),fun p a e=>?_,fun p h1 h2=>⟨.inr ?_,rfl⟩,fun p a e ne=>?_,fun p n e=>(by cases e),fun p a e=>(by cases e),fun q n d p a _ _ e=>(by cases e)⟩
 ·rcases e with e|e
  ·cases e
  ·obtain⟨rfl,h1,_⟩:=z p a e
   exact⟨V1 _,h1⟩
 ·rw[h p,if_pos ⟨h1,h2⟩]
 ·rcases e with e|e
  ·cases e
  ·exact absurd (z p a e).2.2 ne
theorem Se.pop {x:Nat}{a:Int} (h:Se N P fl nd far wt cm rk size fun q _ _=>far q≠none) (hx:wt x=some a) (mn:∀ q b,wt q=some b->a<=b) :
  Se N P fl nd (up far x (some a)) (up wt x none) cm (up rk x size) (size + 1) (fun q _ _=>far q≠none)/\(∀ q b,up far x (some a) q=some b->b<=a)/\far x=none:=by
 have fx:far x=none:=by
  cases e:far x with
  | none=>rfl
  | some b=>
   have:=h.dj x b e;rw[hx] at this;cases this
 have nx:∀ q b,far q=some b->q≠x:=fun q b e z=>by
  rw[z,fx] at e;cases e
 have val:∀ p b,up far x (some a) p=some b\/up wt x none p=some b->far p=some b\/wt p=some b:=fun p b e=>by
  by_cases c:p=x
  ·subst c
   rw[aT,aT] at e;rcases e with e|e
   ·cases e
    exact .inr hx
   ·cases e
  ·rw[aG _ _ c,aG _ _ c] at e
   exact e
 have oK:∀ p b,far p=some b\/wt p=some b->up far x (some a) p=some b\/up wt x none p=some b:=fun p b e=>by
  by_cases c:p=x
  ·subst c
   rw[aT];rw[fx,hx] at e;rcases e with e|e
   ·cases e
   ·cases e
    exact .inl rfl
  ·rw[aG _ _ c,aG _ _ c]
   exact e
 refine⟨⟨fun p b e=>?_,fun p b q b' e e'=>?_,fun p b e=>h.nn p b (val p b e),fun p h1 h2=>?_,fun p b e ne=>?_,fun p n e=>?_,fun p b e=>?_,fun q n d p b A L e=>?_⟩,fun q b e=>?_,fx⟩
 ·by_cases c:p=x
  ·rw[c,aT]
  ·rw[aG _ _ c] at e ⊢
   exact h.dj p b e
 ·by_cases c':q=x
  ·rw[c',aT] at e'
   cases e'
  ·rw[aG _ _ c'] at e'
   by_cases c:p=x
   ·rw[c,aT] at e
    cases e
    exact mn q b' e'
   ·rw[aG _ _ c] at e
    exact h.lo p b q b' e e'
 ·obtain⟨r1,r2⟩:=h.ro p h1 h2
  exact⟨oK p 0 r1,r2⟩
 ·obtain⟨n,q,d,b',e1,e2,e3,e4,e5,e6⟩:=h.cb p b (val p b e) ne
  have nq:=nx q b' e3;refine⟨n,q,d,b',e1,e2,by rw[aG _ _ nq];exact e3,e4,e5,fun ep=>?_⟩;rw[aG rk size nq];by_cases c:p=x
  ·rw[c,aT]
   exact h.rk q b' e3
  ·rw[aG _ _ c] at ep ⊢
   exact e6 ep
 ·obtain⟨b,e1⟩:=h.ck p n e
  exact⟨b,oK p b e1⟩
 ·by_cases c:p=x
  ·rw[c,aT]
   omega
  ·rw[aG _ _ c] at e ⊢
   have:=h.rk p b e;omega
 ·have nq:q≠x:=fun z=>L (by rw[z];exact fx)
  rw[aG _ _ nq] at e;obtain⟨b',e1,e2⟩:=h.ar q n d p b A L e;exact⟨b',oK p b' e1,e2⟩
 ·by_cases c:q=x
  ·rw[c,aT] at e
   cases e
   exact V1 _
  ·rw[aG _ _ c] at e
   exact h.lo q b x a e hx
theorem Se.keep {x n p:Nat}{a d:Int} (ti:Ti N P fl) (h:Se N P fl nd far wt cm rk size Lk) (hx:far x=some a) (mx:∀ q b,far q=some b->b<=a) (A:Arc N P fl x p n d)
  (st:(∃ b,far p=some b)\/∃ b,wt p=some b/\b<=a + d){Lk':Nat->Nat->Int->Prop} (hl:∀ q n' d',Lk' q n' d'->Lk q n' d'\/(q=x/\n'=n/\d'=d)) (ta:∀ p',Arc N P fl x p' n d->p'=p):Se N P fl nd far wt cm rk size Lk':=by
 refine⟨h.dj,h.lo,h.nn,h.ro,h.cb,h.ck,h.rk,fun q n' d' p' b A' L e=>?_⟩;rcases hl q n' d' L with l|⟨rfl,rfl,rfl⟩
 ·exact h.ar q n' d' p' b A' l e
 ·rw[hx] at e
  cases e
  obtain rfl:=ta p' A';rcases st with⟨b,e1⟩|⟨b,e1,e2⟩
  ·have:=mx p' b e1
   have:=A.nn ti;exact⟨b,.inl e1,by omega⟩
  ·exact⟨b,.inr e1,e2⟩
theorem Se.near {x n p:Nat}{a d:Int} (ok:N.Ok) (ti:Ti N P fl) (h:Se N P fl nd far wt cm rk size Lk) (hx:far x=some a) (mx:∀ q b,far q=some b->b<=a) (A:Arc N P fl x p n d)
  (fp:far p=none) (st:∀ b,wt p=some b->a + d<b){Lk':Nat->Nat->Int->Prop} (hl:∀ q n' d',Lk' q n' d'->Lk q n' d'\/(q=x/\n'=n/\d'=d)) (ta:∀ p',Arc N P fl x p' n d->p'=p) :
  Se N P fl nd far (up wt p (some (a + d))) (up cm p (some n)) rk size Lk':=by
 have dn:=A.nn ti;have an:=(h.nn x a (.inl hx)).1;have Mx:x≠p:=fun z=>by
  rw[z,fp] at hx;cases hx
 refine⟨fun q b e=>?_,fun q b q' b' e e'=>?_,fun q b e=>?_,fun q h1 h2=>?_,fun q b e ne=>?_,fun q n' e=>?_,h.rk,fun q n' d' p' b A' L e=>?_⟩
 ·have c:q≠p:=fun z=>by
   rw[z,fp] at e;cases e
  rw[aG _ _ c];exact h.dj q b e
 ·by_cases c:q'=p
  ·rw[c,aT] at e'
   cases e'
   have:=mx q b e;omega
  ·rw[aG _ _ c] at e'
   exact h.lo q b q' b' e e'
 ·by_cases c:q=p
  ·rw[c,aT,fp] at e
   rcases e with e|e
   ·cases e
   ·cases e
    rw[c];exact⟨by omega,A.lt ok⟩
  ·rw[aG _ _ c] at e
   exact h.nn q b e
 ·obtain⟨r1,r2⟩:=h.ro q h1 h2
  have c:q≠p:=fun z=>by
   rw[z,fp] at r1;rcases r1 with r1|r1
   ·cases r1
   ·have:=st 0 r1
    omega
  rw[aG _ _ c,aG _ _ c];exact⟨r1,r2⟩
 ·by_cases c:q=p
  ·rw[c,aT,fp] at e
   rcases e with e|e
   ·cases e
   ·cases e
    rw[c];exact⟨n,x,d,a,aT _ _ _,A,hx,rfl,Mx,fun z=>by rw[fp] at z;cases z⟩
  ·rw[aG _ _ c] at e
   obtain⟨n',q',d',b',e1,e2⟩:=h.cb q b e ne;exact⟨n',q',d',b',by rw[aG _ _ c];exact e1,e2⟩
 ·by_cases c:q=p
  ·rw[c,aT]
   exact⟨a + d,.inr rfl⟩
  ·rw[aG _ _ c] at e ⊢
   exact h.ck q n' e
 ·have aO:∀ b',(far p'=some b'\/wt p'=some b')->b'<=b + d'->∃ Cd,(far p'=some Cd\/up wt p (some (a + d)) p'=some Cd)/\Cd<=b + d':=fun b' e1 e2=>by
   by_cases c:p'=p
   ·rw[c,fp] at e1
    rcases e1 with e1|e1
    ·cases e1
    ·have:=st b' e1
     exact⟨a + d,.inr (by rw[c,aT]),by omega⟩
   ·exact⟨b',by rw[aG _ _ c];exact e1,e2⟩
  rcases hl q n' d' L with l|⟨rfl,rfl,rfl⟩
  ·obtain⟨b',e1,e2⟩:=h.ar q n' d' p' b A' l e
   exact aO b' e1 e2
  ·rw[hx] at e
   cases e
   obtain rfl:=ta p' A';exact⟨a + d',.inr (aT _ _ _),V1 _⟩
theorem Se.more (ok:N.Ok){w:Nat->Int} (hw:∀ n,n<N.m->0<=w n) (hnd:∀ p,p<N.c->nd p=bal N w p - bal N fl p) (ti:Ti N P fl) (h:Se N P fl nd far wt cm rk size fun q _ _=>far q≠none)
  (np:∀ p a,far p=some a->nd p<=0){k:Nat} (hk:k<N.c) (pos:0<nd k):∃ p a,wt p=some a:=by
 by_cases c:∃ p a,wt p=some a
 ·exact c
 ·exfalso
  have nw:∀ p a,wt p=some a->False:=fun p a e=>c ⟨p,a,e⟩
  obtain⟨r,hr,vj⟩:=T8 ok hnd hk pos;have cl:∀ q p n d,Arc N P fl q p n d->(far q).isSome=true->(far p).isSome=true:=fun q p n d A e=>by
   obtain⟨a,e⟩:=Option.isSome_iff_exists.mp e;obtain⟨b,e1,_⟩:=h.ar q n d p a A (by rw[e];exact fun z=>by cases z) e;rcases e1 with e1|e1
   ·rw[e1]
    rfl
   ·exact(nw _ _ e1).elim
  have z:=cut ok hw hnd ti.f (fun p=>(far p).isSome) (fun n hn e=>cl _ _ n _ ⟨hn,.inl ⟨rfl,rfl,rfl⟩⟩ e) (fun n hn e f=>cl _ _ n 0 ⟨hn,.inr ⟨rfl,rfl,f,rfl⟩⟩ e);have y:=Bf (f:=fun p=>if (far p).isSome=true then nd p else 0) (k:=r) N.c (fun i _=>by
   by_cases e:(far i).isSome=true
   ·obtain⟨a,e'⟩:=Option.isSome_iff_exists.mp e
    rw[if_pos e];exact np i a e'
   ·rw[if_neg e]
    exact V1 _) hr (by
   have e:(far r).isSome=true:=by
    rcases(h.ro r hr vj).1 with e|e
    ·rw[e]
     rfl
    ·exact(nw _ _ e).elim
   rw[if_pos e];exact vj)
  omega
def mv (P:Nat->Int) (far:Nat->Option Int) (D:Int) (p:Nat):Int:=match far p with
 | some b=>P p + (D - b)
 | none=>P p
theorem Se.moved {x:Nat}{D:Int} (ti:Ti N P fl) (h:Se N P fl nd far wt cm rk size fun q _ _=>q≠x/\far q≠none) (hx:far x=some D) (mx:∀ q b,far q=some b->b<=D) (wl:∀ q b,wt q=some b->D<=b):Ti N (mv P far D) fl:=by
 have Ik:∀ q p n d,Arc N P fl q p n d->q≠x->∀ a,far q=some a->(∃ b,far p=some b/\b<=a + d)\/(D<=a + d/\far p=none):=fun q p n d A ne a e=>by
  obtain⟨b,e1,e2⟩:=h.ar q n d p a A ⟨ne,by rw[e];exact fun z=>by cases z⟩ e;rcases e1 with e1|e1
  ·exact .inl ⟨b,e1,e2⟩
  ·have:=wl p b e1
   refine .inr ⟨by omega,?_⟩;cases e3:far p with
   | none=>rfl
   | some z=>
    rw[h.dj p z e3] at e1;cases e1
 have qz:∀ p b,far p=some b->mv P far D p=P p + (D - b):=fun p b e=>by unfold mv;rw[e]
 have CW:∀ p,far p=none->mv P far D p=P p:=fun p e=>by unfold mv;rw[e]
 have GI:∀ p,P p<=mv P far D p:=fun p=>by
  cases e:far p with
  | none=>rw[CW p e];exact V1 _
  | some b=>
   rw[qz p b e];have:=mx p b e;omega
 have IW:mv P far D x=P x:=by rw[qz x D hx];omega
 have sl:∀ n,n<N.m->0<=slk N (mv P far D) n:=fun n hn=>by
  have s0:=ti.s n hn;have g:=GI (N.ot n);unfold slk at s0 ⊢;by_cases c:N.on n=x
  ·rw[c,IW]
   rw[c] at s0;omega
  ·cases e:far (N.on n) with
   | none=>
    rw[CW _ e];omega
   | some a=>
    rw[qz _ _ e];rcases Ik (N.on n) (N.ot n) n _ ⟨hn,.inl ⟨rfl,rfl,rfl⟩⟩ c a e with⟨b,e1,e2⟩|⟨e1,e2⟩
    ·rw[qz _ _ e1]
     unfold slk at e2;omega
    ·unfold slk at e1
     omega
 refine⟨sl,ti.f,fun n hn f=>?_⟩;have t0:=ti.t n hn f;have s1:=sl n hn;have:slk N (mv P far D) n<=0:=by
  have g:=GI (N.on n);unfold slk at t0 ⊢;by_cases c:N.ot n=x
  ·rw[c,IW]
   rw[c] at t0;omega
  ·cases e:far (N.ot n) with
   | none=>
    rw[CW _ e];omega
   | some a=>
    rw[qz _ _ e];rcases Ik (N.ot n) (N.on n) n 0 ⟨hn,.inr ⟨rfl,rfl,f,rfl⟩⟩ c a e with⟨b,e1,e2⟩|⟨e1,e2⟩
    ·rw[qz _ _ e1]
     omega
    ·have:=mx _ _ e
     omega
 omega
end
end K64
namespace K64
def ac (N:Wn) (n p:Nat):Nat:=if N.ot n=p then N.on n else N.ot n
def bc (N:Wn) (cm:Nat->Option Nat) (p:Nat):Nat:=match cm p with
 | some n=>ac N n p
 | none=>p
theorem qM {N:Wn}{cm:Nat->Option Nat}{p n:Nat} (e:cm p=some n):bc N cm p=ac N n p:=by
 unfold bc;rw[e]
theorem Arc.ac {N:Wn}{P fl:Nat->Int}{q p n:Nat}{d:Int} (A:Arc N P fl q p n d) (ne:q≠p):ac N n p=q/\K64.ac N n q=p:=by
 unfold K64.ac;obtain⟨_,⟨rfl,rfl,_⟩|⟨rfl,rfl,_⟩⟩:=A
 ·exact⟨if_pos rfl,if_neg (Ne.symm ne)⟩
 ·exact⟨if_neg ne,if_pos rfl⟩
theorem bal_up {N:Wn}{a:Nat->Int}{n:Nat} (hn:n<N.m) (e:Int) (v:Nat):bal N (up a n (a n + e)) v=bal N a v + (if N.ot n=v then e else 0) - (if N.on n=v then e else 0):=by
 have q:bal N (up a n (a n + e)) v=sm (fun i=>((if N.ot i=v then a i else 0) - (if N.on i=v then a i else 0)) + (if i=n then(if N.ot n=v then e else 0) - (if N.on n=v then e else 0) else 0)) N.m:=cT _ fun i _=>by
  by_cases c:i=n
  ·subst c
   rw[aT,if_pos rfl];by_cases c1:N.ot i=v <;> by_cases c2:N.on i=v <;> simp[c1,c2] <;> omega
  ·rw[aG _ _ c,if_neg c]
   omega
 rw[q,ra,rq,if_pos hn];show bal N a v + _=_;omega
theorem LA {N:Wn} (k:Int) (a b:Nat->Int) (v:Nat):bal N (fun n=>k * a n + b n) v=k * bal N a v + bal N b v:=by
 unfold bal;rw[<- Ft,<- ra];refine cT _ fun i _=>?_
 by_cases c1:N.ot i=v <;> by_cases c2:N.on i=v <;> simp[c1,c2,Int.mul_neg] <;> omega
theorem TQ {N:Wn} (v:Nat):bal N (fun _=>0) v=0:=by
 unfold bal;rw[<- pC N.m];refine cT _ fun i _=>?_
 simp
section
variable {N:Wn}{P fl nd:Nat->Int}{far wt:Nat->Option Int}{cm:Nat->Option Nat}{rk:Nat->Nat}{size:Nat}{Lk:Nat->Nat->Int->Prop}
theorem Se.back (h:Se N P fl nd far wt cm rk size Lk){p n:Nat}{a:Int} (fp:far p=some a) (e:cm p=some n):∃ d b,Arc N P fl (ac N n p) p n d/\far (ac N n p)=some b/\a=b + d/\ac N n p≠p/\rk (ac N n p)<rk p:=by
 have ne:¬ nd p<0:=fun z=>by
  have:=(h.ro p (h.nn p a (.inl fp)).2 z).2;rw[e] at this;cases this
 obtain⟨n',q,d,b,e1,e2,e3,e4,e5,e6⟩:=h.cb p a (.inl fp) ne;rw[e] at e1;cases e1
 have q':=(e2.ac e5).1;rw[q'];exact⟨d,b,e2,e3,e4,e5,e6 fp⟩
theorem Se.root (h:Se N P fl nd far wt cm rk size Lk){p:Nat}{a:Int} (fp:far p=some a) (e:cm p=none):nd p<0:=by
 by_cases c:nd p<0
 ·exact c
 ·obtain⟨n',q,d,b,e1,_⟩:=h.cb p a (.inl fp) c
  rw[e] at e1;cases e1
theorem Se.way (h:Se N P fl nd far wt cm rk size Lk){x:Nat}{D:Int} (hx:far x=some D):∀ i,∃ a,far (itr (bc N cm) i x)=some a
 | 0=>⟨D,hx⟩
 | i + 1=>by
  obtain⟨a,e⟩:=h.way hx i;show ∃ a,far (bc N cm (itr (bc N cm) i x))=some a;cases c:cm (itr (bc N cm) i x) with
  | none=>
   refine⟨a,?_⟩;unfold bc at e c ⊢;rw[c];exact e
  | some n=>
   obtain⟨d,b,_,fb,_⟩:=h.back e c;rw[qM c];exact⟨b,fb⟩
theorem Se.falls (h:Se N P fl nd far wt cm rk size Lk){x:Nat}{D:Int} (hx:far x=some D){i:Nat} (c:(cm (itr (bc N cm) i x)).isSome=true):rk (itr (bc N cm) (i + 1) x)<rk (itr (bc N cm) i x):=by
 obtain⟨a,e⟩:=h.way hx i;obtain⟨n,c⟩:=Option.isSome_iff_exists.mp c;obtain⟨d,b,_,_,_,_,r⟩:=h.back e c;show rk (bc N cm (itr (bc N cm) i x))<_;rw[qM c];exact r
theorem Se.falls2 (h:Se N P fl nd far wt cm rk size Lk){x:Nat}{D:Int} (hx:far x=some D){k:Nat} (c:∀ i,i<k->(cm (itr (bc N cm) i x)).isSome=true){j:Nat}:∀ {i},j<i->i<=k->rk (itr (bc N cm) i x)<rk (itr (bc N cm) j x)
 | 0,h1,_=>absurd h1 (Wj _)
 | i + 1,h1,h2=>by
  have s:=h.falls hx (c i (by omega));by_cases e:j=i
  ·rw[e]
   exact s
  ·have:=h.falls2 hx c (j:=j) (i:=i) (by omega) (by omega)
   omega
def cn (cm:Nat->Option Nat) (p:Nat):Nat:=(cm p).getD 0
theorem iw {cm:Nat->Option Nat}{p:Nat} (h:(cm p).isSome=true):cm p=some (cn cm p):=by
 obtain⟨n,e⟩:=Option.isSome_iff_exists.mp h;unfold cn;rw[e];rfl
theorem Se.once (h:Se N P fl nd far wt cm rk size Lk){x:Nat}{D:Int} (hx:far x=some D){k:Nat} (c:∀ i,i<k->(cm (itr (bc N cm) i x)).isSome=true){i j:Nat} (ji:j<i) (ik:i<k):cn cm (itr (bc N cm) j x)≠cn cm (itr (bc N cm) i x):=fun z=>by
 obtain⟨a,ea⟩:=h.way hx i;obtain⟨b,eb⟩:=h.way hx j;have ci:=iw (c i ik);have cj:=iw (c j (by omega));have r1:=h.falls2 hx c ji (by omega);have r2:=h.falls hx (c i ik);have si:itr (bc N cm) (i + 1) x=ac N (cn cm (itr (bc N cm) i x)) (itr (bc N cm) i x):=qM ci;rw[si] at r2;obtain⟨d1,b1,A1,_,_,n1,_⟩:=h.back ea ci;obtain⟨d2,b2,A2,_,_,n2,_⟩:=h.back eb cj;rw[<- z] at A1 n1 r2;generalize itr (bc N cm) i x=xi at *;generalize itr (bc N cm) j x=xj at *;generalize cn cm xj=n at *;have e1:=A1.ac n1;have e2:=A2.ac n2;have BH:xi=xj\/xi=ac N n xj:=by
  obtain⟨_,⟨p1,p2,_⟩|⟨p1,p2,_⟩⟩:=A1 <;> obtain⟨_,⟨q1,q2,_⟩|⟨q1,q2,_⟩⟩:=A2
  ·exact .inl (p2.symm.trans q2)
  ·exact .inr (p2.symm.trans q1)
  ·exact .inr (p2.symm.trans q1)
  ·exact .inl (p2.symm.trans q2)
 rcases BH with e|e
 ·rw[e] at r1
  omega
 ·rw[e,e2.2] at r2
  rw[e] at r1;omega
def fs (N:Wn) (cm:Nat->Option Nat) (x:Nat) (am:Int) (fl:Nat->Int):Nat->Nat->Int
 | 0=>fl
 | i + 1=>up (fs N cm x am fl i) (cn cm (itr (bc N cm) i x)) (fs N cm x am fl i (cn cm (itr (bc N cm) i x)) + (if N.ot (cn cm (itr (bc N cm) i x))=itr (bc N cm) i x then am else 0 - am))
theorem LV {x:Nat}{am:Int}{n:Nat}:∀ i,(∀ j,j<i->cn cm (itr (bc N cm) j x)≠n)->fs N cm x am fl i n=fl n
 | 0,_=>rfl
 | i + 1,h=>by
  show up _ _ _ n=_;rw[aG _ _ (Ne.symm (h i (by omega))),LV i fun j hj=>h j (by omega)]
theorem Se.sent_bal (h:Se N P fl nd far wt cm rk size Lk){x:Nat}{D am:Int} (hx:far x=some D) (v:Nat):∀ k,(∀ i,i<k->(cm (itr (bc N cm) i x)).isSome=true)->bal N (fs N cm x am fl k) v=bal N fl v + (if x=v then am else 0) - (if itr (bc N cm) k x=v then am else 0)
 | 0,_=>by
  show bal N fl v=bal N fl v + (if x=v then am else 0) - (if x=v then am else 0);omega
 | i + 1,c=>by
  have ih:=h.sent_bal hx v (am:=am) i fun j hj=>c j (by omega)
  obtain⟨a,e⟩:=h.way hx i;have ci:=iw (c i (by omega));obtain⟨d,b,A,_,_,ne,_⟩:=h.back e ci;have si:itr (bc N cm) (i + 1) x=ac N (cn cm (itr (bc N cm) i x)) (itr (bc N cm) i x):=qM ci;show bal N (up (fs N cm x am fl i) (cn cm (itr (bc N cm) i x)) _) v=_;rw[bal_up A.1,ih,si];generalize itr (bc N cm) i x=xi at *;generalize cn cm xi=n at *;obtain⟨_,⟨p1,p2,_⟩|⟨p1,p2,_⟩⟩:=A
  ·rw[p1,p2,if_pos rfl]
   omega
  ·rw[p1,p2,if_neg ne]
   by_cases c1:ac N n xi=v <;> by_cases c2:xi=v <;> simp[c1,c2] <;> omega
theorem Se.sent_ti (h:Se N P fl nd far wt cm rk size Lk){x:Nat}{D am:Int} (hx:far x=some D) (ti:Ti N (mv P far D) fl) (u4:0<=am):∀ k,(∀ i,i<k->(cm (itr (bc N cm) i x)).isSome=true) ->
  (∀ i,i<k->N.on (cn cm (itr (bc N cm) i x))=itr (bc N cm) i x->am<=fl (cn cm (itr (bc N cm) i x)))->Ti N (mv P far D) (fs N cm x am fl k)
 | 0,_,_=>ti
 | i + 1,c,hm=>by
  have ih:=h.sent_ti hx ti u4 i (fun j hj=>c j (by omega)) (fun j hj=>hm j (by omega));obtain⟨a,e⟩:=h.way hx i;have ci:=iw (c i (by omega));obtain⟨d,b,A,fb,Uw,ne,_⟩:=h.back e ci;have same:fs N cm x am fl i (cn cm (itr (bc N cm) i x))=fl (cn cm (itr (bc N cm) i x)):=LV i fun j hj=>h.once hx c hj (by omega)
  have OT:=hm i (by omega);have key:0<=fl (cn cm (itr (bc N cm) i x)) + (if N.ot (cn cm (itr (bc N cm) i x))=itr (bc N cm) i x then am else 0 - am)/\slk N (mv P far D) (cn cm (itr (bc N cm) i x))=0:=by
   generalize itr (bc N cm) i x=xi at *;generalize cn cm xi=n at *;have f0:=ti.f n A.1;obtain⟨hn,⟨p1,p2,p3⟩|⟨p1,p2,p3,p4⟩⟩:=A
   ·refine⟨by rw[p2,if_pos rfl];omega,?_⟩
    have m1:mv P far D xi=P xi + (D - a):=by unfold mv;rw[e]
    have m2:mv P far D (ac N n xi)=P (ac N n xi) + (D - b):=by unfold mv;rw[fb]
    unfold slk at p3 ⊢;rw[p1,p2] at p3 ⊢;rw[m1,m2];omega
   ·have:=OT p2
    refine⟨by rw[p1,if_neg ne];omega,ti.t n hn p3⟩
  refine⟨ih.s,fun n hn=>?_,fun n hn f=>?_⟩
  ·by_cases z:n=cn cm (itr (bc N cm) i x)
   ·rw[z]
    show 0<=up _ _ _ _;rw[aT,same];exact key.1
   ·show 0<=up _ _ _ _
    rw[aG _ _ z];exact ih.f n hn
  ·by_cases z:n=cn cm (itr (bc N cm) i x)
   ·rw[z]
    exact key.2
   ·refine ih.t n hn ?_
    have f:0<up (fs N cm x am fl i) (cn cm (itr (bc N cm) i x)) _ n:=f;rw[aG _ _ z] at f;exact f
end
def nE (N:Wn) (nd:Nat->Int):Nat:=(sm (fun p=>max (nd p) 0) N.c).toNat
theorem SS {N:Wn}{nd:Nat->Int} (h:sm nd N.c=0) (np:∀ p,p<N.c->nd p<=0):∀ p,p<N.c->nd p=0:=fun p hp=>by
 by_cases c:nd p=0
 ·exact c
 ·have:=np p hp
  have:=Bf (f:=nd) (k:=p) N.c np hp (by omega);omega
theorem TX {N:Wn}{nd bv:Nat->Int}{s e:Nat}{am:Int} (hs:s<N.c) (he:e<N.c) (u4:0<am) (h1:am<=nd e) (h2:am<=0 - nd s) (hn:∀ p,p<N.c->bv p=nd p + (if s=p then am else 0) - (if e=p then am else 0)):nE N bv<nE N nd:=by
 have q:sm (fun p=>max (nd p) 0) N.c=sm (fun p=>max (bv p) 0 + (if p=e then am else 0)) N.c:=cT _ fun p hp=>by
  rw[hn p hp];by_cases c1:p=e
  ·subst c1
   have:s≠p:=fun z=>by
    subst z;omega
   rw[if_pos rfl,if_neg this];omega
  ·by_cases c2:s=p
   ·subst c2
    rw[if_pos rfl,if_neg (Ne.symm c1),if_neg c1];omega
   ·rw[if_neg c2,if_neg (Ne.symm c1),if_neg c1]
    omega
 rw[ra,rq,if_pos he] at q;have nn:=zP (f:=fun p=>max (bv p) 0) N.c fun p _=>by omega
 unfold nE;omega
end K64
namespace K64
open PySem L2
abbrev Kvs:=List (Key×V)
abbrev Wt:=Nat×Nat×Int×Int
def wn (ws:List Wt) (c:Nat):Wn:=⟨c,ws.length,fun n=>(ws.getD n (0,0,0,0)).1,fun n=>(ws.getD n (0,0,0,0)).2.1,fun n=>(ws.getD n (0,0,0,0)).2.2.1⟩
def wtF (ws:List Wt) (n:Nat):Int:=(ws.getD n (0,0,0,0)).2.2.2
def fn (l:List Int) (i:Nat):Int:=l.getD i 0
structure LR where
 o:Addr
 t:Addr
 l:Addr
 p:Addr
 f:Addr
 n:Addr
 g:Addr
 c:Addr
def bN (r:LR):List (Str×V):=[("ones",.ref r.o),("others",.ref r.t),("leasts",.ref r.l),("places",.ref r.p),("flow",.ref r.f),("needs",.ref r.n),("going",.ref r.g),("coming",.ref r.c)]
theorem lk0 {a:Str}{v:V}{r:List (Str×V)}:(((a,v)::r):List (Str×V)).lookup a=some v:=by
 rw[Wp,beq_self_eq_true]
theorem lk1 {a b:Str}{v:V}{r:List (Str×V)} (h:(a == b)=false):(((b,v)::r):List (Str×V)).lookup a=r.lookup a:=by
 rw[Wp,h]
theorem qX {r:LR}:(bN r).lookup ("ones":Str)=some (.ref r.o):=lk0
theorem zF {r:LR}:(bN r).lookup ("others":Str)=some (.ref r.t):=(lk1 (by decide +kernel)).trans lk0
theorem Qr {r:LR}:(bN r).lookup ("leasts":Str)=some (.ref r.l):=(lk1 (by decide +kernel)).trans ((lk1 (by decide +kernel)).trans lk0)
theorem pE {r:LR}:(bN r).lookup ("places":Str)=some (.ref r.p):=(lk1 (by decide +kernel)).trans ((lk1 (by decide +kernel)).trans ((lk1 (by decide +kernel)).trans lk0))
theorem zA {r:LR}:(bN r).lookup ("flow":Str)=some (.ref r.f):=(lk1 (by decide +kernel)).trans ((lk1 (by decide +kernel)).trans ((lk1 (by decide +kernel)).trans ((lk1 (by decide +kernel)).trans lk0)))
theorem p5 {r:LR}:(bN r).lookup ("needs":Str)=some (.ref r.n):=(lk1 (by decide +kernel)).trans ((lk1 (by decide +kernel)).trans ((lk1 (by decide +kernel)).trans ((lk1 (by decide +kernel)).trans ((lk1 (by decide +kernel)).trans lk0))))
theorem Li {r:LR}:(bN r).lookup ("going":Str)=some (.ref r.g):=(lk1 (by decide +kernel)).trans ((lk1 (by decide +kernel)).trans ((lk1 (by decide +kernel)).trans ((lk1 (by decide +kernel)).trans ((lk1 (by decide +kernel)).trans ((lk1 (by decide +kernel)).trans lk0)))))
theorem KM {r:LR}:(bN r).lookup ("coming":Str)=some (.ref r.c):=(lk1 (by decide +kernel)).trans ((lk1 (by decide +kernel)).trans ((lk1 (by decide +kernel)).trans ((lk1 (by decide +kernel)).trans ((lk1 (by decide +kernel)).trans ((lk1 (by decide +kernel)).trans ((lk1 (by decide +kernel)).trans lk0))))))
def Nq (r:LR) (a:Addr):Prop:=a≠r.p/\a≠r.f/\a≠r.n
def goN (ws:List Wt) (i:Nat):List Nat:=(List.range ws.length).filter fun n=>decide ((ws.getD n (0,0,0,0)).1=i)
def coN (ws:List Wt) (i:Nat):List Nat:=(List.range ws.length).filter fun n=>decide ((ws.getD n (0,0,0,0)).2.1=i)
def aK (l:List Nat):List V:=l.map fun n=>V.int (n:Nat)
structure bH (C:Addr) (H:Hp) (q:Addr) (r:LR) (ws:List Wt) (cnt:Nat):Prop where
 ex:∃ dx,H q=some (.ins C dx (bN r))
 ho:H r.o=some (.lst (ws.map fun w=>V.int (w.1:Nat)))
 ht:H r.t=some (.lst (ws.map fun w=>V.int (w.2.1:Nat)))
 hl:H r.l=some (.lst (ws.map fun w=>V.int w.2.2.1))
 hg:∃ gs:List Addr,H r.g=some (.lst (gs.map V.ref))/\gs.length=cnt/\∀ i a,gs[i]?=some a->H a=some (.lst (aK (goN ws i)))/\Nq r a
 hc:∃ gs:List Addr,H r.c=some (.lst (gs.map V.ref))/\gs.length=cnt/\∀ i a,gs[i]?=some a->H a=some (.lst (aK (coN ws i)))/\Nq r a
 no:Nq r r.o
 nt:Nq r r.t
 nl:Nq r r.l
 ng:Nq r r.g
 nc:Nq r r.c
 nq:Nq r q
 pf:r.p≠r.f
 pn:r.p≠r.n
 fn:r.f≠r.n
def Kx (S:List Addr) (H H':Hp):Prop:=∀ b o,H b=some o->b∉S->H' b=some o
theorem Kx.of {S:List Addr}{H H':Hp} (e:ad H H'):Kx S H H':=fun b o h _=>e b o h
theorem Kx.trans {S:List Addr}{H H1 H2:Hp} (a:Kx S H H1) (b:Kx S H1 H2):Kx S H H2:=fun c o h z=>b c o (a c o h z) z
theorem Kx.mono {S S':List Addr}{H H':Hp} (a:Kx S H H') (h:∀ x∈S,x∈S'):Kx S' H H':=fun c o q z=>a c o q fun y=>z (h c y)
theorem Kx.upd {S:List Addr}{H:Hp}{a:Addr}{o:HO} (h:a∈S):Kx S H (L2.upd H a o):=fun b u e z=>by
 rw[aj (fun y=>z (by rw[y];exact h))];exact e
def Dc (H:Hp) (a:Addr):Prop:=∃ kvs,H a=some (.dK kvs)
theorem bH.kx {C:Addr}{H H':Hp}{q:Addr}{r:LR}{ws:List Wt}{cnt:Nat}{S:List Addr} (h:bH C H q r ws cnt) (k:Kx S H H') (hs:∀ a∈S,a=r.p\/a=r.f\/a=r.n\/Dc H a):bH C H' q r ws cnt:=by
 have lst:∀ a xs,H a=some (.lst xs)->Nq r a->H' a=some (.lst xs):=fun a xs e n=>k a _ e fun z=>by
  rcases hs a z with y|y|y|⟨kvs,y⟩
  ·exact n.1 y
  ·exact n.2.1 y
  ·exact n.2.2 y
  ·rw[e] at y
   cases y
 obtain⟨dx,ex⟩:=h.ex;obtain⟨gs,g1,g2,g3⟩:=h.hg;obtain⟨cs,c1,c2,c3⟩:=h.hc;refine⟨⟨dx,k _ _ ex fun z=>?_⟩,lst _ _ h.ho h.no,lst _ _ h.ht h.nt,lst _ _ h.hl h.nl,⟨gs,lst _ _ g1 h.ng,g2,fun i a e=>⟨lst _ _ (g3 i a e).1 (g3 i a e).2,(g3 i a e).2⟩⟩,⟨cs,lst _ _ c1 h.nc,c2,fun i a e=>⟨lst _ _ (c3 i a e).1 (c3 i a e).2,(c3 i a e).2⟩⟩,h.no,h.nt,h.nl,h.ng,h.nc,h.nq,h.pf,h.pn,h.fn⟩;rcases hs q z with y|y|y|⟨kvs,y⟩
 ·exact h.nq.1 y
 ·exact h.nq.2.1 y
 ·exact h.nq.2.2 y
 ·rw[ex] at y
  cases y
theorem bH.same {C:Addr}{H H':Hp}{q:Addr}{r:LR}{ws:List Wt}{cnt:Nat} (h:bH C H q r ws cnt) (e:ad H H'):bH C H' q r ws cnt:=by
 obtain⟨dx,ex⟩:=h.ex;obtain⟨gs,g1,g2,g3⟩:=h.hg;obtain⟨cs,c1,c2,c3⟩:=h.hc;exact⟨⟨dx,e _ _ ex⟩,e _ _ h.ho,e _ _ h.ht,e _ _ h.hl,⟨gs,e _ _ g1,g2,fun i a q=>⟨e _ _ (g3 i a q).1,(g3 i a q).2⟩⟩,⟨cs,e _ _ c1,c2,fun i a q=>⟨e _ _ (c3 i a q).1,(c3 i a q).2⟩⟩,h.no,h.nt,h.nl,h.ng,h.nc,h.nq,h.pf,h.pn,h.fn⟩
theorem pL {l:List Int}{i:Nat} (h:i<l.length):atI (l.map V.int) (i:Int)=some (.int (fn l i)):=by
 rw[jH (by omega),Vn,Vp,Vg h];unfold fn;rw[Vf,Vg h];rfl
theorem lB {ws:List Wt}{n:Nat} (f:Wt->V) (h:n<ws.length):atI (ws.map f) (n:Int)=some (f (ws.getD n (0,0,0,0))):=by
 rw[jH (by omega),Vn,Vp,Vg h,Vf,Vg h];rfl
theorem zU {l:List Int}{i:Nat} (h:i<l.length):(l.map V.int)[((i:Nat):Int).toNat]?=some (.int (fn l i)):=by
 rw[Vn,Vp,Vg h];unfold fn;rw[Vf,Vg h];rfl
theorem qY (kvs:Kvs) (k:Key) (v:V):(aF kvs k v).length<=kvs.length + 1:=by
 unfold aF;split
 ·rw[Vd]
  omega
 ·rw[VD]
  exact Vh _
theorem m4 {l:List Int}{i:Nat} (h:i<l.length) (v:Int):fn (l.set i v)=up (fn l) i v:=by
 funext j
 show(l.set i v).getD j 0=if j=i then v else l.getD j 0;rw[Vf,Vf,List.getElem?_set];by_cases c:i=j
 ·subst c
  simp[h]
 ·simp[c,Ne.symm c]
section
variable {P:Program}{w:World}{K:PySem.W.Frag}{mg:Str->Option Value}{base:Heap}{a:Adr}
def Qq (C:Addr):Sp:=fun vs H Q _=>∃ q r ws c p,∃ n:Nat,vs=[.ref q,.int n]/\bH C H q r ws c/\H r.p=some (.lst ((p:List Int).map V.int))/\p.length=c/\n<ws.length/\(wn ws c).Ok/\Q (.int (slk (wn ws c) (fn p) n)) H
theorem Jy (T:Tx K mg a):CalM P w K mg base CX0 1 a.Layout "slack" ["self","number"] [] (Qq a.Layout):=T.m_Layout_slack.cal fun f fd F=>by
 refine F.ok T6 (fun vs H Q E h=>?_) (fun aJ A outer s H vs Q E hr h=>?_)
 ·obtain⟨q,r,ws,c,p,n,rfl,_⟩:=h
  rfl
 ·obtain⟨q,r,ws,c,p,n,rfl,L,hp,hc,hn,ok,k⟩:=h
  obtain⟨dx,ex⟩:=L.ex;have o1:(ws.getD n (0,0,0,0)).1<p.length:=by rw[hc];exact ok.on n hn
  have o2:(ws.getD n (0,0,0,0)).2.1<p.length:=by rw[hc];exact ok.ot n hn
  refine⟨_,(aA (bM (ay iE (ay iE (aL bq (bI (pv 0) rfl) (aL bq (bI (pv 0) rfl) (pv 1) (fun _ _=>rfl)) (fun _ _=>rfl)) (aL bq (bI (pv 0) rfl) (aL bq (bI (pv 0) rfl) (pv 1) (fun _ _=>rfl)) (fun _ _=>rfl))) (aL bq (bI (pv 0) rfl) (pv 1) (fun _ _=>rfl))))),?_⟩;exact⟨_,rfl,q,a.Layout,dx,_,_,rfl,ex,T.c_Layout,T.na_Layout_places,pE,_,rfl,q,a.Layout,dx,_,_,rfl,ex,T.c_Layout,T.na_Layout_others,zF,_,rfl,r.t,_,_,_,rfl,rfl,SqL.of L.ht,lB _ hn,r.p,_,_,_,rfl,rfl,SqL.of hp,pL o2,
   _,rfl,q,a.Layout,dx,_,_,rfl,ex,T.c_Layout,T.na_Layout_places,pE,_,rfl,q,a.Layout,dx,_,_,rfl,ex,T.c_Layout,T.na_Layout_ones,qX,_,rfl,r.o,_,_,_,rfl,rfl,SqL.of L.ho,lB _ hn,r.p,_,_,_,rfl,rfl,SqL.of hp,pL o1,_,_,rfl,rfl,
   _,rfl,q,a.Layout,dx,_,_,rfl,ex,T.c_Layout,T.na_Layout_leasts,Qr,_,rfl,r.l,_,_,_,rfl,rfl,SqL.of L.hl,lB _ hn,_,_,rfl,rfl,k⟩
def QU (C:Addr):Sp:=fun vs H Q _=>∃ q r ws c,∃ n p:Nat,vs=[.ref q,.int n,.int p]/\bH C H q r ws c/\n<ws.length/\Q (.int (ac (wn ws c) n p:Nat)) H
theorem FZ (T:Tx K mg a):CalM P w K mg base CX0 1 a.Layout "end_across" ["self","number","point"] [] (QU a.Layout):=T.m_Layout_end_across.cal fun f fd F=>by
 refine F.ok Tr (fun vs H Q E h=>?_) (fun aJ A outer s H vs Q E hr h=>?_)
 ·obtain⟨q,r,ws,c,n,p,rfl,_⟩:=h
  rfl
 ·obtain⟨q,r,ws,c,n,p,rfl,L,hn,k⟩:=h
  obtain⟨dx,ex⟩:=L.ex;refine⟨_,(aA (bM (Gr (dH qW (aL bq (bI (pv 0) rfl) (pv 1) (fun _ _=>rfl)) (pv 2) (bY _)) (aL bq (bI (pv 0) rfl) (pv 1) (fun _ _=>rfl)) (aL bq (bI (pv 0) rfl) (pv 1) (fun _ _=>rfl))))),?_⟩;refine⟨_,rfl,q,a.Layout,dx,_,_,rfl,ex,T.c_Layout,T.na_Layout_others,zF,_,rfl,r.t,_,_,_,rfl,rfl,SqL.of L.ht,lB _ hn,_,rfl,rfl,_,rfl,?_⟩;refine cS (fun c1=>?_) (fun c1=>?_)
  ·refine⟨_,rfl,q,a.Layout,dx,_,_,rfl,ex,T.c_Layout,T.na_Layout_ones,qX,_,rfl,r.o,_,_,_,rfl,rfl,SqL.of L.ho,lB _ hn,?_⟩
   have e:ac (wn ws c) n p=(ws.getD n (0,0,0,0)).1:=if_pos (by have:=VA c1;injection this with z;exact Int.ofNat.inj z);rw[e] at k;exact k
  ·refine⟨_,rfl,q,a.Layout,dx,_,_,rfl,ex,T.c_Layout,T.na_Layout_others,zF,_,rfl,r.t,_,_,_,rfl,rfl,SqL.of L.ht,lB _ hn,?_⟩
   have e:ac (wn ws c) n p=(ws.getD n (0,0,0,0)).2.1:=if_neg (fun z=>by have:=VY c1;exact this (by rw[show(ws.getD n (0,0,0,0)).2.1=p from z]));rw[e] at k;exact k
end
end K64
namespace K64
open PySem L2
def FW:Option Nat->V
 | none=>.non
 | some v=>.int (v:Nat)
def psh (ws:List Wt) (c:Nat) (P:List Int) (kvs:Kvs):Nat->List Int×Kvs×Option Nat
 | 0=>(P,kvs,none)
 | k + 1=>if slk (wn ws c) (fn (psh ws c P kvs k).1) k<0 then
   ((psh ws c P kvs k).1.set ((wn ws c).ot k) (fn (psh ws c P kvs k).1 ((wn ws c).ot k) + (0 - slk (wn ws c) (fn (psh ws c P kvs k).1) k)),aF (psh ws c P kvs k).2.1 (Sum.inl (((wn ws c).ot k:Nat):Int)) (.int (k:Nat)),some ((wn ws c).ot k))
  else psh ws c P kvs k
theorem Bl (ws:List Wt) (c:Nat) (P:List Int) (kvs:Kvs):∀ k,(psh ws c P kvs k).1.length=P.length/\(psh ws c P kvs k).2.1.length<=kvs.length + k
 | 0=>⟨rfl,Vh _⟩
 | k + 1=>by
  obtain⟨h1,h2⟩:=Bl ws c P kvs k;unfold psh;split
  ·refine⟨by rw[VV];exact h1,?_⟩
   have:=qY (psh ws c P kvs k).2.1 (Sum.inl (((wn ws c).ot k:Nat):Int)) (.int (k:Nat));show(aF _ _ _).length<=_;omega
  ·exact⟨h1,by omega⟩
section
variable {P:Program}{w:World}{K:PySem.W.Frag}{mg:Str->Option Value}{base:Heap}{a:Adr}
def spPush (C:Addr):Sp:=fun vs H Q _=>∃ q r ws c p d kvs,vs=[.ref q,.ref d]/\bH C H q r ws c/\H r.p=some (.lst ((p:List Int).map V.int))/\p.length=c/\(wn ws c).Ok/\ws.length<=1000/\H d=some (.dK kvs)/\kvs.length<=100000 /\
 ∀ H',Kx [r.p,d] H H'->H' r.p=some (.lst ((psh ws c p kvs ws.length).1.map V.int))->H' d=some (.dK (psh ws c p kvs ws.length).2.1)->Q (FW (psh ws c p kvs ws.length).2.2) H'
set_option maxHeartbeats 4000000 in
theorem Ue (T:Tx K mg a):Cal P w K mg base CX0 2 "push_once" ["layout","pushers"] [] (spPush a.Layout):=T.d_push_once.cal fun f fd F=>by
 have m_Layout_slack:=Jy (P:=P) (w:=w) (base:=base) T;refine F.ok rK (fun vs H Q E h=>?_) (fun aJ A outer s H vs Q E hr h=>?_)
 ·obtain⟨q,r,ws,c,p,d,kvs,rfl,_⟩:=h
  rfl
 ·obtain⟨q,r,ws,c,p,d,kvs,rfl,L,hp,hc,ok,hw,hd,hk,k⟩:=h
  have CJ:r.p≠d:=pS hp hd (by intro z;cases z);have lay:∀ G,Kx [r.p,d] H G->bH a.Layout G q r ws c:=fun G kx=>L.kx kx fun x hx=>by
   rcases VH.mp hx with z|z
   ·exact .inl z
   ·rw[W7.mp z]
    exact .inr (.inr (.inr ⟨kvs,hd⟩))
  obtain⟨dx,ex⟩:=L.ex;refine⟨_,(ao (aR (i:=2) rK.nd rfl (.inl rfl) Jx)
   (ao (c6 PassesOwn.never rfl (pO rfl T.n_enumerate (ae (bI (pv 0) rfl) ah)) (fE rfl (aU (aB (i:=3) rK.nd rfl (.inl rfl)) (aU (aB (i:=4) rK.nd rfl (.inl rfl)) cM))) (ao (aR (i:=5) rK.nd rfl (.inl rfl) (ay iE ak (zT (pv 0) T.c_Layout m_Layout_slack (hr.mono (by decide)) (ae (pv 3) ah))))
   (aA (fu (dH mY (pv 5) ak (bY _)) (ao (pQ (bI (pv 0) rfl) (pv 4) qb (pv 5) yW qe)
   (ao (j6 (bu hr) (pv 1) (pv 4) (pv 3) rfl)
   (aA (aR (i:=2) rK.nd rfl (.inl rfl) (pv 4))))) fZ))))
   (aA (bM (pv 2))))),?_⟩
  refine⟨_,rfl,q,a.Layout,dx,_,_,rfl,ex,T.c_Layout,T.na_Layout_others,zF,r.t,rfl,⟨_,SqL.of L.ht⟩,rJ (K:=K) (l:=r.t) (xs:=ws.map fun w=>V.int (w.2.1:Nat)) (fun i σ G=>∃ v3 v4 v5,σ=[some (.ref q),some (.ref d),some (FW (psh ws c p kvs i).2.2),v3,v4,v5]/\Kx [r.p,d] H G/\G r.p=some (.lst ((psh ws c p kvs i).1.map V.int))/\G d=some (.dK (psh ws c p kvs i).2.1))
   ⟨none,none,none,rfl,Kx.of (ad.refl _),hp,hd⟩ ?_ ?_ ?_⟩
  ·rintro i σ G _ ⟨_,_,_,rfl,kx,_⟩
   exact SqL.of (lay G kx).ht
  ·rintro i x tt σ G hx nt ⟨v3,v4,v5,rfl,kx,hG,i8⟩
   have hi:i<ws.length:=by
    have:=(List.getElem?_eq_some_iff.mp hx).1;rw[Vd] at this;exact this
   have Gv:x=.int ((wn ws c).ot i:Nat):=by
    rw[Vp,Vg hi] at hx;have z:=Option.some.inj hx;rw[<- z];show V.int ((ws[i].2.1:Nat):Int)=V.int (((ws.getD i (0,0,0,0)).2.1:Nat):Int);rw[Vf,Vg hi];rfl
   subst Gv;obtain⟨l1,l2⟩:=Bl ws c p kvs i;have oi:(wn ws c).ot i<c:=ok.ot i hi;have s3:ad G (upd G tt (.tup [.int i,.int ((wn ws c).ot i:Nat)])):=ad.new nt;have h3:upd G tt (.tup [.int i,.int ((wn ws c).ot i:Nat)]) tt=some (.tup [.int i,.int ((wn ws c).ot i:Nat)]):=af;generalize upd G tt (.tup [.int i,.int ((wn ws c).ot i:Nat)])=G3 at s3 h3 ⊢;have eI:Kx [r.p,d] H G3:=kx.trans (Kx.of s3);have gE:=s3 _ _ hG;have dL:=s3 _ _ i8;have L3:=lay G3 eI;obtain⟨AK,ex3⟩:=L3.ex;have st:psh ws c p kvs (i + 1)=if slk (wn ws c) (fn (psh ws c p kvs i).1) i<0 then
     ((psh ws c p kvs i).1.set ((wn ws c).ot i) (fn (psh ws c p kvs i).1 ((wn ws c).ot i) + (0 - slk (wn ws c) (fn (psh ws c p kvs i).1) i)),aF (psh ws c p kvs i).2.1 (Sum.inl (((wn ws c).ot i:Nat):Int)) (.int (i:Nat)),some ((wn ws c).ot i))
    else psh ws c p kvs i:=rfl
   rw[st];generalize psh ws c p kvs i=now at gE dL l1 l2 st ⊢;refine⟨tt,_,rfl,SqT.of h3,rfl,_,_,rfl,_,_,rfl,rfl,?_⟩;refine⟨_,rfl,q,AK,_,rfl,ex3,by rfl,_,rfl,q,r,ws,c,now.1,i,rfl,L3,gE,by omega,hi,ok,_,_,rfl,rfl,?_⟩;refine⟨_,rfl,_,_,rfl,rfl,_,rfl,?_⟩;refine cS (fun c1=>?_) (fun c1=>?_)
   ·have c2:slk (wn ws c) (fn now.1) i<0:=by have:=VA c1;omega
    rw[if_pos c2];have O6:(wn ws c).ot i<now.1.length:=by omega
    refine⟨_,rfl,q,a.Layout,AK,_,_,rfl,ex3,T.c_Layout,T.na_Layout_places,pE,_,rfl,r.p,_,_,_,rfl,rfl,SqL.of gE,by omega,zU O6,_,rfl,_,_,rfl,rfl,r.p,_,_,_,rfl,rfl,gE,mZ (by omega) (by rw[Vd];omega),?_⟩;rw[Vn,<- WS];have eD:Kx [r.p,d] H (upd G3 r.p (.lst ((now.1.set ((wn ws c).ot i) (fn now.1 ((wn ws c).ot i) + (0 - slk (wn ws c) (fn now.1) i))).map V.int))):=eI.trans (Kx.upd (by simp));have h4:upd G3 r.p (.lst ((now.1.set ((wn ws c).ot i) (fn now.1 ((wn ws c).ot i) + (0 - slk (wn ws c) (fn now.1) i))).map V.int)) r.p=some (.lst ((now.1.set ((wn ws c).ot i) (fn now.1 ((wn ws c).ot i) + (0 - slk (wn ws c) (fn now.1) i))).map V.int)):=af;have h5:upd G3 r.p (.lst ((now.1.set ((wn ws c).ot i) (fn now.1 ((wn ws c).ot i) + (0 - slk (wn ws c) (fn now.1) i))).map V.int)) d=some (.dK now.2.1):=by rw[aj (Ne.symm CJ)];exact dL
    refine⟨_,rfl,_,rfl,_,rfl,d,_,rfl,.inl ⟨now.2.1,Sum.inl (((wn ws c).ot i:Nat):Int),h5,rfl,by rw[Vo];omega,rfl⟩,?_⟩;refine⟨_,rfl,_,_,_,rfl,eD.trans (Kx.upd (by simp)),?_,af⟩;rw[aj CJ];exact h4
   ·have c2:¬ slk (wn ws c) (fn now.1) i<0:=by have:=VY c1;omega
    rw[if_neg c2];exact⟨_,_,_,rfl,eI,gE,dL⟩
  ·rintro σ G ⟨v3,v4,v5,rfl,kx,hG,i8⟩
   rw[Vd] at hG i8 ⊢;exact⟨_,rfl,k G kx hG i8⟩
end
end K64
namespace K64
open PySem L2
def iz (kvs:Kvs) (pu:Nat->Option Nat):Prop:=∀ v:Nat,a9 kvs (Sum.inl (v:Int))=(pu v).map fun n=>V.int (n:Nat)
theorem iz.nil:iz [] (fun _=>none):=fun _=>rfl
theorem iz.put {kvs:Kvs}{pu:Nat->Option Nat} (h:iz kvs pu) (v n:Nat):iz (aF kvs (Sum.inl (v:Int)) (.int (n:Nat))) (up pu v (some n)):=fun u=>by
 rw[ni];by_cases c:u=v
 ·subst c
  rw[if_pos rfl,aT];rfl
 ·rw[if_neg (fun z=>c (by injection z with z;exact Int.ofNat.inj z)),aG _ _ c]
  exact h u
theorem iz.dget {H:Hp}{d:Addr}{kvs:Kvs}{pu:Nat->Option Nat}{v n:Nat} (h:iz kvs pu) (hd:H d=some (.dK kvs)) (e:pu v=some n):fq H d (.int (v:Nat)) (some (.int (n:Nat))):=.inl ⟨kvs,Sum.inl (v:Int),.inl hd,rfl,by rw[h v,e];rfl⟩
theorem LQ {ws:List Wt}{c:Nat}{P:List Int}{kvs:Kvs}{t:Nat->Nat}{pu:Nat->Option Nat}{r:Nat} (hc:P.length=c) (ok:(wn ws c).Ok) (hp:iz kvs pu) (f:Fi (wn ws c) t (fn P) pu) (h:Rd (wn ws c) t (fn P) r 0):∀ k,k<=ws.length ->
  ∃ t' nX,iz (psh ws c P kvs k).2.1 nX/\Fi (wn ws c) t' (fn (psh ws c P kvs k).1) nX/\Rd (wn ws c) t' (fn (psh ws c P kvs k).1) r k/\((psh ws c P kvs k).2.2=none->psh ws c P kvs k=(P,kvs,none)/\∀ n,n<k->0<=slk (wn ws c) (fn P) n)/\∀ v,(psh ws c P kvs k).2.2=some v->r<=t' v/\v<c
 | 0,_=>⟨t,pu,hp,f,h,fun _=>⟨rfl,fun n hn=>absurd hn (Wj _)⟩,fun v e=>by cases e⟩
 | k + 1,hk=>by
  obtain⟨t',nX,i1,i2,i3,i4,i5⟩:=LQ hc ok hp f h k (by omega);have l1:=(Bl ws c P kvs k).1;have oi:(wn ws c).ot k<c:=ok.ot k (by show k<ws.length;omega);unfold psh;by_cases s:slk (wn ws c) (fn (psh ws c P kvs k).1) k<0
  ·rw[if_pos s]
   refine⟨up t' ((wn ws c).ot k) r,up nX ((wn ws c).ot k) (some k),i1.put _ _,?_,?_,fun e=>(by cases e),fun v e=>?_⟩
   ·show Fi _ _ (fn ((psh ws c P kvs k).1.set _ _)) _
    rw[m4 (by omega)];exact SG i2 i3 (by show k<ws.length;omega) s
   ·show Rd _ _ (fn ((psh ws c P kvs k).1.set _ _)) _ _
    rw[m4 (by omega)];exact RT i3 s
   ·obtain rfl:(wn ws c).ot k=v:=Option.some.inj e
    rw[aT];exact⟨Vh _,oi⟩
  ·rw[if_neg s]
   refine⟨t',nX,i1,i2,i3.skip (by omega),fun e=>?_,i5⟩;obtain⟨e1,e2⟩:=i4 e;refine⟨e1,fun n hn=>?_⟩;rcases Wc n k with z|z
   ·exact e2 n z
   ·obtain rfl:n=k:=by omega
    rw[e1] at s;exact Int.not_lt.mp s
def rgL (N:Wn) (pu:Nat->Option Nat) (p:Nat):Nat->List Nat
 | 0=>[]
 | k + 1=>cn pu (itr (bk N pu) k p)::rgL N pu p k
theorem Gd (N:Wn) (pu:Nat->Option Nat) (p:Nat):∀ k,(rgL N pu p k).length=k
 | 0=>rfl
 | k + 1=>by
  show(rgL N pu p k).length + 1=k + 1;rw[Gd N pu p k]
structure jY (N:Wn) (ring:List Nat):Prop where
 told:∃ P t pu p k,Fi N t P pu/\p<N.c/\(∀ i,(pu (itr (bk N pu) i p)).isSome=true)/\ring=rgL N pu p (k + 1)/\itr (bk N pu) (k + 1) p=p/\∀ s,1<=s->s<=k->itr (bk N pu) s p≠p
theorem Gb {N:Wn}{pu:Nat->Option Nat}{v:Nat} (h:(pu v).isSome=true):bk N pu v=N.on (cn pu v):=by
 unfold bk;rw[iw h]
theorem at0 {x:V}{xs:List V}:atI (x::xs) 0=some x:=by
 rw[show(0:Int)=((0:Nat):Int) from rfl,jH (by omega)];rfl
section
variable {P:Program}{w:World}{K:PySem.W.Frag}{mg:Str->Option Value}{base:Heap}{a:Adr}
def spRing (C:Addr):Sp:=fun vs H Q _=>∃ q r ws c p d kvs t pu,∃ v:Nat,vs=[.ref q,.ref d,.int v]/\bH C H q r ws c/\H r.p=some (.lst ((p:List Int).map V.int))/\p.length=c/\(wn ws c).Ok/\c<=1000/\H d=some (.dK kvs)/\iz kvs pu/\Fi (wn ws c) t (fn p) pu/\c<=t v/\v<c /\
 ∀ g ring H',ad H H'->H' g=some (.lst (aK ring))->H g=none->jY (wn ws c) ring->ring.length<=c + 1->Q (.ref g) H'
set_option maxHeartbeats 4000000 in
theorem S1 (T:Tx K mg a):Cal P w K mg base CX0 2 "ring_behind" ["layout","pushers","point"] [] (spRing a.Layout):=T.d_ring_behind.cal fun f fd F=>by
 refine F.ok Ba (fun vs H Q E h=>?_) (fun aJ A outer s H vs Q E hr h=>?_)
 ·obtain⟨q,r,ws,c,p,d,kvs,t,pu,v,rfl,_⟩:=h
  rfl
 ·obtain⟨q,r,ws,c,p,d,kvs,t,pu,v,rfl,L,hp,hc,ok,US,hd,Mv,fi,ht,hv,k⟩:=h
  obtain⟨all,dd,B7,GZ,gO⟩:=R4 ok fi ht hv;have GZ:dd<=c:=GZ;have num:∀ x,(pu x).isSome=true->cn pu x<ws.length:=fun x e=>(fi.a x _ (iw e)).1
  obtain⟨dx,ex⟩:=L.ex;have dg:∀ G,ad H G->∀ x,(pu x).isSome=true->fq G d (.int (x:Nat)) (some (.int (cn pu x:Nat))):=fun G sg x e=>Mv.dget (sg _ _ hd) (iw e)
  have one:∀ G,ad H G->∀ x,(pu x).isSome=true->SqL K G r.o (ws.map fun w=>V.int (w.1:Nat))/\atI (ws.map fun w=>V.int (w.1:Nat)) ((cn pu x:Nat):Int)=some (.int (bk (wn ws c) pu x:Nat)):=fun G sg x e=>⟨SqL.of (sg _ _ L.ho),by rw[lB _ (num x e),Gb e];rfl⟩
  refine⟨_,(ao (c6 PassesOwn.never rfl (bU (bI (pv 0) rfl)) (aB (i:=3) Ba.nd rfl (.inl rfl)) (aA (aR (i:=2) Ba.nd rfl (.inl rfl) (aL bq (bI (pv 0) rfl) (cL (bu hr) (pv 1) (pv 2) (fun _ _=>rfl)) (fun _ _=>rfl)))))
   (ao (aR (i:=4) Ba.nd rfl (.inl rfl) (c7 (ae (cL (bu hr) (pv 1) (pv 2) (fun _ _=>rfl)) ah)))
   (ao (y8 PassesOwn.never (dH op_ne (aL bq (bI (pv 0) rfl) (aL bq (pv 4) ak (fun _ _=>rfl)) (fun _ _=>rfl)) (pv 2) (bY _)) (aA (fw (iF PySem.F.plainAttrs_list PySem.F.slot_list_insert PySem.F.type_list_insert Km (pv 4) (ae ak (ae (cL (bu hr) (pv 1) (aL bq (bI (pv 0) rfl) (aL bq (pv 4) ak (fun _ _=>rfl)) (fun _ _=>rfl)) (fun _ _=>rfl)) ah))))))
   (aA (bM (pv 4)))))),?_⟩
  refine⟨_,rfl,q,a.Layout,dx,_,_,rfl,ex,T.c_Layout,T.na_Layout_places,pE,r.p,rfl,⟨_,SqL.of hp⟩,jC (K:=K) (a:=r.p) (xs:=p.map V.int) (fun i σ G=>∃ v3,σ=[some (.ref q),some (.ref d),some (.int (itr (bk (wn ws c) pu) i v:Nat)),v3,none]/\ad H G)
   ⟨none,rfl,ad.refl _⟩ ?_ ?_ ?_⟩
  ·rintro i σ G _ ⟨_,rfl,sg⟩
   exact SqL.of (sg _ _ hp)
  ·rintro i x σ G hx ⟨v3,rfl,sg⟩
   have o:=one G sg _ (all i);dsimp only[bJ];exact⟨_,rfl,q,a.Layout,dx,_,_,rfl,sg _ _ ex,T.c_Layout,T.na_Layout_ones,qX,_,rfl,_,rfl,d,_,rfl,dg G sg _ (all i),r.o,_,_,_,rfl,rfl,o.1,o.2,_,rfl,sg⟩
  ·rintro σ G ⟨v3,rfl,sg⟩
   rw[Vd,hc];have al:∀ i,(pu (itr (bk (wn ws c) pu) i (itr (bk (wn ws c) pu) c v))).isSome=true:=fun i=>by rw[<- zd];exact all _
   have jR:(wn ws c).c=c:=rfl;rw[jR] at gO;generalize MS:itr (bk (wn ws c) pu) c v=x0 at al gO;have Pe:x0<c:=by
    rw[<- MS];cases c with
    | zero=>exact absurd hv (Wj _)
    | succ c'=>
     have e:itr (bk (wn ws (c' + 1)) pu) (c' + 1) v=(wn ws (c' + 1)).on (cn pu (itr (bk (wn ws (c' + 1)) pu) c' v)):=Gb (all c');rw[e];exact ok.on _ (num _ (all c'))
   refine⟨_,rfl,_,rfl,d,_,rfl,dg G sg _ (al 0),(by show 1<=sizeLine;decide),fun g ng=>?_⟩;have s1:ad G (upd G g (.lst [.int (cn pu x0:Nat)])):=ad.new ng;have h1:upd G g (.lst [.int (cn pu x0:Nat)]) g=some (.lst [.int (cn pu x0:Nat)]):=af;have Hr:H g=none:=none_of sg ng;generalize upd G g (.lst [.int (cn pu x0:Nat)])=H1 at s1 h1 ⊢;refine⟨fun m σ H'=>∃ j,m=dd - (j + 1)/\j<dd/\σ=[some (.ref q),some (.ref d),some (.int (x0:Nat)),v3,some (.ref g)]/\ad H H'/\H' g=some (.lst (aK (rgL (wn ws c) pu x0 (j + 1))))/\∀ s,1<=s->s<=j->itr (bk (wn ws c) pu) s x0≠x0,
    ⟨_,0,rfl,B7,rfl,sg.trans s1,h1,fun s h1 h2=>absurd h1 (by omega)⟩,?_⟩
   rintro m σ H2 ⟨j,rfl,jd,rfl,s2,oU,ne⟩
   have o:=one H2 s2 _ (al j);refine⟨_,rfl,q,a.Layout,dx,_,_,rfl,s2 _ _ ex,T.c_Layout,T.na_Layout_ones,qX,_,rfl,g,_,_,_,rfl,rfl,SqL.of oU,at0,r.o,_,_,_,rfl,rfl,o.1,o.2,_,rfl,rfl,_,rfl,?_⟩;have e1:bk (wn ws c) pu (itr (bk (wn ws c) pu) j x0)=itr (bk (wn ws c) pu) (j + 1) x0:=rfl;refine cS (fun c1=>?_) (fun c1=>?_)
   ·have n1:itr (bk (wn ws c) pu) (j + 1) x0≠x0:=fun z=>by
     rw[e1,z,VG rfl] at c1;cases c1
    have ME:j + 1<dd:=by
     rcases Wc (j + 1) dd with z|z
     ·exact z
     ·exact absurd (by rw[show j + 1=dd by omega];exact gO) n1
    refine⟨_,fun σ' H' h=>h,?_⟩;have len:=Gd (wn ws c) pu x0 (j + 1);have lz:(aK (rgL (wn ws c) pu x0 (j + 1))).length=j + 1:=by unfold aK;rw[Vd,len]
    refine⟨_,rfl,.inl ⟨rfl,_,SqL.of oU⟩,_,rfl,_,rfl,q,a.Layout,dx,_,_,rfl,s2 _ _ ex,T.c_Layout,T.na_Layout_ones,qX,_,rfl,g,_,_,_,rfl,rfl,SqL.of oU,at0,r.o,_,_,_,rfl,rfl,o.1,o.2,d,_,rfl,dg H2 s2 _ (al (j + 1)),g,_,0,_,rfl,rfl,oU,by omega,by omega,?_,?_⟩
    ·rw[lz,Vo]
     omega
    ·exact⟨dd - (j + 1 + 1),by omega,j + 1,rfl,ME,rfl,bx Hr s2,af,fun s h1 h2=>by
      rcases Wc s (j + 1) with z|z
      ·exact ne s h1 (by omega)
      ·rw[show s=j + 1 by omega]
       exact n1⟩
   ·have e2:itr (bk (wn ws c) pu) (j + 1) x0=x0:=by
     by_cases z:itr (bk (wn ws c) pu) (j + 1) x0=x0
     ·exact z
     ·rw[e1,V5 (fun y=>z (by injection y with y;exact Int.ofNat.inj y))] at c1
      cases c1
    exact⟨_,rfl,k g _ H2 s2 oU Hr ⟨_,t,pu,x0,j,fi,Pe,al,rfl,e2,ne⟩ (by rw[Gd];omega)⟩
end
end K64
namespace K64
open PySem L2
def rdF (ws:List Wt) (c:Nat) (P:List Int):Nat->List Int×Kvs×Option Nat
 | 0=>(P,[],none)
 | j + 1=>psh ws c (rdF ws c P j).1 (rdF ws c P j).2.1 ws.length
def m8 (ws:List Wt) (c:Nat):List Int:=(rdF ws c (List.replicate c 0) c).1
theorem Jj {ws:List Wt}{c:Nat}{P:List Int}{kvs:Kvs} (h:∀ n,n<ws.length->0<=slk (wn ws c) (fn P) n):∀ k,k<=ws.length->psh ws c P kvs k=(P,kvs,none)
 | 0,_=>rfl
 | k + 1,hk=>by
  have ih:=Jj h (kvs:=kvs) k (by omega);unfold psh;rw[ih,if_neg (by have:=h k (by omega);show ¬ slk (wn ws c) (fn P) k<0;omega)]
theorem JM {ws:List Wt}{c:Nat}{P:List Int}{j:Nat} (h:∀ n,n<ws.length->0<=slk (wn ws c) (fn (rdF ws c P j).1) n):∀ i,(rdF ws c P (j + i)).1=(rdF ws c P j).1
 | 0=>rfl
 | i + 1=>by
  have ih:=JM h i;show(psh ws c (rdF ws c P (j + i)).1 (rdF ws c P (j + i)).2.1 ws.length).1=_;rw[ih,Jj h _ (Vh _)]
theorem Bc (ws:List Wt) (c:Nat) (P:List Int):∀ j,(rdF ws c P j).1.length=P.length/\(rdF ws c P j).2.1.length<=j * ws.length
 | 0=>⟨rfl,VU _⟩
 | j + 1=>by
  obtain⟨h1,h2⟩:=Bc ws c P j;obtain⟨h3,h4⟩:=Bl ws c (rdF ws c P j).1 (rdF ws c P j).2.1 ws.length;refine⟨h3.trans h1,VL h4 ?_⟩;rw[Nat.succ_mul];omega
theorem AU (c:Nat):fn (List.replicate c 0)=fun _=>0:=by
 funext i
 unfold fn;rw[Vf,XT];split <;> rfl
def pN (ws:List Wt) (c:Nat) (i:Nat):Prop:=∃ t pu,iz (rdF ws c (List.replicate c 0) i).2.1 pu/\Fi (wn ws c) t (fn (rdF ws c (List.replicate c 0) i).1) pu/\Rd (wn ws c) t (fn (rdF ws c (List.replicate c 0) i).1) (i + 1) 0/\∀ v,(rdF ws c (List.replicate c 0) i).2.2=some v->i<=t v/\v<c
theorem pN.start (ws:List Wt) (c:Nat):pN ws c 0:=by
 refine⟨fun _=>0,fun _=>none,iz.nil,?_,?_,fun v e=>by cases e⟩
 ·show Fi _ _ (fn (List.replicate c 0)) _
  rw[AU];exact Fi.start _
 ·exact Rd.start _ _
theorem pN.next {ws:List Wt}{c i:Nat} (ok:(wn ws c).Ok) (h:pN ws c i):pN ws c (i + 1)/\((rdF ws c (List.replicate c 0) (i + 1)).2.2=none->(rdF ws c (List.replicate c 0) (i + 1)).1=(rdF ws c (List.replicate c 0) i).1/\∀ n,n<ws.length->0<=slk (wn ws c) (fn (rdF ws c (List.replicate c 0) i).1) n):=by
 obtain⟨t,pu,h1,h2,h3,_⟩:=h;have hl:(rdF ws c (List.replicate c 0) i).1.length=c:=by rw[(Bc ws c _ i).1,VS]
 obtain⟨t',nX,i1,i2,i3,i4,i5⟩:=LQ hl ok h1 h2 h3 ws.length (Vh _);refine⟨⟨t',nX,i1,i2,Rd.next i3,i5⟩,fun e=>?_⟩;obtain⟨e1,e2⟩:=i4 e;refine⟨?_,e2⟩;show(psh ws c (rdF ws c (List.replicate c 0) i).1 (rdF ws c (List.replicate c 0) i).2.1 ws.length).1=_;rw[e1]
section
variable {P:Program}{w:World}{K:PySem.W.Frag}{mg:Str->Option Value}{base:Heap}{a:Adr}
def Sj (C:Addr):Sp:=fun vs H Q _=>∃ x t g ys,vs=[.ref x,.ref g]/\H x=some (kc C t x none)/\H g=some (.lst ys)/\∀ l,H l=none->∀ dx,upd H l (.lst ys) dx=none->Q .non (upd (upd (upd H l (.lst ys)) dx (.xd [("ring",.ref l)])) x (kc C t x (some dx)))
theorem So (T:Tx K mg a):Ga P w K mg base CX0 1 a.Ring "Ring" ["self","ring"] (Sj a.Ring):=T.xi_Ring.cal fun f fd F=>by
 refine F.ok SJ (fun vs H Q E h=>?_) (fun aJ A outer s H vs Q E hr h=>?_)
 ·obtain⟨x,t,g,ys,rfl,_⟩:=h
  rfl
 ·obtain⟨x,t,g,ys,rfl,hx,hg,k⟩:=h
  refine⟨_,(aA (Te (pv 0) (Gh T0 rfl T.n_list Lz (ae (pv 1) ah)) rfl)),?_⟩;exact⟨_,rfl,g,_,rfl,.inl (SqL.of hg),fun l nl=>⟨_,rfl,x,a.Ring,t,rfl,by rw[aj (ap hx nl)];exact hx,T.xs_Ring_ring,fun dx nd=>k l nl dx nd⟩⟩
def spFit (a:Adr):Sp:=fun vs H Q E=>∃ q r ws c,vs=[.ref q]/\bH a.Layout H q r ws c/\H r.p=some (.lst ((List.replicate c (0:Int)).map V.int))/\(wn ws c).Ok/\ws.length<=200/\c<=200 /\
 ((∀ n,n<ws.length->0<=slk (wn ws c) (fn (m8 ws c)) n)->(m8 ws c).length=c->∀ H',Kx [r.p] H H'->H' r.p=some (.lst ((m8 ws c).map V.int))->Q .non H') /\
 ∀ ring l dx H',Kx [r.p] H H'->H' dx=some (.xd [("ring",.ref l)])->H' l=some (.lst (aK ring))->jY (wn ws c) ring->ring.length<=c + 1->E (.ref a.Ring) (some dx) H'
set_option maxHeartbeats 4000000 in
theorem ok_fit (T:Tx K mg a):Cal P w K mg base (CXe P w) 3 "fit" ["layout"] [] (spFit a):=T.d_fit.cal fun f fd F=>by
 have eM:=Ue (P:=P) (w:=w) (base:=base) T;have db:=S1 (P:=P) (w:=w) (base:=base) T;have oG:=So (P:=P) (w:=w) (base:=base) T;refine F.okX rh (fun vs H Q E h=>?_) (fun aJ A outer s H vs Q E hr h=>?_)
 ·obtain⟨q,r,ws,c,rfl,_⟩:=h
  rfl
 ·obtain⟨q,r,ws,c,rfl,L,hp,ok,hw,hc,k1,k2⟩:=h
  obtain⟨dx,ex⟩:=L.ex;refine⟨_,(ao (aR (i:=1) rh.nd rfl (.inl rfl) (cC eQ rfl T.n_len eS (ae (bI (pv 0) rfl) ah)))
   (ao (aR (i:=2) rh.nd rfl (.inl rfl) qh)
   (ao (aR (i:=3) rh.nd rfl (.inl rfl) Jx)
   (ao (c6 PassesOwn.leaving rfl (AQ rfl T.n_range (ae (pv 1) ah)) (aB (i:=4) rh.nd rfl (.inl rfl)) (ao (aR (i:=3) rh.nd rfl (.inl rfl) (aZ eM (hr.mono (by decide)) rfl (ae (pv 0) (ae (pv 2) ah))))
   (aA (fu (zB (pc_isN (pv 3))) (aA T3) fZ))))
   (aA (fu (zB (P4 (pv 3))) (aA (Sf pT oG (hr.mono (by decide)) rfl (ae (aZ db (hr.mono (by decide)) rfl (ae (pv 0) (ae (pv 2) (ae (pv 3) ah)))) ah))) fZ)))))),?_⟩
  refine⟨_,rfl,q,a.Layout,dx,_,_,rfl,ex,T.c_Layout,T.na_Layout_places,pE,r.p,_,rfl,.inl (SqL.of hp),fun d nd=>?_⟩;have lz:((List.replicate c (0:Int)).map V.int).length=c:=by rw[Vd,VS]
  have CJ:r.p≠d:=ap hp nd;have s1:ad H (upd H d (.dK [])):=ad.new nd;have h1:upd H d (.dK []) d=some (.dK []):=af;generalize upd H d (.dK [])=H1 at s1 h1 ⊢;have L1:=L.same s1;have lay:∀ G,Kx [r.p,d] H1 G->bH a.Layout G q r ws c:=fun G kx=>L1.kx kx fun x hx=>by
   rcases VH.mp hx with z|z
   ·exact .inl z
   ·rw[W7.mp z]
    exact .inr (.inr (.inr ⟨[],h1⟩))
  have u6:∀ G,Kx [r.p,d] H1 G->Kx [r.p] H G:=fun G kx b o e z=>kx b o (s1 b o e) fun y=>by
   rcases VH.mp y with y|y
   ·exact z (by rw[y];simp)
   ·rw[W7.mp y,nd] at e
    cases e
  rw[lz];refine⟨_,rfl,_,rfl,by omega,by omega,QY (lo:=0) (n:=((c:Nat):Int).toNat) (fun i σ G=>∃ v4,σ=[some (.ref q),some (.int (c:Nat)),some (.ref d),some (FW (rdF ws c (List.replicate c 0) i).2.2),v4]/\pN ws c i/\Kx [r.p,d] H1 G/\G r.p=some (.lst ((rdF ws c (List.replicate c 0) i).1.map V.int))/\G d=some (.dK (rdF ws c (List.replicate c 0) i).2.1)/\(0<i->(rdF ws c (List.replicate c 0) i).2.2≠none))
   ⟨none,rfl,pN.start ws c,Kx.of (ad.refl _),s1 _ _ hp,h1,fun z=>absurd z (VE _)⟩ ?_ ?_⟩
  ·rintro i σ G hi ⟨v4,rfl,ro,kx,hG,i8,_⟩
   rw[Vn] at hi;obtain⟨l1,l2⟩:=Bc ws c (List.replicate c 0) i;rw[VS] at l1;have l3:i * ws.length<=200 * 200:=Nat.mul_le_mul (by omega) hw;dsimp only[bJ];refine⟨_,rfl,_,rfl,q,r,ws,c,_,d,_,rfl,lay G kx,hG,l1,ok,by omega,i8,by omega,fun H2 gy h2 eA=>?_⟩;obtain⟨OQ,non⟩:=ro.next ok;have st:psh ws c (rdF ws c (List.replicate c 0) i).1 (rdF ws c (List.replicate c 0) i).2.1 ws.length=rdF ws c (List.replicate c 0) (i + 1):=rfl;rw[st] at h2 eA ⊢;refine⟨_,rfl,_,rfl,?_⟩;cases e:(rdF ws c (List.replicate c 0) (i + 1)).2.2 with
   | none=>
    refine gb ?_;obtain⟨e1,e2⟩:=non e;have mG:=JM e2 (c - i);rw[show i + (c - i)=c by omega] at mG;have fp:m8 ws c=(rdF ws c (List.replicate c 0) (i + 1)).1:=mG.trans e1.symm;refine k1 ?_ ?_ H2 (u6 _ (kx.trans gy)) (by rw[fp];exact h2)
    ·rw[fp,e1]
     exact e2
    ·rw[fp,e1]
     exact l1
   | some v=>
    refine ka ?_;exact⟨_,rfl,OQ,kx.trans gy,h2,eA,fun _ z=>by cases z⟩
  ·rintro σ G ⟨v4,rfl,ro,kx,hG,i8,ne⟩
   rw[Vn] at ro hG i8 ne ⊢;obtain⟨l1,l2⟩:=Bc ws c (List.replicate c 0) c;rw[VS] at l1;refine⟨_,rfl,_,rfl,?_⟩;cases e:(rdF ws c (List.replicate c 0) c).2.2 with
   | none=>
    refine ka ?_;have c0:c=0:=by
     rcases Xz c with z|z
     ·exact z
     ·exact absurd e (ne z)
    refine k1 (fun n hn=>?_) l1 G (u6 _ kx) hG;have z:(wn ws c).on n<c:=ok.on n hn;omega
   | some v=>
    refine gb ?_;obtain⟨t,pu,r1,r2,r3,r4⟩:=ro;obtain⟨t1,t2⟩:=r4 v e;refine⟨_,rfl,_,rfl,_,rfl,q,r,ws,c,_,d,_,t,pu,v,rfl,lay G kx,hG,l1,ok,by omega,i8,r1,r2,t1,t2,fun g ring H2 s2 hg ng told len=>?_⟩;refine⟨by show 1<=sizeLine;decide,fun x tk hx=>⟨x,tk,g,aK ring,rfl,af,by rw[aj (ap hg hx)];exact hg,fun l nl d2 kA=>⟨rfl,some d2,af,?_⟩⟩⟩;have lx:l≠x:=fun z=>by rw[z,af] at nl;cases nl
    have dl:d2≠l:=fun z=>by rw[z,af] at kA;cases kA
    rw[aj dl] at kA;have Gw:d2≠x:=fun z=>by rw[z,af] at kA;cases kA
    rw[aj Gw] at kA;rw[aj lx] at nl;have e:del (upd (upd (upd (upd H2 x (kc a.Ring tk x none)) l (.lst (aK ring))) d2 (.xd [("ring",.ref l)])) x (kc a.Ring tk x (some d2))) x=upd (upd H2 l (.lst (aK ring))) d2 (.xd [("ring",.ref l)]):=by
     funext b
     unfold del;by_cases h1:b=x
     ·subst h1
      rw[if_pos rfl,aj (Ne.symm Gw),aj (Ne.symm lx),hx]
     ·rw[if_neg h1,aj h1]
      by_cases h2:b=d2
      ·subst h2;rw[af,af]
      ·rw[aj h2,aj h2]
       by_cases h3:b=l
       ·subst h3;rw[af,af]
       ·rw[aj h3,aj h1,aj h3]
    show E _ _ _;rw[e];have sl:ad H2 (upd H2 l (.lst (aK ring))):=ad.new nl;have Nc:upd H2 l (.lst (aK ring)) d2=none:=by rw[aj dl];exact kA
    have sd:ad (upd H2 l (.lst (aK ring))) (upd (upd H2 l (.lst (aK ring))) d2 (.xd [("ring",.ref l)])):=ad.new Nc;exact k2 ring l d2 _ ((u6 _ kx).trans (Kx.of (s2.trans (sl.trans sd)))) af (by rw[aj (Ne.symm dl)];exact af) told len
end
end K64
namespace K64
open PySem L2
def intOf:Option V->Option Int
 | some (.int i)=>some i
 | _=>none
def gI (kvs:Kvs) (v:Nat):Option Int:=intOf (a9 kvs (Sum.inl (v:Int)))
def Wf (kvs:Kvs):Prop:=∀ p∈kvs,∃ (v:Nat) (i:Int),p=(Sum.inl (v:Int),V.int i)
theorem Wf.val {kvs:Kvs} (h:Wf kvs) (v:Nat):a9 kvs (Sum.inl (v:Int))=(gI kvs v).map V.int:=by
 unfold gI;cases e:a9 kvs (Sum.inl (v:Int)) with
 | none=>rfl
 | some x=>
  unfold a9 at e;obtain⟨p,e1,e2⟩:=Option.map_eq_some_iff.mp e;obtain⟨u,i,e3⟩:=h p (XI e1);rw[e3] at e2;rw[<- e2];rfl
theorem Wf.put {kvs:Kvs} (h:Wf kvs) (v:Nat) (i:Int):Wf (aF kvs (Sum.inl (v:Int)) (.int i)):=fun p hp=>by
 unfold aF at hp;split at hp
 ·obtain⟨p',h1,h2⟩:=List.mem_map.mp hp
  obtain⟨u,j,rfl⟩:=h p' h1;split at h2
  ·exact⟨u,i,h2.symm⟩
  ·exact⟨u,j,h2.symm⟩
 ·rcases XW.mp hp with z|z
  ·exact h p z
  ·exact⟨v,i,W7.mp z⟩
theorem iA (kvs:Kvs) (v:Nat) (i:Int):gI (aF kvs (Sum.inl (v:Int)) (.int i))=up (gI kvs) v (some i):=by
 funext u
 unfold gI;rw[ni];by_cases c:u=v
 ·subst c
  rw[if_pos rfl,aT];rfl
 ·rw[if_neg (fun z=>c (by injection z with z;exact Int.ofNat.inj z)),aG _ _ c]
theorem Wf.dget {H:Hp}{d:Addr}{kvs:Kvs}{v:Nat} (h:Wf kvs) (hd:H d=some (.dK kvs)):fq H d (.int (v:Nat)) ((gI kvs v).map V.int):=.inl ⟨kvs,Sum.inl (v:Int),.inl hd,rfl,(h.val v).symm⟩
def stD (s:Nat×Int):Dt:=.tup [.int s.1,.int s.2]
def sts (ws:List Wt) (c:Nat) (P fl:List Int) (x:Nat):List (Nat×Int):=(goN ws x).map (fun n=>(n,slk (wn ws c) (fn P) n))++((coN ws x).filter fun n=>decide (0<fn fl n)).map fun n=>(n,0)
def near:Option Int->Int->Bool
 | none,_=>true
 | some b,e=>decide (e<b)
def rlx (ws:List Wt) (c:Nat) (far:Kvs) (x:Nat) (a:Int) (s:Kvs×Kvs) (st:Nat×Int):Kvs×Kvs:=
 if (!(gI far (ac (wn ws c) st.1 x)).isSome && near (gI s.1 (ac (wn ws c) st.1 x)) (a + st.2))=true then
  (aF s.1 (Sum.inl ((ac (wn ws c) st.1 x:Nat):Int)) (.int (a + st.2)),aF s.2 (Sum.inl ((ac (wn ws c) st.1 x:Nat):Int)) (.int (st.1:Nat))) else s
def g9 (ws:List Wt) (c:Nat) (P fl:List Int) (far:Kvs) (x:Nat) (a:Int) (s:Kvs×Kvs):Kvs×Kvs:=(sts ws c P fl x).foldl (rlx ws c far x a) s
theorem Kn {ws:List Wt}{c:Nat}{far:Kvs}{x:Nat}{a:Int}{s:Kvs×Kvs}{st:Nat×Int} (h:Wf s.1/\Wf s.2):(Wf (rlx ws c far x a s st).1/\Wf (rlx ws c far x a s st).2)/\(rlx ws c far x a s st).1.length<=s.1.length + 1/\(rlx ws c far x a s st).2.length<=s.2.length + 1:=by
 unfold rlx;split
 ·exact⟨⟨h.1.put _ _,h.2.put _ _⟩,qY _ _ _,qY _ _ _⟩
 ·exact⟨h,by omega,by omega⟩
theorem FC {ws:List Wt}{x n:Nat} (h:n∈goN ws x):n<ws.length:=List.mem_range.mp (List.mem_filter.mp h).1
theorem Fs {ws:List Wt}{x n:Nat} (h:n∈coN ws x):n<ws.length:=List.mem_range.mp (List.mem_filter.mp h).1
theorem sts_lt {ws:List Wt}{c:Nat}{P fl:List Int}{x:Nat}{s:Nat×Int} (h:s∈sts ws c P fl x):s.1<ws.length:=by
 rcases XW.mp h with z|z
 ·obtain⟨n,hn,rfl⟩:=List.mem_map.mp z
  exact FC hn
 ·obtain⟨n,hn,rfl⟩:=List.mem_map.mp z
  exact Fs (List.mem_filter.mp hn).1
theorem KP (ws:List Wt) (x:Nat):(goN ws x).length<=ws.length:=by
 have:=VZ (fun n=>decide ((ws.getD n (0,0,0,0)).1=x)) (List.range ws.length);rw[We] at this;exact this
theorem J5 (ws:List Wt) (x:Nat):(coN ws x).length<=ws.length:=by
 have:=VZ (fun n=>decide ((ws.getD n (0,0,0,0)).2.1=x)) (List.range ws.length);rw[We] at this;exact this
theorem JH {K:PySem.W.Frag}{H:Hp}:∀ {ds:List Dt}{xs:List V}{es:List Dt}{ys:List V},aN K H ds xs->aN K H es ys->aN K H (ds++es) (xs++ys)
 | [],xs,es,ys,h,h'=>by
  have e:xs=[]:=h;subst e;exact h'
 | d::ds,xs,es,ys,h,h'=>by
  obtain⟨y,r,e,h1,h2⟩:=h;subst e;exact⟨y,r++ys,rfl,h1,JH h2 h'⟩
theorem Bq {K:PySem.W.Frag}{H:Hp}{x:V}{s:Nat×Int} (h:DtV K H (stD s) x):∃ t,x=.ref t/\SqT K H t [.int s.1,.int s.2]:=by
 obtain⟨t,xs,rfl,h,y1,r1,rfl,e1,y2,r2,rfl,e2,e3⟩:=h;have z1:y1=.int s.1:=e1;have z2:y2=.int s.2:=e2;have z3:r2=[]:=e3;subst z1 z2 z3;exact⟨t,rfl,h⟩
theorem yY {l:List Nat}{j:Nat}{x:V} (h:(aK l)[j]?=some x):∃ n,l[j]?=some n/\x=.int (n:Nat):=by
 unfold aK at h;rw[Vp] at h;cases e:l[j]? with
 | none=>rw[e] at h;cases h
 | some n=>rw[e] at h;exact⟨n,rfl,(Option.some.inj h).symm⟩
section
variable {P:Program}{w:World}{K:PySem.W.Frag}{mg:Str->Option Value}{base:Heap}{a:Adr}
def spLook (C:Addr):Sp:=fun vs H Q _=>∃ q r ws c p fl fA wA cA far wt cm,∃ (x:Nat) (e:Int),vs=[.ref q,.int x,.ref fA,.ref wA,.ref cA]/\bH C H q r ws c/\H r.p=some (.lst ((p:List Int).map V.int))/\p.length=c/\H r.f=some (.lst ((fl:List Int).map V.int))/\fl.length=ws.length/\(wn ws c).Ok/\ws.length<=200/\x<c /\
 H fA=some (.dK far)/\Wf far/\gI far x=some e/\H wA=some (.dK wt)/\Wf wt/\wt.length<=1000000/\H cA=some (.dK cm)/\Wf cm/\cm.length<=1000000/\fA≠wA/\fA≠cA/\wA≠cA /\
 ∀ H',Kx [wA,cA] H H'->H' wA=some (.dK (g9 ws c p fl far x e (wt,cm)).1)->H' cA=some (.dK (g9 ws c p fl far x e (wt,cm)).2)->Q .non H'
set_option maxHeartbeats 4000000 in
theorem T2 (T:Tx K mg a):Cal P w K mg base CX0 2 "look_around" ["layout","point","far","waiting","came_by"] [] (spLook a.Layout):=T.d_look_around.cal fun f fd F=>by
 have m_Layout_slack:=Jy (P:=P) (w:=w) (base:=base) T;have m_Layout_end_across:=FZ (P:=P) (w:=w) (base:=base) T;refine F.ok rQ (fun vs H Q E h=>?_) (fun aJ A outer s H vs Q E hr h=>?_)
 ·obtain⟨q,r,ws,c,p,fl,fA,wA,cA,far,wt,cm,x,e,rfl,_⟩:=h
  rfl
 ·obtain⟨q,r,ws,c,p,fl,fA,wA,cA,far,wt,cm,x,e,rfl,L,hp,hc,hf,ia,ok,hw,hx,k9,kP,ge,PM,No,bZ,lH,Ew,kO,n1,n2,n3,k⟩:=h
  obtain⟨dx,ex⟩:=L.ex;obtain⟨gs,g1,g2,g3⟩:=L.hg;obtain⟨cs,c1,c2,c3⟩:=L.hc;obtain⟨ga,kM⟩:=gJ (l:=gs) (j:=x) (by omega);obtain⟨ca,l9⟩:=gJ (l:=cs) (j:=x) (by omega);have Iq:=(g3 x ga kM).1;have Hq:=(c3 x ca l9).1;have Ey:atI (gs.map V.ref) (x:Int)=some (.ref ga):=by rw[jH (by omega),Vn,Vp,kM];rfl
  have Fe:atI (cs.map V.ref) (x:Int)=some (.ref ca):=by rw[jH (by omega),Vn,Vp,l9];rfl
  have gl:=KP ws x;have cl:=J5 ws x;refine⟨_,(ao (rE (i:=5) rQ.nd rfl rfl (N:=["number","layout"]) (cap:=[none,some 0]) rfl (cF (osc:=aq pU) (XN:=["layout","point","far","waiting","came_by","steps","number","slack","neighbour","distance"]) rfl rfl (by decide +kernel)) (bU (aL bq (bI (pv 0) rfl) (pv 1) (fun _ _=>rfl))) (fun cl C s H fp aa=>(aB (i:=0) (show(["number","layout"]:List Str).Nodup by decide +kernel) rfl (by first|exact Or.inl rfl|exact Or.inr rfl))) (fun cl C s H fp aa=>cZ) (fun cl C s H fp aa=>(gZ (ae (pv 0) (ae (zT (pv 1) T.c_Layout m_Layout_slack (hr.mono (by decide)) (ae (pv 0) ah)) ah)))) (hsw:=rfl))
   (ao (fw (iF PySem.F.plainAttrs_list PySem.F.slot_list_extend PySem.F.type_list_extend Fh (pv 5) (ae (d7 (N:=["number","layout"]) (cap:=[none,some 0]) rfl (cF (osc:=aq pU) (XN:=["layout","point","far","waiting","came_by","steps","number","slack","neighbour","distance"]) rfl rfl (by decide +kernel)) (bU (aL bq (bI (pv 0) rfl) (pv 1) (fun _ _=>rfl))) (fun cl C s H fp aa=>(aB (i:=0) (show(["number","layout"]:List Str).Nodup by decide +kernel) rfl (by first|exact Or.inl rfl|exact Or.inr rfl))) (fun cl C s H fp aa=>K9 (dH mY (aL (FI (K:=K) rfl) (FB (K:=K) rfl (pv 1) rfl) (pv 0) (fun _ _=>rfl)) ak (bY _))) (fun cl C s H fp aa=>(gZ (ae (pv 0) (ae ak ah))))) ah)))
   (aA (c6 PassesOwn.never rfl (bU (pv 5)) (fE rfl (aU (aB (i:=6) rQ.nd rfl (by first|exact Or.inl rfl|exact Or.inr rfl)) (aU (aB (i:=7) rQ.nd rfl (by first|exact Or.inl rfl|exact Or.inr rfl)) cM))) (ao (aR (i:=8) rQ.nd rfl (by first|exact Or.inl rfl|exact Or.inr rfl) (zT (pv 0) T.c_Layout m_Layout_end_across (hr.mono (by decide)) (ae (pv 6) (ae (pv 1) ah))))
   (ao (aR (i:=9) rQ.nd rfl (by first|exact Or.inl rfl|exact Or.inr rfl) (ay cu (cL (bu hr) (pv 2) (pv 1) (fun _ _=>rfl)) (pv 7)))
   (aA (fu (PW.pt (pw_and (zB (JK (bu hr) (pv 8) (pv 2))) (Tn (PW.pt (Fv (zB (JK (bu hr) (pv 8) (pv 3))) (FN (dH zM (pv 9) (cL (bu hr) (pv 3) (pv 8) (fun _ _=>rfl)) (bY _)))))))) (ao (j6 (bu hr) (pv 3) (pv 8) (pv 9) rfl)
   (aA (j6 (bu hr) (pv 4) (pv 8) (pv 6) rfl))) fZ)))))))),?_⟩
  refine⟨_,rfl,q,a.Layout,dx,_,_,rfl,ex,T.c_Layout,T.na_Layout_going,Li,_,rfl,r.g,_,_,_,rfl,rfl,SqL.of g1,Ey,ga,rfl,⟨_,SqL.of Iq⟩,fun D hD=>?_⟩;refine eP (K:=K) (a:=ga) (xs:=aK (goN ws x)) (fun j τ G=>∃ v1 ys,τ=[v1,some (.ref q)]/\ad H G/\G D=some (.lst ys)/\aN K G ((((goN ws x).take j).map fun n=>(n,slk (wn ws c) (fn p) n)).map stD) ys) ⟨none,[],rfl,ad.new hD,af,rfl⟩ ?_ ?_ ?_
  ·rintro j τ G _ ⟨_,_,rfl,sg,_⟩
   exact SqL.of (sg _ _ Iq)
  ·rintro j y τ G hy ⟨v1,ys,rfl,sg,Ja,bp⟩
   obtain⟨n,hn,rfl⟩:=yY hy;have nl:=FC (Vj hn);have kn:ys.length<=200:=by
    have:=bp.length;rw[Vd,Vd,Vs] at this;omega
   dsimp only[bJ,c5];rw[if_pos rfl];refine⟨_,rfl,_,rfl,q,dx,_,rfl,sg _ _ ex,by rfl,_,rfl,q,r,ws,c,p,n,rfl,L.same sg,sg _ _ hp,hc,nl,ok,(by show 2<=sizeLine;decide),fun z nz=>?_⟩;have s5:ad G (upd G z (.tup [.int (n:Nat),.int (slk (wn ws c) (fn p) n)])):=ad.new nz;have h5:upd G z (.tup [.int (n:Nat),.int (slk (wn ws c) (fn p) n)]) z=some (.tup [.int (n:Nat),.int (slk (wn ws c) (fn p) n)]):=af;generalize upd G z (.tup [.int (n:Nat),.int (slk (wn ws c) (fn p) n)])=H5 at s5 h5 ⊢;refine⟨_,s5 _ _ Ja,by rw[Vo];omega,_,_,rfl,bx hD (sg.trans s5),af,?_⟩;rw[zam hn,Vl,Vl];have kp:Tk H5 (upd H5 D (.lst (ys++[.ref z]))):=Tk.upd (s5 _ _ Ja) rfl;exact aN.snoc (d:=stD (n,slk (wn ws c) (fn p) n)) (kp.dt rfl ⟨z,_,rfl,SqT.of h5,_,_,rfl,rfl,_,_,rfl,rfl,rfl⟩) (kp.dts (dz (fun _=>rfl) _) (s5.dts bp))
  rintro τ H1 ⟨v1,ys,rfl,s1,jJ,kG⟩
  rw[VM (by unfold aK;rw[Vd];exact Vh _)] at kG;have ky:ys.length<=200:=by
   have:=kG.length;rw[Vd,Vd] at this;omega
  have UK:H D=none:=hD;refine⟨_,rfl,.inl ⟨rfl,_,SqL.of jJ⟩,_,rfl,q,a.Layout,dx,_,_,rfl,s1 _ _ ex,T.c_Layout,T.na_Layout_coming,KM,_,rfl,r.c,_,_,_,rfl,rfl,SqL.of (s1 _ _ c1),Fe,ca,rfl,⟨_,SqL.of (s1 _ _ Hq)⟩,fun Z hZ=>?_⟩;refine eP (K:=K) (a:=ca) (xs:=aK (coN ws x)) (fun j τ G=>∃ v1 zs,τ=[v1,some (.ref q)]/\ad H1 G/\G Z=some (.lst zs)/\aN K G (((((coN ws x).take j).filter fun n=>decide (0<fn fl n)).map fun n=>(n,(0:Int))).map stD) zs) ⟨none,[],rfl,ad.new hZ,af,rfl⟩ ?_ ?_ ?_
  ·rintro j τ G _ ⟨_,_,rfl,sg,_⟩
   exact SqL.of (sg _ _ (s1 _ _ Hq))
  ·rintro j y τ G hy ⟨v1,zs,rfl,sg,Bu,bp⟩
   obtain⟨n,hn,rfl⟩:=yY hy;have nl:=Fs (Vj hn);have tg:=s1.trans sg;have kn:zs.length<=200:=by
    have e1:=bp.length;have e2:=VZ (fun n=>decide (0<fn fl n)) ((coN ws x).take j);rw[Vd,Vd] at e1;rw[Vs] at e2;omega
   dsimp only[bJ];refine⟨_,rfl,q,a.Layout,dx,_,_,rfl,tg _ _ ex,T.c_Layout,T.na_Layout_flow,zA,_,rfl,r.f,_,_,_,rfl,rfl,SqL.of (tg _ _ hf),pL (by omega),_,_,rfl,rfl,_,rfl,?_⟩;refine cS (fun b1=>?_) (fun b1=>?_)
   ·have b2:decide (0<fn fl n)=true:=VG (VA b1)
    refine⟨_,rfl,(by show 2<=sizeLine;decide),fun z nz=>?_⟩;have s5:ad G (upd G z (.tup [.int (n:Nat),.int 0])):=ad.new nz;have h5:upd G z (.tup [.int (n:Nat),.int 0]) z=some (.tup [.int (n:Nat),.int 0]):=af;generalize upd G z (.tup [.int (n:Nat),.int 0])=H5 at s5 h5 ⊢;refine⟨_,s5 _ _ Bu,by rw[Vo];omega,_,_,rfl,bx hZ (sg.trans s5),af,?_⟩;rw[zam hn,WK,Wb,if_pos b2,WW,Vl,Vl];have kp:Tk H5 (upd H5 Z (.lst (zs++[.ref z]))):=Tk.upd (s5 _ _ Bu) rfl;exact aN.snoc (d:=stD (n,0)) (kp.dt rfl ⟨z,_,rfl,SqT.of h5,_,_,rfl,rfl,_,_,rfl,rfl,rfl⟩) (kp.dts (dz (fun _=>rfl) _) (s5.dts bp))
   ·have b2:decide (0<fn fl n)=false:=V5 (VY b1)
    refine⟨_,zs,rfl,sg,Bu,?_⟩;rw[zam hn,WK,Wb,if_neg (by rw[b2];decide),WW,WN];exact bp
  rintro τ H2 ⟨v2,zs,rfl,s2,Ia,kC⟩
  rw[VM (by unfold aK;rw[Vd];exact Vh _)] at kC;have kz:zs.length<=200:=by
   have e1:=kC.length;have e2:=VZ (fun n=>decide (0<fn fl n)) (coN ws x);rw[Vd,Vd] at e1;omega
  have c9:=s2 _ _ jJ;refine⟨D,Z,ys,zs,rfl,rfl,c9,Ia,by rw[Vo];omega,?_⟩;have BQ:Tk H2 (upd H2 D (.lst (ys++zs))):=Tk.upd c9 rfl;have iY:aN K (upd H2 D (.lst (ys++zs))) ((sts ws c p fl x).map stD) (ys++zs):=by
   unfold sts;rw[Vl];exact JH (BQ.dts (dz (fun _=>rfl) _) (s2.dts kG)) (BQ.dts (dz (fun _=>rfl) _) kC)
  have s3:ad H (upd H2 D (.lst (ys++zs))):=bx hD (s1.trans s2);have h3:upd H2 D (.lst (ys++zs)) D=some (.lst (ys++zs)):=af;generalize upd H2 D (.lst (ys++zs))=H3 at iY s3 h3 ⊢;clear kG kC jJ c9 Ia BQ s1 s2;have EG:=s3 _ _ k9;have kK:=s3 _ _ PM;have kH:=s3 _ _ lH;have L3:=L.same s3;generalize cJ:sts ws c p fl x=st at iY;have qK:∀ s∈st,s.1<ws.length:=fun s hs=>sts_lt (by rw[cJ];exact hs)
  have UF:st.length<=400:=by
   have:=iY.length;rw[Vd,VD] at this;omega
  have lay:∀ G,Kx [wA,cA] H3 G->bH a.Layout G q r ws c:=fun G kx=>L3.kx kx fun y hy=>by
   rcases VH.mp hy with z|z
   ·rw[z]
    exact .inr (.inr (.inr ⟨wt,kK⟩))
   ·rw[W7.mp z]
    exact .inr (.inr (.inr ⟨cm,kH⟩))
  have yK:∀ G,Kx [wA,cA] H3 G->Tk H3 G:=fun G kx b o e z=>kx b o e fun y=>by
   rcases VH.mp y with y|y
   ·rw[y,kK] at e
    cases e
    cases z
   ·rw[W7.mp y,kH] at e
    cases e
    cases z
  have kD:∀ G,Kx [wA,cA] H3 G->G D=some (.lst (ys++zs)):=fun G kx=>kx _ _ h3 fun y=>by
   rcases VH.mp y with y|y
   ·rw[y,kK] at h3
    cases h3
   ·rw[W7.mp y,kH] at h3
    cases h3
  have kF:∀ G,Kx [wA,cA] H3 G->G fA=some (.dK far):=fun G kx=>kx _ _ EG fun y=>by
   rcases VH.mp y with y|y
   ·exact n1 y
   ·exact n2 (W7.mp y)
  refine⟨_,rfl,D,rfl,⟨_,SqL.of h3⟩,jC (K:=K) (a:=D) (xs:=ys++zs) (fun i σ G=>∃ v6 v7 v8 v9,σ=[some (.ref q),some (.int (x:Nat)),some (.ref fA),some (.ref wA),some (.ref cA),some (.ref D),v6,v7,v8,v9]/\Kx [wA,cA] H3 G/\G wA=some (.dK ((st.take i).foldl (rlx ws c far x e) (wt,cm)).1)/\G cA=some (.dK ((st.take i).foldl (rlx ws c far x e) (wt,cm)).2)/\(Wf ((st.take i).foldl (rlx ws c far x e) (wt,cm)).1/\Wf ((st.take i).foldl (rlx ws c far x e) (wt,cm)).2)/\((st.take i).foldl (rlx ws c far x e) (wt,cm)).1.length<=1000000 + i/\((st.take i).foldl (rlx ws c far x e) (wt,cm)).2.length<=1000000 + i)
   ⟨none,none,none,none,rfl,Kx.of (ad.refl _),kK,kH,⟨No,Ew⟩,bZ,kO⟩ ?_ ?_ ?_⟩
  ·rintro i σ G _ ⟨_,_,_,_,rfl,kx,_⟩
   exact SqL.of (kD G kx)
  ·rintro i y σ G hy ⟨v6,v7,v8,v9,rfl,kx,kR,mE,wf,lw,lc⟩
   obtain⟨⟨n,d⟩,hs,ds⟩:=eX iY hy;have hi:i<st.length:=(List.getElem?_eq_some_iff.mp hs).1;have nl:=qK _ (Vj hs);obtain⟨t,rfl,ht⟩:=Bq ((yK G kx).dt rfl ds);have LG:=lay G kx;obtain⟨AK,ex3⟩:=LG.ex;have fo:(st.take (i + 1)).foldl (rlx ws c far x e) (wt,cm)=rlx ws c far x e ((st.take i).foldl (rlx ws c far x e) (wt,cm)) (n,d):=by rw[zam hs,Wd];rfl
   rw[fo];obtain⟨r1,r2,r3⟩:=Kn (ws:=ws) (c:=c) (far:=far) (x:=x) (a:=e) (st:=(n,d)) wf;generalize (st.take i).foldl (rlx ws c far x e) (wt,cm)=now at kR mE wf lw lc r1 r2 r3 ⊢;refine⟨t,_,rfl,ht,rfl,_,_,rfl,_,_,rfl,rfl,?_⟩;refine⟨_,rfl,q,AK,_,rfl,ex3,by rfl,_,rfl,_,rfl,q,r,ws,c,n,x,rfl,LG,nl,?_⟩;have gf:=kP.dget (v:=x) (kF G kx);rw[ge] at gf;refine⟨_,rfl,_,rfl,fA,_,rfl,gf,_,rfl,_,_,rfl,rfl,?_⟩;generalize Az:ac (wn ws c) n x=nb;have gn:=kP.dget (v:=nb) (kF G kx);have gw:=wf.1.dget (v:=nb) kR;have rx:rlx ws c far x e now (n,d)=if (!(gI far nb).isSome && near (gI now.1 nb) (e + d))=true then(aF now.1 (Sum.inl ((nb:Nat):Int)) (.int (e + d)),aF now.2 (Sum.inl ((nb:Nat):Int)) (.int (n:Nat))) else now:=by rw[<- Az];rfl
   dsimp only[bJ];refine⟨_,rfl,_,rfl,fA,_,rfl,gn,_,rfl,?_⟩;cases ef:gI far nb with
   | some b=>
    rw[ef] at rx;have rx:rlx ws c far x e now (n,d)=now:=rx;refine ka (ka ⟨_,_,_,_,rfl,kx,?_,?_,r1,by omega,by omega⟩)
    ·rw[rx];exact kR
    ·rw[rx];exact mE
   | none=>
    rw[ef] at rx;refine gb ?_;refine⟨_,rfl,_,rfl,wA,_,rfl,gw,_,rfl,?_⟩;cases ew:gI now.1 nb with
    | none=>
     rw[ew] at rx;have rx:rlx ws c far x e now (n,d)=(aF now.1 (Sum.inl ((nb:Nat):Int)) (.int (e + d)),aF now.2 (Sum.inl ((nb:Nat):Int)) (.int (n:Nat))):=rx;refine gb (gb ?_);refine⟨_,rfl,_,rfl,_,rfl,wA,_,rfl,.inl ⟨now.1,Sum.inl ((nb:Nat):Int),kR,rfl,by rw[Vo];omega,rfl⟩,?_⟩;refine⟨_,rfl,_,rfl,_,rfl,cA,_,rfl,.inl ⟨now.2,Sum.inl ((nb:Nat):Int),by rw[aj (Ne.symm n3)];exact mE,rfl,by rw[Vo];omega,rfl⟩,?_⟩;refine⟨_,_,_,_,rfl,(kx.trans (Kx.upd (by simp))).trans (Kx.upd (by simp)),?_,?_,r1,by omega,by omega⟩
     ·rw[aj n3,af,rx]
     ·rw[af,rx]
    | some b=>
     rw[ew] at rx gw;refine ka ?_;refine⟨_,rfl,_,rfl,_,rfl,wA,_,rfl,gw,_,_,rfl,rfl,_,rfl,?_⟩;refine cS (fun b1=>?_) (fun b1=>?_)
     ·have b2:decide (e + d<b)=true:=b1
      have rx:rlx ws c far x e now (n,d)=(aF now.1 (Sum.inl ((nb:Nat):Int)) (.int (e + d)),aF now.2 (Sum.inl ((nb:Nat):Int)) (.int (n:Nat))):=by
       rw[rx];exact if_pos b2
      refine⟨_,rfl,_,rfl,_,rfl,wA,_,rfl,.inl ⟨now.1,Sum.inl ((nb:Nat):Int),kR,rfl,by rw[Vo];omega,rfl⟩,?_⟩;refine⟨_,rfl,_,rfl,_,rfl,cA,_,rfl,.inl ⟨now.2,Sum.inl ((nb:Nat):Int),by rw[aj (Ne.symm n3)];exact mE,rfl,by rw[Vo];omega,rfl⟩,?_⟩;refine⟨_,_,_,_,rfl,(kx.trans (Kx.upd (by simp))).trans (Kx.upd (by simp)),?_,?_,r1,by omega,by omega⟩
      ·rw[aj n3,af,rx]
      ·rw[af,rx]
     ·have b2:decide (e + d<b)=false:=b1
      have rx:rlx ws c far x e now (n,d)=now:=by
       rw[rx];exact if_neg (by show ¬ decide (e + d<b)=true;rw[b2];decide)
      refine⟨_,_,_,_,rfl,kx,?_,?_,r1,by omega,by omega⟩
      ·rw[rx];exact kR
      ·rw[rx];exact mE
  ·rintro σ G ⟨v6,v7,v8,v9,rfl,kx,kR,mE,_⟩
   have hl:(ys++zs).length=st.length:=by rw[<- iY.length,Vd]
   rw[hl,Vv] at kR mE;refine k G (fun b o q z=>kx b o (s3 b o q) z) ?_ ?_
   ·rw[kR]
    unfold g9;rw[cJ]
   ·rw[mE]
    unfold g9;rw[cJ]
end
end K64
namespace K64
open PySem L2
def cI (kvs:Kvs) (v:Nat):Option Nat:=(gI kvs v).map Int.toNat
theorem Ki (kvs:Kvs) (v n:Nat):cI (aF kvs (Sum.inl (v:Int)) (.int (n:Nat)))=up (cI kvs) v (some n):=by
 funext u
 unfold cI;rw[iA];by_cases c:u=v
 ·subst c
  rw[aT,aT];rfl
 ·rw[aG _ _ c,aG _ _ c]
theorem Arc.to {N:Wn}{P fl:Nat->Int}{q p n:Nat}{d:Int} (A:Arc N P fl q p n d):p=K64.ac N n q:=by
 unfold K64.ac;obtain⟨_,⟨h1,h2,_⟩|⟨h1,h2,_⟩⟩:=A
 ·by_cases c:N.ot n=q
  ·rw[if_pos c,h1,<- c,h2]
  ·rw[if_neg c,h2]
 ·rw[if_pos h1,h2]
theorem Rf {ws:List Wt}{c:Nat}{P fl:List Int}{x n:Nat}{d:Int} (h:(n,d)∈sts ws c P fl x):Arc (wn ws c) (fn P) (fn fl) x (ac (wn ws c) n x) n d:=by
 have key:∀ p,Arc (wn ws c) (fn P) (fn fl) x p n d->Arc (wn ws c) (fn P) (fn fl) x (ac (wn ws c) n x) n d:=fun p A=>by
  have e:=A.to;rw[<- e];exact A
 rcases XW.mp h with z|z
 ·obtain⟨n',hn,e⟩:=List.mem_map.mp z
  cases e
  exact key ((wn ws c).ot n) ⟨FC hn,.inl ⟨VA (List.mem_filter.mp hn).2,rfl,rfl⟩⟩
 ·obtain⟨n',hn,e⟩:=List.mem_map.mp z
  cases e
  obtain⟨h1,h2⟩:=List.mem_filter.mp hn;exact key ((wn ws c).on n) ⟨Fs h1,.inr ⟨VA (List.mem_filter.mp h1).2,rfl,VA h2,rfl⟩⟩
theorem Tj {ws:List Wt}{c:Nat}{P fl:List Int}{x p n:Nat}{d:Int} (A:Arc (wn ws c) (fn P) (fn fl) x p n d):(n,d)∈sts ws c P fl x:=by
 obtain⟨hn,⟨h1,h2,h3⟩|⟨h1,h2,h3,h4⟩⟩:=A
 ·exact VN _ (List.mem_map.mpr ⟨n,List.mem_filter.mpr ⟨List.mem_range.mpr hn,VG h1⟩,by rw[h3]⟩)
 ·exact Vr _ (List.mem_map.mpr ⟨n,List.mem_filter.mpr ⟨List.mem_filter.mpr ⟨List.mem_range.mpr hn,VG h1⟩,VG h3⟩,by rw[h4]⟩)
theorem Tf {ws:List Wt}{c:Nat}{P fl:List Int}{nd:Nat->Int}{far wt cm:Kvs}{rk:Nat->Nat}{size x:Nat}{a:Int} (ok:(wn ws c).Ok) (ti:Ti (wn ws c) (fn P) (fn fl)) (hx:gI far x=some a) (mx:∀ q b,gI far q=some b->b<=a)
  (h:Se (wn ws c) (fn P) (fn fl) nd (gI far) (gI wt) (cI cm) rk size fun q _ _=>q≠x/\gI far q≠none) :
  Se (wn ws c) (fn P) (fn fl) nd (gI far) (gI (g9 ws c P fl far x a (wt,cm)).1) (cI (g9 ws c P fl far x a (wt,cm)).2) rk size fun q _ _=>gI far q≠none:=by
 have gen:∀ j,j<=(sts ws c P fl x).length->Se (wn ws c) (fn P) (fn fl) nd (gI far) (gI (((sts ws c P fl x).take j).foldl (rlx ws c far x a) (wt,cm)).1) (cI (((sts ws c P fl x).take j).foldl (rlx ws c far x a) (wt,cm)).2) rk size fun q n d=>(q≠x/\gI far q≠none)\/(q=x/\(n,d)∈(sts ws c P fl x).take j):=fun j=>by
  induction j with
  | zero=>
   intro _;refine⟨h.dj,h.lo,h.nn,h.ro,h.cb,h.ck,h.rk,fun q n d p b A L e=>h.ar q n d p b A ?_ e⟩;rcases L with L|⟨_,L⟩
   ·exact L
   ·cases L
  | succ j ih=>
   intro hj;have ih:=ih (by omega);obtain⟨⟨n,d⟩,hs⟩:∃ s,(sts ws c P fl x)[j]?=some s:=⟨(sts ws c P fl x)[j],Vg (by omega)⟩;have A:=Rf (Vj hs);have tk:(sts ws c P fl x).take (j + 1)=(sts ws c P fl x).take j++[(n,d)]:=by rw[XE,hs];rfl
   have hl:∀ q n' d',((q≠x/\gI far q≠none)\/(q=x/\(n',d')∈(sts ws c P fl x).take (j + 1)))->((q≠x/\gI far q≠none)\/(q=x/\(n',d')∈(sts ws c P fl x).take j))\/(q=x/\n'=n/\d'=d):=fun q n' d' z=>by
    rcases z with z|⟨z1,z2⟩
    ·exact .inl (.inl z)
    ·rw[tk] at z2
     rcases XW.mp z2 with y|y
     ·exact .inl (.inr ⟨z1,y⟩)
     ·have e:=W7.mp y
      injection e with e1 e2
      exact .inr ⟨z1,e1,e2⟩
   have ta:∀ p',Arc (wn ws c) (fn P) (fn fl) x p' n d->p'=ac (wn ws c) n x:=fun p' A'=>A'.to
   have fo:((sts ws c P fl x).take (j + 1)).foldl (rlx ws c far x a) (wt,cm)=rlx ws c far x a (((sts ws c P fl x).take j).foldl (rlx ws c far x a) (wt,cm)) (n,d):=by rw[tk,Wd];rfl
   rw[fo];generalize ((sts ws c P fl x).take j).foldl (rlx ws c far x a) (wt,cm)=now at ih ⊢;unfold rlx;cases ef:gI far (ac (wn ws c) n x) with
   | some b=>
    have e:(!(gI far (ac (wn ws c) n x)).isSome && near (gI now.1 (ac (wn ws c) n x)) (a + d))=false:=by rw[ef];rfl
    rw[if_neg (by rw[ef] at e;rw[e];decide)];exact ih.keep ti hx mx A (.inl ⟨b,ef⟩) hl ta
   | none=>
    cases ew:gI now.1 (ac (wn ws c) n x) with
    | none=>
     rw[if_pos (show(!(none:Option Int).isSome && near none (a + d))=true from rfl),iA,Ki];exact ih.near ok ti hx mx A ef (fun b z=>by rw[ew] at z;cases z) hl ta
    | some b=>
     by_cases cc:a + d<b
     ·rw[if_pos (by show(true && decide (a + d<b))=true;rw[VG cc];rfl),iA,Ki]
      exact ih.near ok ti hx mx A ef (fun b' z=>by rw[ew] at z;cases z;exact cc) hl ta
     ·rw[if_neg (by show ¬ (true && decide (a + d<b))=true;rw[V5 cc];decide)]
      exact ih.keep ti hx mx A (.inr ⟨b,ew,by omega⟩) hl ta
 have aO:=gen _ (Vh _);rw[Vv] at aO;refine⟨aO.dj,aO.lo,aO.nn,aO.ro,aO.cb,aO.ck,aO.rk,fun q n d p b A L e=>aO.ar q n d p b A ?_ e⟩;by_cases z:q=x
 ·exact .inr ⟨z,by rw[z] at A;exact Tj A⟩
 ·exact .inl ⟨z,L⟩
end K64
namespace K64
open PySem L2
theorem SD {key:V->Int}{xs:List V}{m m':V} (h:lq key xs m) (h':lq key xs m'):m=m':=by
 obtain⟨i,e,l,f⟩:=h;obtain⟨i',e',l',f'⟩:=h';rcases Yr i i' with c|c|c
 ·have:=f' i m c e
  have:=l i' m' e';omega
 ·subst c
  rw[e] at e';exact Option.some.inj e'
 ·have:=f i' m' c e'
  have:=l' i m e;omega
def kyF (wt:Kvs):V->Int
 | .int i=>(gI wt i.toNat).getD 0
 | _=>0
open Classical in
def mn (wt:Kvs):Nat:=if h:∃ x:Nat,lq (kyF wt) (L2.zbz wt) (.int (x:Nat)) then Classical.choose h else 0
theorem mn_eq {wt:Kvs}{x:Nat} (h:lq (kyF wt) (L2.zbz wt) (.int (x:Nat))):mn wt=x:=by
 have e:∃ x:Nat,lq (kyF wt) (L2.zbz wt) (.int (x:Nat)):=⟨x,h⟩;unfold mn;rw[dif_pos e];have z:=SD (Classical.choose_spec e) h;injection z with z
 exact Int.ofNat.inj z
theorem Wf.drop {kvs:Kvs} (h:Wf kvs) (k:Key):Wf (dA kvs k):=fun p hp=>h p (List.mem_filter.mp hp).1
theorem QR (kvs:Kvs) (k:Key):(dA kvs k).length<=kvs.length:=VZ _ _
theorem K4 (k j:Key):∀ kvs:Kvs,a9 (dA kvs k) j=if j=k then none else a9 kvs j
 | []=>by split <;> rfl
 | p::r=>by
  have ih:=K4 k j r;unfold dA at ih ⊢;by_cases c:p.1=k
  ·rw[Wb,if_neg (by simp[c]),ih]
   by_cases c2:j=k
   ·rw[if_pos c2,if_pos c2]
   ·rw[if_neg c2,if_neg c2,fB (fun z=>c2 (by rw[<- z,c]))]
  ·rw[Wb,if_pos (by simp[c])]
   by_cases c3:p.1=j
   ·rw[gK c3,if_neg (fun z=>c (by rw[c3,z])),gK c3]
   ·rw[fB c3,ih,fB c3]
theorem KJ (kvs:Kvs) (v:Nat):gI (dA kvs (Sum.inl (v:Int)))=up (gI kvs) v none:=by
 funext u
 unfold gI;rw[K4];by_cases c:u=v
 ·subst c
  rw[if_pos rfl,aT];rfl
 ·rw[if_neg (fun z=>c (by injection z with z;exact Int.ofNat.inj z)),aG _ _ c]
theorem Wf.has {kvs:Kvs} (h:Wf kvs){p:Key×V} (hp:p∈kvs):∃ v i,p.1=Sum.inl ((v:Nat):Int)/\gI kvs v=some i:=by
 obtain⟨v,i,rfl⟩:=h p hp;have z:(a9 kvs (Sum.inl (v:Int))).isSome=true:=by
  rw[<- rS];exact List.any_eq_true.mpr ⟨_,hp,VG rfl⟩
 rw[h.val v] at z;obtain⟨y,e⟩:=Option.isSome_iff_exists.mp z;cases g:gI kvs v with
 | none=>rw[g] at e;cases e
 | some j=>exact⟨v,j,rfl,g⟩
theorem Wf.mem {kvs:Kvs}{v:Nat}{i:Int} (g:gI kvs v=some i):V.int (v:Nat)∈L2.zbz kvs:=by
 unfold gI at g;cases e:a9 kvs (Sum.inl (v:Int)) with
 | none=>rw[e] at g;cases g
 | some x=>
  unfold a9 at e;obtain⟨p,e1,e2⟩:=Option.map_eq_some_iff.mp e;have m:=XI e1;have c:=List.find?_some e1;unfold L2.zbz;refine List.mem_map.mpr ⟨p,m,?_⟩;rw[show p.1=Sum.inl (v:Int) from VA c];rfl
theorem Wf.least {kvs:Kvs} (h:Wf kvs){m:V} (f:lq (kyF kvs) (L2.zbz kvs) m):m=.int (mn kvs:Nat)/\∃ a,gI kvs (mn kvs)=some a/\∀ q b,gI kvs q=some b->a<=b:=by
 obtain⟨i,e,l,fl⟩:=id f;have mm:=Vj e;unfold L2.zbz at mm;obtain⟨p,hp,rfl⟩:=List.mem_map.mp mm;obtain⟨v,a,e1,e2⟩:=h.has hp;rw[e1] at f l ⊢;have f:lq (kyF kvs) (L2.zbz kvs) (.int (v:Nat)):=f;have z:=mn_eq f;rw[z];refine⟨rfl,a,e2,fun q b g=>?_⟩;obtain⟨j,hj⟩:=List.mem_iff_getElem?.mp (Wf.mem g);have y:=l j _ hj;have y1:kyF kvs (kV (Sum.inl ((v:Nat):Int)))=a:=by
  show(gI kvs ((v:Nat):Int).toNat).getD 0=a;rw[Vn,e2];rfl
 have y2:kyF kvs (V.int (q:Nat))=b:=by
  show(gI kvs ((q:Nat):Int).toNat).getD 0=b;rw[Vn,g];rfl
 rw[y1,y2] at y;exact y
def left (far:Nat->Option Int) (c:Nat):Nat:=(sm (fun v=>if (far v).isSome=true then 0 else 1) c).toNat
theorem Rx {far:Nat->Option Int}{c x:Nat}{a:Int} (hx:x<c) (h:far x=none):left (up far x (some a)) c<left far c:=by
 have e:sm (fun v=>if (far v).isSome=true then 0 else 1) c=sm (fun v=>(if (up far x (some a) v).isSome=true then 0 else 1) + (if v=x then 1 else 0)) c:=cT c fun v _=>by
  by_cases z:v=x
  ·subst z
   rw[h,aT,if_pos (show v=v from rfl)];rfl
  ·rw[aG _ _ z,if_neg z]
   omega
 rw[ra,rq,if_pos hx] at e;have nn:=zP (f:=fun v=>if (up far x (some a) v).isSome=true then 0 else 1) c fun v _=>by
  show(0:Int)<=if (up far x (some a) v).isSome=true then 0 else 1;split <;> decide
 unfold left;omega
end K64
namespace K64
open PySem L2
def w0 (nd:List Int):Nat->Kvs
 | 0=>[]
 | k + 1=>if fn nd k<0 then aF (w0 nd k) (Sum.inl ((k:Nat):Int)) (.int 0) else w0 nd k
theorem FV (nd:List Int):∀ k,Wf (w0 nd k)/\(w0 nd k).length<=k/\∀ p,gI (w0 nd k) p=if p<k/\fn nd p<0 then some 0 else none
 | 0=>⟨(fun p hp=>by cases hp),Vh _,fun p=>by rw[if_neg (fun z=>absurd z.1 (Wj _))];rfl⟩
 | k + 1=>by
  obtain⟨h1,h2,h3⟩:=FV nd k;unfold w0;by_cases c:fn nd k<0
  ·rw[if_pos c]
   refine⟨h1.put _ _,VL (qY _ _ _) (by omega),fun p=>?_⟩;rw[iA];by_cases z:p=k
   ·subst z
    rw[aT,if_pos ⟨Wa _,c⟩]
   ·rw[aG _ _ z,h3]
    by_cases y:p<k/\fn nd p<0
    ·rw[if_pos y,if_pos ⟨by omega,y.2⟩]
    ·rw[if_neg y,if_neg (fun q=>y ⟨by omega,q.2⟩)]
  ·rw[if_neg c]
   refine⟨h1,by omega,fun p=>?_⟩;rw[h3];by_cases z:p=k
   ·subst z
    rw[if_neg (fun q=>c q.2),if_neg (fun q=>c q.2)]
   ·by_cases y:p<k/\fn nd p<0
    ·rw[if_pos y,if_pos ⟨by omega,y.2⟩]
    ·rw[if_neg y,if_neg (fun q=>y ⟨by omega,q.2⟩)]
theorem Sw (ws:List Wt) (c:Nat) (P fl:List Int) (x:Nat):(sts ws c P fl x).length<=2 * ws.length:=by
 unfold sts;rw[VD,Vd,Vd];have h1:=KP ws x;have h2:=J5 ws x;have h3:=VZ (fun n=>decide (0<fn fl n)) (coN ws x);omega
theorem JE {ws:List Wt}{c:Nat}{far:Kvs}{x:Nat}{a:Int}:∀ (st:List (Nat×Int)){s:Kvs×Kvs},Wf s.1/\Wf s.2->(Wf (st.foldl (rlx ws c far x a) s).1/\Wf (st.foldl (rlx ws c far x a) s).2)/\(st.foldl (rlx ws c far x a) s).1.length<=s.1.length + st.length/\(st.foldl (rlx ws c far x a) s).2.length<=s.2.length + st.length
 | [],s,h=>⟨h,Vh _,Vh _⟩
 | t::st,s,h=>by
  obtain⟨r1,r2,r3⟩:=Kn (ws:=ws) (c:=c) (far:=far) (x:=x) (a:=a) (st:=t) h;obtain⟨f1,f2,f3⟩:=JE (ws:=ws) (c:=c) (far:=far) (x:=x) (a:=a) st r1;refine⟨f1,?_,?_⟩
  ·show(st.foldl _ (rlx ws c far x a s t)).1.length<=_
   rw[Vw];omega
  ·show(st.foldl _ (rlx ws c far x a s t)).2.length<=_
   rw[Vw];omega
theorem T5 {ws:List Wt}{c:Nat}{P fl:List Int}{far:Kvs}{x:Nat}{a:Int}{s:Kvs×Kvs} (h:Wf s.1/\Wf s.2):(Wf (g9 ws c P fl far x a s).1/\Wf (g9 ws c P fl far x a s).2)/\(g9 ws c P fl far x a s).1.length<=s.1.length + 2 * ws.length/\(g9 ws c P fl far x a s).2.length<=s.2.length + 2 * ws.length:=by
 obtain⟨f1,f2,f3⟩:=JE (ws:=ws) (c:=c) (far:=far) (x:=x) (a:=a) (sts ws c P fl x) h;have:=Sw ws c P fl x;exact⟨f1,VL f2 (by omega),VL f3 (by omega)⟩
abbrev Sst:=Kvs×Kvs×Kvs
def tkF (s:Sst):Kvs:=aF s.1 (Sum.inl ((mn s.2.1:Nat):Int)) (.int ((gI s.2.1 (mn s.2.1)).getD 0))
def aY (ws:List Wt) (c:Nat) (P fl:List Int) (s:Sst):Sst:=(tkF s,g9 ws c P fl (tkF s) (mn s.2.1) ((gI s.2.1 (mn s.2.1)).getD 0) (dA s.2.1 (Sum.inl ((mn s.2.1:Nat):Int)),s.2.2))
theorem L6 (far:Nat->Option Int):∀ c,left far c<=c/\0<=sm (fun v=>if (far v).isSome=true then 0 else 1) c
 | 0=>⟨Vh _,V1 _⟩
 | c + 1=>by
  obtain⟨h1,h2⟩:=L6 far c;unfold left at h1 ⊢;have e:sm (fun v=>if (far v).isSome=true then 0 else 1) (c + 1)=sm (fun v=>if (far v).isSome=true then 0 else 1) c + (if (far c).isSome=true then 0 else 1):=rfl;rw[e];by_cases z:(far c).isSome=true
  ·rw[if_pos z]
   omega
  ·rw[if_neg z]
   omega
end K64
namespace K64
open PySem L2
structure qU (ws:List Wt) (c:Nat) (P fl nd:List Int) (k x:Nat) (far cm:Kvs):Prop where
 at_:x=mn (itr (aY ws c P fl) k ([],w0 nd c,[])).2.1
 far:far=tkF (itr (aY ws c P fl) k ([],w0 nd c,[]))
 cm:cm=(itr (aY ws c P fl) k ([],w0 nd c,[])).2.2
 pos:0<fn nd x
 no:∀ j,j<k->¬ 0<fn nd (mn (itr (aY ws c P fl) j ([],w0 nd c,[])).2.1)
theorem Se.less {N:Wn}{P fl nd:Nat->Int}{far wt:Nat->Option Int}{cm:Nat->Option Nat}{rk:Nat->Nat}{size:Nat}{Lk Lk':Nat->Nat->Int->Prop} (h:Se N P fl nd far wt cm rk size Lk) (hl:∀ q n d,Lk' q n d->Lk q n d):Se N P fl nd far wt cm rk size Lk':=
 ⟨h.dj,h.lo,h.nn,h.ro,h.cb,h.ck,h.rk,fun q n d p b A L e=>h.ar q n d p b A (hl q n d L) e⟩
section
variable {P:Program}{w:World}{K:PySem.W.Frag}{mg:Str->Option Value}{base:Heap}{a:Adr}
def Uf (t:Adr):Sp:=fun vs H Q _=>∃ q r ws c p fl nd fA cA eG,∃ k0:Nat,vs=[.ref q,.ref fA,.ref cA]/\bH t.Layout H q r ws c/\H r.p=some (.lst ((p:List Int).map V.int))/\p.length=c/\H r.f=some (.lst ((fl:List Int).map V.int))/\fl.length=ws.length/\H r.n=some (.lst ((nd:List Int).map V.int))/\nd.length=c/\(wn ws c).Ok/\ws.length<=200/\c<=200 /\
 H fA=some (.dK [])/\H cA=some (.dK [])/\fA≠cA/\Ti (wn ws c) (fn p) (fn fl)/\(∀ n,n<ws.length->0<=eG n)/\(∀ v,v<c->fn nd v=bal (wn ws c) eG v - bal (wn ws c) (fn fl) v)/\k0<c/\0<fn nd k0 /\
 H t.tb_search=some (.tbl p7 pK) /\
 ∀ k x far cm H',Kx [fA,cA] H H'->qU ws c p fl nd k x far cm->H' fA=some (.dK far)->H' cA=some (.dK cm)->Wf far->Wf cm->far.length<=1000000->cm.length<=1000000 ->
  (∃ wt rk size D,size<=1000/\Se (wn ws c) (fn p) (fn fl) (fn nd) (gI far) wt (cI cm) rk size (fun q _ _=>q≠x/\gI far q≠none)/\gI far x=some D/\(∀ q b,gI far q=some b->b<=D)/\∀ q b,wt q=some b->D<=b)->Q (.int (x:Nat)) H'
set_option maxHeartbeats 4000000 in
theorem Ts (T:Tx K mg a):Cal P w K mg base CX0 4 "search" ["layout","far","came_by"] [] (Uf a):=T.d_search.calL T.lam_search fun f fd F LM=>by
 have dc:=T2 (P:=P) (w:=w) (base:=base) T;refine F.okL LM yZ (fun vs H Q E h=>?_) (fun cc A outer s H vs Q E hc hr h=>?_)
 ·obtain⟨q,r,ws,c,p,fl,nd,fA,cA,eG,k0,rfl,_⟩:=h
  rfl
 ·obtain⟨q,r,ws,c,p,fl,nd,fA,cA,eG,k0,rfl,L,hp,jN,hf,ia,hn,c8,ok,hw,jR,k9,lH,oY,ti,tK,hnd,BK,om,iV,k⟩:=h
  obtain⟨dx,ex⟩:=L.ex;refine⟨_,(ao (aR (i:=3) yZ.nd rfl (by first|exact Or.inl rfl|exact Or.inr rfl) qh)
   (ao (c6 PassesOwn.never rfl (pO rfl T.n_enumerate (ae (bI (pv 0) rfl) ah)) (fE rfl (aU (aB (i:=4) yZ.nd rfl (by first|exact Or.inl rfl|exact Or.inr rfl)) (aU (aB (i:=5) yZ.nd rfl (by first|exact Or.inl rfl|exact Or.inr rfl)) cM))) (aA (fu (dH zM (pv 5) ak (bY _)) (aA (j6 (bu hr) (pv 3) (pv 4) ak rfl)) fZ)))
   (aA (y8 PassesOwn.never (zr Bd) (ao (aR (i:=4) yZ.nd rfl (by first|exact Or.inl rfl|exact Or.inr rfl) (R0 (N:=["candidate","waiting"]) (cap:=[none,some 3]) rfl T.n_min hr (ae (pv 3) ah) rfl hc (cF (osc:=aq rA) (XN:=["layout","far","came_by","waiting","point","need"]) rfl rfl (by decide +kernel)) (fun f c' s H=>(cL (bu (bn.deeper (k:=0) (bn.in1 (hr.mono (by decide))) _)) (pv 1) (pv 0) (fun _ _=>rfl)))))
   (ao (j6 (bu hr) (pv 1) (pv 4) (Sg (pv 3) (pv 4) ⟨rfl,rfl,rfl,rfl⟩) rfl)
   (ao (fu (dH mY (aL bq (bI (pv 0) rfl) (pv 4) (fun _ _=>rfl)) ak (bY _)) (aA (bM (pv 4))) fZ)
   (aA (fw (aZ dc (hr.mono (by decide)) rfl (ae (pv 0) (ae (pv 4) (ae (pv 1) (ae (pv 3) (ae (pv 2) ah))))))))))))))),?_⟩
  refine fun wA Ax=>?_
  have yT:fA≠wA:=ap k9 Ax;have EK:cA≠wA:=ap lH Ax;have s1:ad H (upd H wA (.dK [])):=ad.new Ax;have h1:upd H wA (.dK []) wA=some (.dK []):=af;generalize upd H wA (.dK [])=H1 at s1 h1 ⊢;have HL:∀ y∈[fA,cA,wA],Dc H1 y:=fun y hy=>by
   simp only[VH,VC,or_false] at hy
   rcases hy with z|z|z <;> rw[z]
   ·exact⟨_,s1 _ _ k9⟩
   ·exact⟨_,s1 _ _ lH⟩
   ·exact⟨_,h1⟩
  have lay:∀ G,Kx [fA,cA,wA] H1 G->bH a.Layout G q r ws c:=fun G kx=>(L.same s1).kx kx fun y hy=>.inr (.inr (.inr (HL y hy)))
  have keep:∀ G,Kx [fA,cA,wA] H1 G->∀ b o,H1 b=some o->(∀ kvs,o≠.dK kvs)->G b=some o:=fun G kx b o e z=>kx b o e fun y=>by
   obtain⟨kvs,q⟩:=HL b y;rw[e] at q;cases q
   exact z _ rfl
  refine⟨_,rfl,q,a.Layout,dx,_,_,rfl,s1 _ _ ex,T.c_Layout,T.na_Layout_needs,p5,r.n,rfl,⟨_,SqL.of (s1 _ _ hn)⟩,rJ (K:=K) (l:=r.n) (xs:=nd.map V.int) (fun i σ G=>∃ v4 v5,σ=[some (.ref q),some (.ref fA),some (.ref cA),some (.ref wA),v4,v5]/\Kx [wA] H1 G/\G wA=some (.dK (w0 nd i)))
   ⟨none,none,rfl,Kx.of (ad.refl _),h1⟩ ?_ ?_ ?_⟩
  ·rintro i σ G _ ⟨_,_,rfl,kx,_⟩
   exact SqL.of (keep G (kx.mono (by simp)) _ _ (s1 _ _ hn) (fun _ z=>by cases z))
  ·rintro i y tt σ G hy nt ⟨v4,v5,rfl,kx,hG⟩
   have hi:i<nd.length:=by
    have:=(List.getElem?_eq_some_iff.mp hy).1;rw[Vd] at this;exact this
   have ey:y=.int (fn nd i):=by
    rw[Vp,Vg hi] at hy;rw[<- Option.some.inj hy];unfold fn;rw[Vf,Vg hi];rfl
   subst ey;have s3:ad G (upd G tt (.tup [.int i,.int (fn nd i)])):=ad.new nt;have h3:upd G tt (.tup [.int i,.int (fn nd i)]) tt=some (.tup [.int i,.int (fn nd i)]):=af;generalize upd G tt (.tup [.int i,.int (fn nd i)])=G3 at s3 h3 ⊢;have st:w0 nd (i + 1)=if fn nd i<0 then aF (w0 nd i) (Sum.inl ((i:Nat):Int)) (.int 0) else w0 nd i:=rfl;have wl:=(FV nd i).2.1;refine⟨tt,_,rfl,SqT.of h3,rfl,_,_,rfl,_,_,rfl,rfl,?_⟩;refine⟨_,rfl,_,_,rfl,rfl,_,rfl,?_⟩;refine cS (fun c1=>?_) (fun c1=>?_)
   ·rw[st,if_pos (VA c1)]
    exact⟨_,rfl,_,rfl,wA,_,rfl,.inl ⟨w0 nd i,Sum.inl ((i:Nat):Int),s3 _ _ hG,rfl,by rw[Vo];omega,rfl⟩,_,_,rfl,(kx.trans (Kx.of s3)).trans (Kx.upd (by simp)),af⟩
   ·rw[st,if_neg (VY c1)]
    exact⟨_,_,rfl,kx.trans (Kx.of s3),s3 _ _ hG⟩
  ·rintro σ G0 ⟨v4,v5,rfl,uw,Ip⟩
   rw[Vd,c8] at Ip;have BS:Kx [fA,cA,wA] H1 G0:=uw.mono (by simp);have El:G0 fA=some (.dK []):=uw _ _ (s1 _ _ k9) (by simp[yT]);have BN:G0 cA=some (.dK []):=uw _ _ (s1 _ _ lH) (by simp[EK]);obtain⟨w1,w2,w3⟩:=FV nd c;have u6:∀ G,Kx [fA,cA,wA] H1 G->Kx [fA,cA] H G:=fun G kx b o e z=>kx b o (s1 b o e) fun y=>by
    simp only[VH,VC,or_false] at y z
    rcases y with y|y|y
    ·exact z (.inl y)
    ·exact z (.inr y)
    ·rw[y,Ax] at e
     cases e
   have Iy:Wf ([]:Kvs):=fun p hp=>by cases hp
   refine⟨fun m σ G=>∃ j v4 v5 rk,σ=[some (.ref q),some (.ref fA),some (.ref cA),some (.ref wA),v4,v5]/\Kx [fA,cA,wA] H1 G/\m=left (gI (itr (aY ws c p fl) j ([],w0 nd c,[])).1) c/\j + left (gI (itr (aY ws c p fl) j ([],w0 nd c,[])).1) c<=c /\
     G fA=some (.dK (itr (aY ws c p fl) j ([],w0 nd c,[])).1)/\G wA=some (.dK (itr (aY ws c p fl) j ([],w0 nd c,[])).2.1)/\G cA=some (.dK (itr (aY ws c p fl) j ([],w0 nd c,[])).2.2)/\(Wf (itr (aY ws c p fl) j ([],w0 nd c,[])).1/\Wf (itr (aY ws c p fl) j ([],w0 nd c,[])).2.1/\Wf (itr (aY ws c p fl) j ([],w0 nd c,[])).2.2) /\
     ((itr (aY ws c p fl) j ([],w0 nd c,[])).1.length<=j/\(itr (aY ws c p fl) j ([],w0 nd c,[])).2.1.length<=c + 400 * j/\(itr (aY ws c p fl) j ([],w0 nd c,[])).2.2.length<=400 * j) /\
     Se (wn ws c) (fn p) (fn fl) (fn nd) (gI (itr (aY ws c p fl) j ([],w0 nd c,[])).1) (gI (itr (aY ws c p fl) j ([],w0 nd c,[])).2.1) (cI (itr (aY ws c p fl) j ([],w0 nd c,[])).2.2) rk j (fun q _ _=>gI (itr (aY ws c p fl) j ([],w0 nd c,[])).1 q≠none) /\
     (∀ v b,gI (itr (aY ws c p fl) j ([],w0 nd c,[])).1 v=some b->fn nd v<=0)/\∀ i,i<j->¬ 0<fn nd (mn (itr (aY ws c p fl) i ([],w0 nd c,[])).2.1),
    ⟨_,0,v4,v5,fun _=>0,rfl,BS,rfl,?_,El,Ip,BN,⟨Iy,w1,Iy⟩,⟨Vh _,VL w2 (VO _ _),Vh _⟩,?_,fun v b z=>(by cases z),fun i z=>absurd z (Wj _)⟩,?_⟩
   ·have:=(L6 (gI ([]:Kvs)) c).1
    show 0 + left (gI ([]:Kvs)) c<=c;omega
   ·exact Se.start (N:=wn ws c) (nd:=fn nd) w3 _ _
   rintro m σ G ⟨j,v4,v5,rk,rfl,kx,rfl,hj,gf,gw,gc,⟨Es,qt,E1⟩,⟨l1,l2,l3⟩,se,np,no⟩
   have sj:itr (aY ws c p fl) (j + 1) ([],w0 nd c,[])=aY ws c p fl (itr (aY ws c p fl) j ([],w0 nd c,[])):=rfl;have hS:qU ws c p fl nd j (mn (itr (aY ws c p fl) j ([],w0 nd c,[])).2.1) (tkF (itr (aY ws c p fl) j ([],w0 nd c,[]))) (itr (aY ws c p fl) j ([],w0 nd c,[])).2.2\/¬ 0<fn nd (mn (itr (aY ws c p fl) j ([],w0 nd c,[])).2.1):=by
    by_cases z:0<fn nd (mn (itr (aY ws c p fl) j ([],w0 nd c,[])).2.1)
    ·exact .inl ⟨rfl,rfl,rfl,z,no⟩
    ·exact .inr z
   have M8:¬ 0<fn nd (mn (itr (aY ws c p fl) j ([],w0 nd c,[])).2.1)->∀ i,i<j + 1->¬ 0<fn nd (mn (itr (aY ws c p fl) i ([],w0 nd c,[])).2.1):=fun z i hi=>by
    rcases Wc i j with y|y
    ·exact no i y
    ·rw[show i=j by omega]
     exact z
   obtain⟨v0,b0,e0⟩:=se.more ok tK hnd ti np BK om;refine⟨_,rfl,gb ⟨_,fun σ' H' h=>h,?_⟩⟩;simp only[sj]
   generalize itr (aY ws c p fl) j ([],w0 nd c,[])=S at *;obtain⟨far,wt,cm⟩:=S;dsimp only at *;have Dh:0<wt.length:=by
    cases wt with
    | nil=>cases e0
    | cons _ _=>exact Nat.succ_pos _
   refine⟨_,rfl,wA,wt,kyF wt,rfl,gw,Dh,keep G kx _ _ (s1 _ _ iV) (fun _ z=>by cases z),fun y hy o H2 qE=>?_,fun m H2 sm fm=>?_⟩
   ·unfold L2.zbz at hy
    obtain⟨pp,MR,rfl⟩:=List.mem_map.mp hy;obtain⟨v,i,e1,e2⟩:=qt.has MR;rw[e1];refine⟨_,rfl,_,rfl,wA,.int i,rfl,.inl ⟨wt,Sum.inl (v:Int),.inr ⟨o,qE _ _ af⟩,rfl,by rw[qt.val v,e2];rfl⟩,?_,ad.refl _⟩;show V.int i=V.int ((gI wt ((v:Nat):Int).toNat).getD 0);rw[Vn,e2];rfl
   obtain⟨rfl,a0,ga,Fd⟩:=qt.least fm;obtain⟨Hj,mx,fx⟩:=se.pop ga Fd;have xc:=(se.nn _ _ (.inr ga)).2;have tk:tkF (far,wt,cm)=aF far (Sum.inl ((mn wt:Nat):Int)) (.int a0):=by
    show aF far _ (.int ((gI wt (mn wt)).getD 0))=_;rw[ga];rfl
   have tn:aY ws c p fl (far,wt,cm)=(aF far (Sum.inl ((mn wt:Nat):Int)) (.int a0),g9 ws c p fl (aF far (Sum.inl ((mn wt:Nat):Int)) (.int a0)) (mn wt) a0 (dA wt (Sum.inl ((mn wt:Nat):Int)),cm)):=by
    unfold aY;rw[tk];show(_,g9 ws c p fl _ (mn wt) ((gI wt (mn wt)).getD 0) _)=_;rw[ga];rfl
   rw[tk] at hS;simp only[tn]
   generalize mn wt=x at *;have gy:Kx [fA,cA,wA] H1 H2:=kx.trans (Kx.of sm);refine⟨_,rfl,wA,rfl,.inl ⟨wt,.inl (sm _ _ gw)⟩,_,rfl,wt,Sum.inl ((x:Nat):Int),.int a0,sm _ _ gw,rfl,by rw[qt.val x,ga];rfl,_,rfl,_,rfl,fA,_,rfl,.inl ⟨far,Sum.inl ((x:Nat):Int),by rw[aj yT];exact sm _ _ gf,rfl,by rw[Vo];omega,rfl⟩,?_⟩;have eD:Kx [fA,cA,wA] H1 (upd (upd H2 wA (.dK (dA wt (Sum.inl ((x:Nat):Int))))) fA (.dK (aF far (Sum.inl ((x:Nat):Int)) (.int a0)))):=(gy.trans (Kx.upd (by simp))).trans (Kx.upd (by simp));have f4:upd (upd H2 wA (.dK (dA wt (Sum.inl ((x:Nat):Int))))) fA (.dK (aF far (Sum.inl ((x:Nat):Int)) (.int a0))) fA=some (.dK (aF far (Sum.inl ((x:Nat):Int)) (.int a0))):=af;have w4:upd (upd H2 wA (.dK (dA wt (Sum.inl ((x:Nat):Int))))) fA (.dK (aF far (Sum.inl ((x:Nat):Int)) (.int a0))) wA=some (.dK (dA wt (Sum.inl ((x:Nat):Int)))):=by rw[aj (Ne.symm yT),af]
   have c4:upd (upd H2 wA (.dK (dA wt (Sum.inl ((x:Nat):Int))))) fA (.dK (aF far (Sum.inl ((x:Nat):Int)) (.int a0))) cA=some (.dK cm):=by rw[aj (Ne.symm oY),aj EK];exact sm _ _ gc
   generalize upd (upd H2 wA (.dK (dA wt (Sum.inl ((x:Nat):Int))))) fA (.dK (aF far (Sum.inl ((x:Nat):Int)) (.int a0)))=H4 at eD f4 w4 c4 ⊢;have L4:=lay H4 eD;obtain⟨M6,ex4⟩:=L4.ex;have mz:=keep H4 eD _ _ (s1 _ _ hn) (fun _ z=>by cases z);have MW:=keep H4 eD _ _ (s1 _ _ hp) (fun _ z=>by cases z);have Mf:=keep H4 eD _ _ (s1 _ _ hf) (fun _ z=>by cases z);have GN:x<c:=xc;have IN:=qY far (Sum.inl ((x:Nat):Int)) (.int a0);have dl:=QR wt (Sum.inl ((x:Nat):Int));have gx:gI (aF far (Sum.inl ((x:Nat):Int)) (.int a0)) x=some a0:=by rw[iA,aT]
   rw[<- iA,<- KJ] at Hj;rw[<- iA] at mx;have GD:Se (wn ws c) (fn p) (fn fl) (fn nd) (gI (aF far (Sum.inl ((x:Nat):Int)) (.int a0))) (gI (dA wt (Sum.inl ((x:Nat):Int)))) (cI cm) (up rk x j) (j + 1) fun q _ _=>q≠x/\gI (aF far (Sum.inl ((x:Nat):Int)) (.int a0)) q≠none:=Hj.less fun q n d z=>by
    have z2:=z.2;rw[iA,aG _ _ z.1] at z2;exact z2
   refine⟨_,rfl,q,a.Layout,M6,_,_,rfl,ex4,T.c_Layout,T.na_Layout_needs,p5,_,rfl,r.n,_,_,_,rfl,rfl,SqL.of mz,pL (by omega),_,_,rfl,rfl,_,rfl,?_⟩;refine cS (fun c1=>?_) (fun c1=>?_)
   ·have c2:0<fn nd x:=VA c1
    rcases hS with hS|hS
    ·refine⟨_,rfl,k j x _ cm H4 (u6 _ eD) hS f4 c4 (Es.put _ _) E1 (by omega) (by omega) ⟨_,_,j + 1,a0,by omega,GD,gx,mx,fun q b e=>?_⟩⟩
     rw[KJ] at e;by_cases z:q=x
     ·rw[z,aT] at e
      cases e
     ·rw[aG _ _ z] at e
      exact Fd q b e
    ·exact absurd c2 hS
   ·have c2:¬ 0<fn nd x:=VY c1
    refine⟨_,rfl,_,rfl,_,rfl,_,rfl,_,rfl,q,r,ws,c,p,fl,fA,wA,cA,_,_,cm,x,a0,rfl,L4,MW,jN,Mf,ia,ok,hw,GN,f4,Es.put _ _,gx,w4,qt.drop _,by omega,c4,E1,by omega,yT,oY,Ne.symm EK,fun H5 ig Os My=>?_⟩;obtain⟨o1,o2,o3⟩:=T5 (ws:=ws) (c:=c) (P:=p) (fl:=fl) (far:=aF far (Sum.inl ((x:Nat):Int)) (.int a0)) (x:=x) (a:=a0) (s:=(dA wt (Sum.inl ((x:Nat):Int)),cm)) ⟨qt.drop _,E1⟩;have ll:left (gI (aF far (Sum.inl ((x:Nat):Int)) (.int a0))) c<left (gI far) c:=by
     rw[iA];exact Rx GN fx
    rw[tn] at sj;refine⟨left (gI (itr (aY ws c p fl) (j + 1) ([],w0 nd c,[])).1) c,by rw[sj];exact ll,j + 1,some (.int (x:Nat)),v5,up rk x j,?_⟩;rw[sj];refine⟨rfl,eD.trans (ig.mono (by simp)),rfl,?_,?_,Os,My,⟨Es.put _ _,o1.1,o1.2⟩,⟨?_,?_,?_⟩,Tf ok ti gx mx GD,fun v b e=>?_,M8 c2⟩
    ·show j + 1 + left (gI (aF far (Sum.inl ((x:Nat):Int)) (.int a0))) c<=c
     omega
    ·exact ig _ _ f4 (by simp[yT,oY])
    ·show(aF far (Sum.inl ((x:Nat):Int)) (.int a0)).length<=j + 1
     omega
    ·refine VL o2 ?_
     show(dA wt (Sum.inl ((x:Nat):Int))).length + 2 * ws.length<=c + 400 * (j + 1);omega
    ·refine VL o3 ?_
     show cm.length + 2 * ws.length<=400 * (j + 1);omega
    ·have e:gI (aF far (Sum.inl ((x:Nat):Int)) (.int a0)) v=some b:=e
     rw[iA] at e;by_cases z:v=x
     ·rw[z]
      omega
     ·rw[aG _ _ z] at e
      exact np v b e
end
end K64
namespace K64
open PySem L2
def wyL (N:Wn) (cm:Nat->Option Nat) (e k:Nat):List (Nat×Int):=(List.range k).map fun i=>(cn cm (itr (bc N cm) i e),((itr (bc N cm) i e:Nat):Int))
theorem Fm (N:Wn) (cm:Nat->Option Nat) (e k:Nat):wyL N cm e (k + 1)=wyL N cm e k++[(cn cm (itr (bc N cm) k e),((itr (bc N cm) k e:Nat):Int))]:=by
 unfold wyL;rw[XX,Vl];rfl
section
variable {P:Program}{w:World}{K:PySem.W.Frag}{mg:Str->Option Value}{base:Heap}{a:Adr}
def spWay (K:PySem.W.Frag) (C:Addr):Sp:=fun vs H Q _=>∃ q r ws c cA cm,∃ (rk:Nat->Nat) (e:Nat),vs=[.ref q,.ref cA,.int e]/\bH C H q r ws c/\H cA=some (.dK cm)/\Wf cm/\(∀ x i,gI cm x=some i->0<=i) /\
 (∀ i,(cI cm (itr (bc (wn ws c) (cI cm)) i e)).isSome=true->cn (cI cm) (itr (bc (wn ws c) (cI cm)) i e)<ws.length/\rk (itr (bc (wn ws c) (cI cm)) (i + 1) e)<rk (itr (bc (wn ws c) (cI cm)) i e))/\rk e<=10000 /\
 ∀ k g xs H',ad H H'->H g=none->H' g=some (.lst xs)->aN K H' ((wyL (wn ws c) (cI cm) e k).map stD) xs->cI cm (itr (bc (wn ws c) (cI cm)) k e)=none->(∀ i,i<k->(cI cm (itr (bc (wn ws c) (cI cm)) i e)).isSome=true)->k<=10000->Q (.ref g) H'
set_option maxHeartbeats 4000000 in
theorem ok_way (T:Tx K mg a):Cal P w K mg base CX0 2 "way_back" ["layout","came_by","end"] [] (spWay K a.Layout):=T.d_way_back.cal fun f fd F=>by
 have m_Layout_end_across:=FZ (P:=P) (w:=w) (base:=base) T;refine F.ok A3 (fun vs H Q E h=>?_) (fun aJ A outer s H vs Q E hr h=>?_)
 ·obtain⟨q,r,ws,c,cA,cm,rk,e,rfl,_⟩:=h
  rfl
 ·obtain⟨q,r,ws,c,cA,cm,rk,e,rfl,L,lH,wf,nn,O5,re,k⟩:=h
  obtain⟨dx,ex⟩:=L.ex;refine⟨_,(ao (aR (i:=3) A3.nd rfl (.inl rfl) (c7 ah))
   (ao (aR (i:=4) A3.nd rfl (.inl rfl) (pv 2))
   (ao (y8 PassesOwn.never (zB (pc_din (bu hr) (pv 4) (pv 1))) (ao (fw (iF PySem.F.plainAttrs_list PySem.F.slot_list_append PySem.F.type_list_append nv (pv 3) (ae (gZ (ae (cL (bu hr) (pv 1) (pv 4) (fun _ _=>rfl)) (ae (pv 4) ah))) ah)))
   (aA (aR (i:=4) A3.nd rfl (.inl rfl) (zT (pv 0) T.c_Layout m_Layout_end_across (hr.mono (by decide)) (ae (cL (bu hr) (pv 1) (pv 4) (fun _ _=>rfl)) (ae (pv 4) ah)))))))
   (aA (bM (pv 3)))))),?_⟩
  refine⟨(by show 0<=sizeLine;decide),fun g ng=>?_⟩;have s1:ad H (upd H g (.lst [])):=ad.new ng;have h1:upd H g (.lst []) g=some (.lst []):=af;generalize upd H g (.lst [])=H1 at s1 h1 ⊢;refine⟨_,rfl,?_⟩;refine⟨fun m σ G=>∃ i xs,m=rk (itr (bc (wn ws c) (cI cm)) i e)/\σ=[some (.ref q),some (.ref cA),some (.int (e:Nat)),some (.ref g),some (.int (itr (bc (wn ws c) (cI cm)) i e:Nat))]/\ad H G/\G g=some (.lst xs)/\aN K G ((wyL (wn ws c) (cI cm) e i).map stD) xs/\(∀ j,j<i->(cI cm (itr (bc (wn ws c) (cI cm)) j e)).isSome=true)/\i + rk (itr (bc (wn ws c) (cI cm)) i e)<=10000,
   ⟨_,0,[],rfl,rfl,s1,h1,rfl,fun j z=>absurd z (Wj _),by show 0 + rk e<=10000;omega⟩,?_⟩
  rintro m σ G ⟨i,xs,rfl,rfl,sg,hg,bp,all,hi⟩
  have gd:=wf.dget (v:=itr (bc (wn ws c) (cI cm)) i e) (sg _ _ lH);refine⟨_,rfl,_,rfl,cA,_,rfl,gd,_,rfl,?_⟩;cases eg:gI cm (itr (bc (wn ws c) (cI cm)) i e) with
  | none=>
   refine ka ⟨_,rfl,k i g xs G sg ng hg bp ?_ all (by omega)⟩;show(gI cm (itr (bc (wn ws c) (cI cm)) i e)).map Int.toNat=none;rw[eg];rfl
  | some z=>
   have z0:=nn _ _ eg;obtain⟨n,rfl⟩:∃ n:Nat,z=(n:Int):=⟨z.toNat,by omega⟩;have cs:cI cm (itr (bc (wn ws c) (cI cm)) i e)=some n:=by
    show(gI cm (itr (bc (wn ws c) (cI cm)) i e)).map Int.toNat=some n;rw[eg];rfl
   have IO:cn (cI cm) (itr (bc (wn ws c) (cI cm)) i e)=n:=by
    unfold cn;rw[cs];rfl
   obtain⟨nl,rl⟩:=O5 i (by rw[cs];rfl);rw[IO] at nl;rw[eg] at gd;have lx:xs.length<=10000:=by
    have:=bp.length;unfold wyL at this;rw[Vd,Vd,We] at this;omega
   refine gb ⟨_,fun σ' H' h=>h,?_⟩;refine⟨_,rfl,.inl ⟨rfl,_,SqL.of hg⟩,_,rfl,_,rfl,cA,_,rfl,gd,_,rfl,(by show 2<=sizeLine;decide),fun t nt=>⟨g,_,_,rfl,rfl,ad.new nt _ _ hg,by rw[Vo];omega,?_⟩⟩;have s5:ad G (upd G t (.tup [.int (n:Nat),.int (itr (bc (wn ws c) (cI cm)) i e:Nat)])):=ad.new nt;have h5:upd G t (.tup [.int (n:Nat),.int (itr (bc (wn ws c) (cI cm)) i e:Nat)]) t=some (.tup [.int (n:Nat),.int (itr (bc (wn ws c) (cI cm)) i e:Nat)]):=af;generalize upd G t (.tup [.int (n:Nat),.int (itr (bc (wn ws c) (cI cm)) i e:Nat)])=H5 at s5 h5 ⊢;have s6:ad H (upd H5 g (.lst (xs++[.ref t]))):=bx ng (sg.trans s5);have kp:Tk H5 (upd H5 g (.lst (xs++[.ref t]))):=Tk.upd (s5 _ _ hg) rfl;have h6:upd H5 g (.lst (xs++[.ref t])) g=some (.lst (xs++[.ref t])):=af;have Il:aN K (upd H5 g (.lst (xs++[.ref t]))) ((wyL (wn ws c) (cI cm) e (i + 1)).map stD) (xs++[.ref t]):=by
    rw[Fm,Vl,IO];exact aN.snoc (d:=stD (n,((itr (bc (wn ws c) (cI cm)) i e:Nat):Int))) (kp.dt rfl ⟨t,_,rfl,SqT.of h5,_,_,rfl,rfl,_,_,rfl,rfl,rfl⟩) (kp.dts (dz (fun _=>rfl) _) (s5.dts bp))
   generalize upd H5 g (.lst (xs++[.ref t]))=H6 at s6 h6 Il ⊢;have qq:=wf.dget (v:=itr (bc (wn ws c) (cI cm)) i e) (s6 _ _ lH);rw[eg] at qq;refine⟨_,rfl,q,dx,_,rfl,s6 _ _ ex,by rfl,_,rfl,_,rfl,cA,_,rfl,qq,_,rfl,q,r,ws,c,n,_,rfl,L.same s6,nl,?_⟩;have nx:itr (bc (wn ws c) (cI cm)) (i + 1) e=ac (wn ws c) n (itr (bc (wn ws c) (cI cm)) i e):=qM cs;refine⟨rk (itr (bc (wn ws c) (cI cm)) (i + 1) e),rl,i + 1,xs++[.ref t],rfl,?_,s6,h6,Il,fun j hj=>?_,by omega⟩
   ·rw[nx]
    rfl
   ·rcases Wc j i with y|y
    ·exact all j y
    ·rw[show j=i by omega,cs]
     rfl
end
end K64
namespace K64
theorem JS {N:Wn}{pu:Nat->Option Nat}{p:Nat} (h:∀ i,(pu (itr (bk N pu) i p)).isSome=true):∀ k,((rgL N pu p k).map N.le).sum=fz N pu p k
 | 0=>rfl
 | k + 1=>by
  have ih:=JS h k;show N.le (cn pu (itr (bk N pu) k p)) + ((rgL N pu p k).map N.le).sum=fz N pu p k + _;rw[ih,iw (h k)];exact Int.add_comm _ _
theorem jY.pos {N:Wn}{ring:List Nat} (h:jY N ring):0<(ring.map N.le).sum:=by
 obtain⟨P,t,pu,p,k,fi,hp,all,rfl,back,ne⟩:=h.told;rw[JS all];exact fi.b p (k + 1) (Nat.succ_pos _) (fun i _=>all i) back
end K64
namespace K64
open PySem L2
def amL (N:Wn) (fl nd:Nat->Int) (st:List (Nat×Int)) (e s:Nat):List Int:=nd e::(0 - nd s)::((st.filter fun x=>decide (((N.on x.1:Nat):Int)=x.2)).map fun x=>fl x.1)
def st1 (N:Wn) (am:Int) (f:List Int) (x:Nat×Int):List Int:=f.set x.1 (fn f x.1 + (if ((N.ot x.1:Nat):Int)=x.2 then am else 0 - am))
def ndS (nd:List Int) (s e:Nat) (am:Int):List Int:=(nd.set s (fn nd s + am)).set e (fn (nd.set s (fn nd s + am)) e - am)
theorem AS (N:Wn) (am:Int):∀ (st:List (Nat×Int)) (f:List Int),(st.foldl (st1 N am) f).length=f.length
 | [],_=>rfl
 | x::st,f=>by
  show(st.foldl (st1 N am) (st1 N am f x)).length=_;rw[AS N am st];unfold st1;rw[VV]
theorem at_end {xs:List V}{x:V} (h:xs[xs.length - 1]?=some x):atI xs (-1)=some x:=by
 have hp:0<xs.length:=by
  have:=(List.getElem?_eq_some_iff.mp h).1;omega
 unfold atI ixN;rw[if_neg (by decide),if_pos (by omega)];have e2:((-1:Int) + (xs.length:Int)).toNat=xs.length - 1:=by omega
 rw[e2];exact h
section
variable {P:Program}{w:World}{K:PySem.W.Frag}{mg:Str->Option Value}{base:Heap}{a:Adr}
def SL (K:PySem.W.Frag) (C:Addr):Sp:=fun vs H Q _=>∃ q r ws c fl nd sA st xs,∃ e ln lp:Nat,vs=[.ref q,.ref sA,.int e]/\bH C H q r ws c/\H r.f=some (.lst ((fl:List Int).map V.int))/\fl.length=ws.length/\H r.n=some (.lst ((nd:List Int).map V.int))/\nd.length=c /\
 H sA=some (.lst xs)/\sA≠r.f/\sA≠r.n/\aN K H ((st:List (Nat×Int)).map stD) xs/\st.length<=10000/\(∀ x∈st,x.1<ws.length)/\st[st.length - 1]?=some (ln,((lp:Nat):Int))/\e<c/\ac (wn ws c) ln lp<c /\
 ∀ am H',am∈amL (wn ws c) (fn fl) (fn nd) st e (ac (wn ws c) ln lp)->(∀ x∈amL (wn ws c) (fn fl) (fn nd) st e (ac (wn ws c) ln lp),am<=x)->Kx [r.f,r.n] H H' ->
  H' r.f=some (.lst ((st.foldl (st1 (wn ws c) am) fl).map V.int))->H' r.n=some (.lst ((ndS nd (ac (wn ws c) ln lp) e am).map V.int))->Q .non H'
set_option maxHeartbeats 4000000 in
theorem R3 (T:Tx K mg a):Cal P w K mg base CX0 2 "send_along" ["layout","steps","end"] [] (SL K a.Layout):=T.d_send_along.cal fun f fd F=>by
 have m_Layout_end_across:=FZ (P:=P) (w:=w) (base:=base) T;refine F.ok p0 (fun vs H Q E h=>?_) (fun aJ A outer s H vs Q E hr h=>?_)
 ·obtain⟨q,r,ws,c,fl,nd,sA,st,xs,e,ln,lp,rfl,_⟩:=h
  rfl
 ·obtain⟨q,r,ws,c,fl,nd,sA,st,xs,e,ln,lp,rfl,L,hf,ia,hn,c8,hs,sf,sn,bp,cJ,qK,Dm,UJ,UV,k⟩:=h
  obtain⟨dx,ex⟩:=L.ex;have lx:st.length=xs.length:=by rw[<- bp.length,Vd]
  have pos:0<st.length:=by
   have:=(List.getElem?_eq_some_iff.mp Dm).1;omega
  have Nm:ln<ws.length:=qK _ (Vj Dm);obtain⟨xl,AF⟩:=gJ (l:=xs) (j:=xs.length - 1) (by omega);obtain⟨s0,HJ,MI⟩:=eX bp AF;rw[<- lx,Dm] at HJ;obtain rfl:=Option.some.inj HJ;obtain⟨tl,rfl,GJ⟩:=Bq MI;refine⟨_,(ao (aR (i:=3) p0.nd rfl (by first|exact Or.inl rfl|exact Or.inr rfl) (aL bq (pv 1) (pe_un un_neg ak) (fun _ _=>rfl)))
   (ao (aR (i:=4) p0.nd rfl (by first|exact Or.inl rfl|exact Or.inr rfl) (zT (pv 0) T.c_Layout m_Layout_end_across (hr.mono (by decide)) (ae (aL eW (pv 3) ak (fun _ _=>rfl)) (ae (aL eW (pv 3) ak (fun _ _=>rfl)) ah))))
   (ao (rE (i:=5) p0.nd rfl rfl (N:=["number","point","layout"]) (cap:=[none,none,some 0]) rfl (cF (osc:=aq p6) (XN:=["layout","steps","end","last","start","back","amount","number","point"]) rfl rfl (by decide +kernel)) (bU (pv 1)) (fun cl C s H fp aa=>(ld (K:=K) (n:=2) rfl rfl (aU (aB (i:=0) (show(["number","point","layout"]:List Str).Nodup by decide +kernel) rfl (by first|exact Or.inl rfl|exact Or.inr rfl)) (aU (aB (i:=1) (show(["number","point","layout"]:List Str).Nodup by decide +kernel) rfl (by first|exact Or.inl rfl|exact Or.inr rfl)) cM)))) (fun cl C s H fp aa=>K9 (dH qW (aL (FI (K:=K) rfl) (FB (K:=K) rfl (pv 2) rfl) (pv 0) (fun _ _=>rfl)) (pv 1) (bY _))) (fun cl C s H fp aa=>(pv 0)) (hsw:=rfl))
   (ao (aR (i:=6) p0.nd rfl (by first|exact Or.inl rfl|exact Or.inr rfl) (cC Qe rfl T.n_min Gk (ae (ay op_cat (c7 (ae (aL bq (bI (pv 0) rfl) (pv 2) (fun _ _=>rfl)) (ae (ay iE ak (aL bq (bI (pv 0) rfl) (pv 4) (fun _ _=>rfl))) ah))) (d7 (N:=["number","layout"]) (cap:=[none,some 0]) rfl (cF (osc:=aq p6) (XN:=["layout","steps","end","last","start","back","amount","number","point"]) rfl rfl (by decide +kernel)) (bU (pv 5)) (fun cl C s H fp aa=>(aB (i:=0) (show(["number","layout"]:List Str).Nodup by decide +kernel) rfl (by first|exact Or.inl rfl|exact Or.inr rfl))) (fun cl C s H fp aa=>cZ) (fun cl C s H fp aa=>(aL (FI (K:=K) rfl) (FB (K:=K) rfl (pv 1) rfl) (pv 0) (fun _ _=>rfl))))) ah)))
   (ao (c6 PassesOwn.never rfl (bU (pv 1)) (fE rfl (aU (aB (i:=7) p0.nd rfl (by first|exact Or.inl rfl|exact Or.inr rfl)) (aU (aB (i:=8) p0.nd rfl (by first|exact Or.inl rfl|exact Or.inr rfl)) cM))) (aA (pQ (bI (pv 0) rfl) (pv 7) qb (Gr (dH qW (aL bq (bI (pv 0) rfl) (pv 7) (fun _ _=>rfl)) (pv 8) (bY _)) (pv 6) (ay iE ak (pv 6))) yW qe)))
   (ao (pQ (bI (pv 0) rfl) (pv 4) qb (pv 6) yW qe)
   (aA (pQ (bI (pv 0) rfl) (pv 2) qb (pv 6) LE qe)))))))),?_⟩
  refine⟨_,rfl,_,rfl,sA,_,_,_,rfl,rfl,SqL.of hs,at_end AF,?_⟩;refine⟨_,rfl,q,dx,_,rfl,ex,by rfl,_,rfl,tl,_,_,_,rfl,rfl,GJ,rfl,_,rfl,tl,_,_,_,rfl,rfl,GJ,rfl,q,r,ws,c,ln,lp,rfl,L,Nm,?_⟩;generalize ac (wn ws c) ln lp=ss at *;refine⟨_,rfl,sA,rfl,⟨_,SqL.of hs⟩,fun D hD=>?_⟩;refine eP (K:=K) (a:=sA) (xs:=xs) (fun j τ G=>∃ v1 v2,τ=[v1,v2,some (.ref q)]/\ad H G/\G D=some (.lst (aK (((st.take j).filter fun x=>decide ((((wn ws c).on x.1:Nat):Int)=x.2)).map fun x=>x.1)))) ⟨none,none,rfl,ad.new hD,af⟩ ?_ ?_ ?_
  ·rintro j τ G _ ⟨_,_,rfl,sg,_⟩
   exact SqL.of (sg _ _ hs)
  ·rintro j y τ G hy ⟨v1,v2,rfl,sg,hG⟩
   obtain⟨⟨n,d⟩,qB,dj⟩:=eX bp hy;have nl:=qK _ (Vj qB);obtain⟨t,rfl,ht⟩:=Bq (sg.dt dj);refine⟨t,_,rfl,ht,rfl,_,_,rfl,_,_,rfl,rfl,?_⟩;refine⟨_,rfl,q,a.Layout,dx,_,_,rfl,sg _ _ ex,T.c_Layout,T.na_Layout_ones,qX,_,rfl,r.o,_,_,_,rfl,rfl,SqL.of (sg _ _ L.ho),lB _ nl,_,rfl,rfl,_,rfl,?_⟩;have UD:(((st.take j).filter fun x=>decide ((((wn ws c).on x.1:Nat):Int)=x.2)).map fun x=>x.1).length<=10000:=by
    rw[Vd];have e1:=VZ (fun x:Nat×Int=>decide ((((wn ws c).on x.1:Nat):Int)=x.2)) (st.take j);have e2:=Yd j st;rw[Vs] at e1;omega
   refine cS (fun b1=>?_) (fun b1=>?_)
   ·have b2:decide ((((wn ws c).on n:Nat):Int)=d)=true:=by
     have:=VA b1;injection this with z
     exact VG z
    refine⟨_,rfl,_,hG,?_,_,_,rfl,bx hD sg,?_⟩
    ·show(aK _).length<sizeLine
     unfold aK;rw[Vd,Vo];omega
    ·rw[af,zam qB,WK,Wb,if_pos b2,WW,Vl]
     unfold aK;rw[Vl];rfl
   ·have b2:decide ((((wn ws c).on n:Nat):Int)=d)=false:=by
     refine V5 fun z=>?_
     have:=VY b1;exact this (by rw[<- z];rfl)
    refine⟨_,_,rfl,sg,?_⟩;rw[zam qB,WK,Wb,if_neg (by rw[b2];decide),WW,WN];exact hG
  rintro τ H1 ⟨v1,v2,rfl,s1,jJ⟩
  rw[VM (by omega)] at jJ;have GS:=s1 _ _ ex;have Hs:=s1 _ _ hn;refine⟨_,rfl,q,a.Layout,dx,_,_,rfl,GS,T.c_Layout,T.na_Layout_needs,p5,_,rfl,r.n,_,_,_,rfl,rfl,SqL.of Hs,pL (by omega),_,rfl,q,a.Layout,dx,_,_,rfl,GS,T.c_Layout,T.na_Layout_needs,p5,_,rfl,r.n,_,_,_,rfl,rfl,SqL.of Hs,pL (by omega),_,_,rfl,rfl,(by show 2<=sizeLine;decide),fun g1 HX=>?_⟩;have s2:ad H (upd H1 g1 (.lst [.int (fn nd e),.int (0 - fn nd ss)])):=s1.trans (ad.new HX);have h2:upd H1 g1 (.lst [.int (fn nd e),.int (0 - fn nd ss)]) g1=some (.lst [.int (fn nd e),.int (0 - fn nd ss)]):=af;have c9:=ad.new HX (o:=.lst [.int (fn nd e),.int (0 - fn nd ss)]) _ _ jJ;generalize upd H1 g1 (.lst [.int (fn nd e),.int (0 - fn nd ss)])=H2 at s2 h2 c9 ⊢;generalize DE:(st.filter fun x=>decide ((((wn ws c).on x.1:Nat):Int)=x.2))=bk at c9;have UU:bk.length<=10000:=by
   rw[<- DE];have:=VZ (fun x:Nat×Int=>decide ((((wn ws c).on x.1:Nat):Int)=x.2)) st;omega
  have EZ:∀ x∈bk,x.1<ws.length:=fun x hx=>by
   rw[<- DE] at hx;exact qK x (List.mem_filter.mp hx).1
  refine⟨_,rfl,D,rfl,⟨_,SqL.of c9⟩,fun Z hZ=>?_⟩;refine eP (K:=K) (a:=D) (xs:=aK (bk.map fun x=>x.1)) (fun j τ G=>∃ v1,τ=[v1,some (.ref q)]/\ad H2 G/\G Z=some (.lst (((bk.take j).map fun x=>fn fl x.1).map V.int))) ⟨none,rfl,ad.new hZ,af⟩ ?_ ?_ ?_
  ·rintro j τ G _ ⟨_,rfl,sg,_⟩
   exact SqL.of (sg _ _ c9)
  ·rintro j y τ G hy ⟨v1,rfl,sg,hG⟩
   obtain⟨n,pj,rfl⟩:=yY hy;rw[Vp] at pj;cases eb:bk[j]? with
   | none=>rw[eb] at pj;cases pj
   | some b=>
    rw[eb] at pj;obtain rfl:b.1=n:=Option.some.inj pj;have bl:=EZ b (Vj eb);have tg:=s2.trans sg;dsimp only[bJ,c5];rw[if_pos rfl];refine⟨_,rfl,q,a.Layout,dx,_,_,rfl,tg _ _ ex,T.c_Layout,T.na_Layout_flow,zA,_,rfl,r.f,_,_,_,rfl,rfl,SqL.of (tg _ _ hf),pL (by omega),_,hG,?_,_,rfl,bx hZ sg,?_⟩
    ·rw[Vd,Vd,Vs,Vo]
     omega
    ·rw[af,zam eb,Vl,Vl]
     rfl
  rintro τ H3 ⟨v3,rfl,s3,lV⟩
  rw[VM (by unfold aK;rw[Vd,Vd];exact Vh _)] at lV;refine⟨g1,Z,_,_,rfl,rfl,s3 _ _ h2,lV,?_,fun g2 Ni=>?_⟩
  ·rw[Vd,Vd,Vo]
   show 2 + bk.length<=_;omega
  have u4:amL (wn ws c) (fn fl) (fn nd) st e ss=fn nd e::(0 - fn nd ss)::(bk.map fun x=>fn fl x.1):=by
   unfold amL;rw[DE]
  have e4:([V.int (fn nd e),V.int (0 - fn nd ss)]++(bk.map fun x=>fn fl x.1).map V.int)=(amL (wn ws c) (fn fl) (fn nd) st e ss).map V.int:=by
   rw[u4];rfl
  rw[e4];have s4:ad H (upd H3 g2 (.lst ((amL (wn ws c) (fn fl) (fn nd) st e ss).map V.int))):=(s2.trans s3).trans (ad.new Ni);have h4:upd H3 g2 (.lst ((amL (wn ws c) (fn fl) (fn nd) st e ss).map V.int)) g2=some (.lst ((amL (wn ws c) (fn fl) (fn nd) st e ss).map V.int)):=af;generalize upd H3 g2 (.lst ((amL (wn ws c) (fn fl) (fn nd) st e ss).map V.int))=H4 at s4 h4 ⊢;refine⟨g2,_,rfl,SqL.of h4,(by rw[u4];exact List.cons_ne_nil _ _),fun am hm ie=>?_⟩;have L4:=L.same s4;have lay:∀ G,Kx [r.f] H4 G->bH a.Layout G q r ws c:=fun G kx=>L4.kx kx fun y hy=>.inr (.inl (W7.mp hy))
  have Hv:=s4 _ _ hs;have EA:=s4.dts bp;have yK:∀ G,Kx [r.f] H4 G->Tk H4 G:=fun G kx b o z1 z2=>kx b o z1 fun y=>by
   rw[W7.mp y,s4 _ _ hf] at z1;cases z1
   cases z2
  refine⟨_,rfl,sA,rfl,⟨_,SqL.of Hv⟩,jC (K:=K) (a:=sA) (xs:=xs) (fun i σ G=>∃ v7 v8,σ=[some (.ref q),some (.ref sA),some (.int (e:Nat)),some (.ref tl),some (.int (ss:Nat)),some (.ref D),some (.int am),v7,v8]/\Kx [r.f] H4 G/\G r.f=some (.lst (((st.take i).foldl (st1 (wn ws c) am) fl).map V.int)))
   ⟨none,none,rfl,Kx.of (ad.refl _),s4 _ _ hf⟩ ?_ ?_ ?_⟩
  ·rintro i σ G _ ⟨_,_,rfl,kx,_⟩
   exact SqL.of (kx _ _ Hv (by simp[sf]))
  ·rintro i y σ G hy ⟨v7,v8,rfl,kx,hG⟩
   obtain⟨⟨n,d⟩,qB,dj⟩:=eX EA hy;have nl:=qK _ (Vj qB);obtain⟨t,rfl,ht⟩:=Bq ((yK G kx).dt rfl dj);have LG:=lay G kx;obtain⟨cw,gj⟩:=LG.ex;have IN:=AS (wn ws c) am (st.take i) fl;have fo:(st.take (i + 1)).foldl (st1 (wn ws c) am) fl=st1 (wn ws c) am ((st.take i).foldl (st1 (wn ws c) am) fl) (n,d):=by rw[zam qB,Wd];rfl
   rw[fo];generalize (st.take i).foldl (st1 (wn ws c) am) fl=now at hG IN ⊢;have HR:n<now.length:=by
    have:n<ws.length:=nl;omega
   refine⟨t,_,rfl,ht,rfl,_,_,rfl,_,_,rfl,rfl,?_⟩;refine⟨_,rfl,q,a.Layout,cw,_,_,rfl,gj,T.c_Layout,T.na_Layout_flow,zA,_,rfl,r.f,_,_,_,rfl,rfl,SqL.of hG,by omega,zU HR,?_⟩;refine⟨_,rfl,q,a.Layout,cw,_,_,rfl,gj,T.c_Layout,T.na_Layout_others,zF,_,rfl,r.t,_,_,_,rfl,rfl,SqL.of LG.ht,lB _ nl,_,rfl,rfl,_,rfl,?_⟩;refine cS (fun b1=>?_) (fun b1=>?_)
   ·have b2:(((wn ws c).ot n:Nat):Int)=d:=by
     have:=VA b1;injection this with z
    have sq:st1 (wn ws c) am now (n,d)=now.set n (fn now n + am):=by
     unfold st1;rw[if_pos b2]
    rw[sq];refine⟨_,rfl,_,_,rfl,rfl,r.f,_,_,_,rfl,rfl,hG,mZ (by omega) (by rw[Vd];omega),?_⟩;rw[Vn,<- WS];exact⟨_,_,rfl,kx.trans (Kx.upd (by simp)),af⟩
   ·have b2:¬ (((wn ws c).ot n:Nat):Int)=d:=fun z=>by
     have:=VY b1;exact this (by rw[<- z];rfl)
    have sq:st1 (wn ws c) am now (n,d)=now.set n (fn now n + (0 - am)):=by
     unfold st1;rw[if_neg b2]
    rw[sq];refine⟨_,rfl,_,_,rfl,rfl,_,_,rfl,rfl,r.f,_,_,_,rfl,rfl,hG,mZ (by omega) (by rw[Vd];omega),?_⟩;rw[Vn,<- WS];exact⟨_,_,rfl,kx.trans (Kx.upd (by simp)),af⟩
  ·rintro σ G ⟨v7,v8,rfl,kx,hG⟩
   rw[<- lx,Vv] at hG;have LG:=lay G kx;obtain⟨cw,gj⟩:=LG.ex;have GT:G r.n=some (.lst (nd.map V.int)):=kx _ _ (s4 _ _ hn) (by simp[Ne.symm L.fn]);refine⟨_,rfl,q,a.Layout,cw,_,_,rfl,gj,T.c_Layout,T.na_Layout_needs,p5,_,rfl,r.n,_,_,_,rfl,rfl,SqL.of GT,by omega,zU (by omega),_,rfl,_,_,rfl,rfl,r.n,_,_,_,rfl,rfl,GT,mZ (by omega) (by rw[Vd];omega),?_⟩;rw[Vn,<- WS];have ig:Kx [r.f,r.n] H (upd G r.n (.lst ((nd.set ss (fn nd ss + am)).map V.int))):=((Kx.of s4).trans (kx.mono (by simp))).trans (Kx.upd (by simp));have h5:upd G r.n (.lst ((nd.set ss (fn nd ss + am)).map V.int)) r.n=some (.lst ((nd.set ss (fn nd ss + am)).map V.int)):=af;have f5:upd G r.n (.lst ((nd.set ss (fn nd ss + am)).map V.int)) r.f=some (.lst ((st.foldl (st1 (wn ws c) am) fl).map V.int)):=by rw[aj L.fn];exact hG
   generalize upd G r.n (.lst ((nd.set ss (fn nd ss + am)).map V.int))=H5 at ig h5 f5 ⊢;have L5:bH a.Layout H5 q r ws c:=L.kx ig fun y hy=>by
    rcases VH.mp hy with z|z
    ·exact .inr (.inl z)
    ·exact .inr (.inr (.inl (W7.mp z)))
   obtain⟨OW,ex5⟩:=L5.ex;have l5:e<(nd.set ss (fn nd ss + am)).length:=by rw[VV];omega
   refine⟨_,rfl,q,a.Layout,OW,_,_,rfl,ex5,T.c_Layout,T.na_Layout_needs,p5,_,rfl,r.n,_,_,_,rfl,rfl,SqL.of h5,by omega,zU l5,_,rfl,_,_,rfl,rfl,r.n,_,_,_,rfl,rfl,h5,mZ (by omega) (by rw[Vd];omega),?_⟩;rw[Vn,<- WS];exact k am _ hm ie (ig.trans (Kx.upd (by simp))) (by rw[aj L.fn];exact f5) af
end
end K64
namespace K64
open PySem L2
def keyN:Key->Nat
 | .inl i=>i.toNat
 | .inr _=>0
def valI:V->Int
 | .int i=>i
 | _=>0
def mv1 (D:Int) (P:List Int) (kv:Key×V):List Int:=P.set (keyN kv.1) (fn P (keyN kv.1) + (D - valI kv.2))
theorem FG (D:Int):∀ (far:Kvs) (P:List Int),(far.foldl (mv1 D) P).length=P.length
 | [],_=>rfl
 | x::far,P=>by
  show(far.foldl (mv1 D) (mv1 D P x)).length=_;rw[FG D far];unfold mv1;rw[VV]
theorem P8 (v:Nat) (b:Int) (r:Kvs):gI ((Sum.inl (v:Int),V.int b)::r)=up (gI r) v (some b):=by
 funext u
 unfold gI;by_cases c:u=v
 ·subst c
  rw[gK rfl,aT];rfl
 ·rw[fB (fun z=>c (by injection z with z;exact(Int.ofNat.inj z).symm)),aG _ _ c]
theorem J4 {v:Nat}:∀ {r:Kvs},Sum.inl (v:Int)∉r.map Prod.fst->gI r v=none
 | [],_=>rfl
 | p::r,h=>by
  have h1:p.1≠Sum.inl (v:Int):=fun z=>h (by rw[<- z];exact Vz)
  have ih:=J4 (v:=v) (r:=r) fun z=>h (Vt _ z)
  unfold gI at ih ⊢;rw[fB h1];exact ih
theorem K8 (D:Int):∀ (far:Kvs) (P:List Int),Wf far->(far.map Prod.fst).Nodup->(∀ v b,gI far v=some b->v<P.length)->fn (far.foldl (mv1 D) P)=mv (fn P) (gI far) D
 | [],P,_,_,_=>rfl
 | x::far,P,wf,nd,lt=>by
  obtain⟨v,b,rfl⟩:=wf x Vz;rw[Wg,Xp] at nd;have gY:=J4 nd.1;rw[P8] at lt ⊢;have vl:v<P.length:=lt v b (aT _ _ _);have e1:mv1 D P (Sum.inl (v:Int),V.int b)=P.set v (fn P v + (D - b)):=by
   unfold mv1;show P.set ((v:Int).toNat) (fn P ((v:Int).toNat) + (D - b))=_;rw[Vn]
  show fn (far.foldl (mv1 D) (mv1 D P (Sum.inl (v:Int),V.int b)))=_;rw[e1,K8 D far _ (fun p hp=>wf p (Vt _ hp)) nd.2 (fun u b' e=>by
   have ne:u≠v:=fun z=>by rw[z,gY] at e;cases e
   rw[VV];exact lt u b' (by rw[aG _ _ ne];exact e)),m4 vl]
  funext u
  unfold mv;by_cases c:u=v
  ·subst c
   rw[gY,aT,aT]
  ·rw[aG (gI far) _ c,aG _ _ c]
theorem JN {kvs:Kvs}{k:Key}{v:V} (h:(kvs.map Prod.fst).Nodup):((aF kvs k v).map Prod.fst).Nodup:=by
 unfold aF;split
 ·have e:(kvs.map fun p=>if p.1=k then(p.1,v) else p).map Prod.fst=kvs.map Prod.fst:=by
   rw[WL];refine Xx fun p _=>?_
   show(if p.1=k then(p.1,v) else p).1=p.1;split <;> rfl
  first|exact e ▸ h|(rw[WL];refine(Xx (g:=Prod.fst) fun p _=>?_) ▸ h;show(if _ then _ else _:Key×V).1=p.1;split <;> rfl)
 ·rename_i hc
  rw[Vl];refine Xa.mpr ⟨h,by simp,fun x hx y hy=>?_⟩;rw[Wg,List.map_nil,W7] at hy;rw[hy];rintro rfl
  obtain⟨p,hp,e⟩:=List.mem_map.mp hx;exact hc (List.any_eq_true.mpr ⟨p,hp,VG e⟩)
def NNc (kvs:Kvs):Prop:=∀ x i,gI kvs x=some i->0<=i
theorem rlx_nn {ws:List Wt}{c:Nat}{far:Kvs}{x:Nat}{a:Int}{s:Kvs×Kvs}{st:Nat×Int} (h:NNc s.2):NNc (rlx ws c far x a s st).2:=by
 unfold rlx;split
 ·intro y i e
  rw[show gI (aF s.2 (Sum.inl ((ac (wn ws c) st.1 x:Nat):Int)) (.int (st.1:Nat)))=_ from iA _ _ _] at e;by_cases z:y=ac (wn ws c) st.1 x
  ·rw[z,aT] at e
   cases e
   omega
  ·rw[aG _ _ z] at e
   exact h y i e
 ·exact h
theorem K1 {ws:List Wt}{c:Nat}{far:Kvs}{x:Nat}{a:Int}:∀ (st:List (Nat×Int)){s:Kvs×Kvs},NNc s.2->NNc (st.foldl (rlx ws c far x a) s).2
 | [],_,h=>h
 | t::st,_,h=>K1 st (rlx_nn (st:=t) h)
theorem KI {ws:List Wt}{c:Nat}{P fl nd:List Int}:∀ k,NNc (itr (aY ws c P fl) k ([],w0 nd c,[])).2.2/\((itr (aY ws c P fl) k ([],w0 nd c,[])).1.map Prod.fst).Nodup
 | 0=>⟨fun x i e=>(by cases e),Wr⟩
 | k + 1=>by
  obtain⟨h1,h2⟩:=KI (ws:=ws) (c:=c) (P:=P) (fl:=fl) (nd:=nd) k;have sj:itr (aY ws c P fl) (k + 1) ([],w0 nd c,[])=aY ws c P fl (itr (aY ws c P fl) k ([],w0 nd c,[])):=rfl;rw[sj];generalize itr (aY ws c P fl) k ([],w0 nd c,[])=S at h1 h2 ⊢;exact⟨K1 _ h1,JN h2⟩
theorem qU.nn {ws:List Wt}{c:Nat}{P fl nd:List Int}{k x:Nat}{far cm:Kvs} (h:qU ws c P fl nd k x far cm):NNc cm/\(far.map Prod.fst).Nodup:=by
 obtain⟨h1,h2⟩:=KI (ws:=ws) (c:=c) (P:=P) (fl:=fl) (nd:=nd) k;rw[h.cm,h.far];exact⟨h1,JN h2⟩
abbrev S3:=List Int×List Int×List Int
def Snd (ws:List Wt) (c:Nat) (s s':S3):Prop:=∃ j x far cm k am D,qU ws c s.1 s.2.1 s.2.2 j x far cm/\gI far x=some D/\cI cm (itr (bc (wn ws c) (cI cm)) k x)=none/\(∀ i,i<k->(cI cm (itr (bc (wn ws c) (cI cm)) i x)).isSome=true) /\
 am∈amL (wn ws c) (fn s.2.1) (fn s.2.2) (wyL (wn ws c) (cI cm) x k) x (itr (bc (wn ws c) (cI cm)) k x)/\(∀ y∈amL (wn ws c) (fn s.2.1) (fn s.2.2) (wyL (wn ws c) (cI cm) x k) x (itr (bc (wn ws c) (cI cm)) k x),am<=y) /\
 s'=(far.foldl (mv1 D) s.1,(wyL (wn ws c) (cI cm) x k).foldl (st1 (wn ws c) am) s.2.1,ndS s.2.2 (itr (bc (wn ws c) (cI cm)) k x) x am)
theorem Fu (N:Wn) (cm:Nat->Option Nat) (e k:Nat):(wyL N cm e k).length=k:=by
 unfold wyL;rw[Vd,We]
theorem Lr {N:Wn}{cm:Nat->Option Nat}{x:Nat}{am:Int}{fl:List Int}:∀ k,(∀ i,i<k->cn cm (itr (bc N cm) i x)<fl.length)->fn ((wyL N cm x k).foldl (st1 N am) fl)=fs N cm x am (fn fl) k
 | 0,_=>rfl
 | k + 1,h=>by
  have ih:=Lr (N:=N) (cm:=cm) (x:=x) (am:=am) (fl:=fl) k fun i hi=>h i (by omega)
  have l:=AS N am (wyL N cm x k) fl;rw[Fm,Wd];show fn (st1 N am ((wyL N cm x k).foldl (st1 N am) fl) (cn cm (itr (bc N cm) k x),((itr (bc N cm) k x:Nat):Int)))=up (fs N cm x am (fn fl) k) _ _;have hk:=h k (by omega);rw[<- l] at hk;rw[<- ih];generalize (wyL N cm x k).foldl (st1 N am) fl=g at hk ⊢;unfold st1;show fn (g.set (cn cm (itr (bc N cm) k x)) _)=_;rw[m4 hk];have e:(if ((N.ot (cn cm (itr (bc N cm) k x)):Nat):Int)=((itr (bc N cm) k x:Nat):Int) then am else 0 - am)=if N.ot (cn cm (itr (bc N cm) k x))=itr (bc N cm) k x then am else 0 - am:=by
   by_cases z:N.ot (cn cm (itr (bc N cm) k x))=itr (bc N cm) k x
   ·rw[if_pos z,if_pos (by rw[z])]
   ·rw[if_neg z,if_neg (show ¬ ((N.ot (cn cm (itr (bc N cm) k x)):Nat):Int)=((itr (bc N cm) k x:Nat):Int) by omega)]
  show up _ _ (_ + (if ((N.ot (cn cm (itr (bc N cm) k x)):Nat):Int)=((itr (bc N cm) k x:Nat):Int) then am else 0 - am))=_;rw[e]
theorem LL {nd:List Int}{s e:Nat}{am:Int} (hs:s<nd.length) (he:e<nd.length) (p:Nat):fn (ndS nd s e am) p=fn nd p + (if s=p then am else 0) - (if e=p then am else 0):=by
 unfold ndS;rw[m4 (by rw[VV];exact he),m4 hs];by_cases c1:p=e
 ·subst c1
  rw[aT,if_pos rfl];by_cases c2:p=s
  ·subst c2
   rw[aT,if_pos rfl]
  ·rw[aG _ _ c2,if_neg (Ne.symm c2)]
   omega
 ·rw[aG _ _ c1,if_neg (Ne.symm c1)]
  by_cases c2:p=s
  ·subst c2
   rw[aT,if_pos rfl];omega
  ·rw[aG _ _ c2,if_neg (Ne.symm c2)]
   omega
theorem Snd.keeps {ws:List Wt}{c:Nat}{P fl nd:List Int}{eG:Nat->Int} (ok:(wn ws c).Ok) (jN:P.length=c) (ia:fl.length=ws.length) (c8:nd.length=c) (ti:Ti (wn ws c) (fn P) (fn fl)) (hnd:∀ v,v<c->fn nd v=bal (wn ws c) eG v - bal (wn ws c) (fn fl) v)
  {j x:Nat}{far cm:Kvs}{wt:Nat->Option Int}{rk:Nat->Nat}{size k:Nat}{am D:Int} (sr:qU ws c P fl nd j x far cm) (kP:Wf far) (se:Se (wn ws c) (fn P) (fn fl) (fn nd) (gI far) wt (cI cm) rk size (fun q _ _=>q≠x/\gI far q≠none)) (gx:gI far x=some D) (mx:∀ q b,gI far q=some b->b<=D) (wl:∀ q b,wt q=some b->D<=b)
  (uP:cI cm (itr (bc (wn ws c) (cI cm)) k x)=none) (cs:∀ i,i<k->(cI cm (itr (bc (wn ws c) (cI cm)) i x)).isSome=true)
  (hm:am∈amL (wn ws c) (fn fl) (fn nd) (wyL (wn ws c) (cI cm) x k) x (itr (bc (wn ws c) (cI cm)) k x)) (ie:∀ y∈amL (wn ws c) (fn fl) (fn nd) (wyL (wn ws c) (cI cm) x k) x (itr (bc (wn ws c) (cI cm)) k x),am<=y) :
  Ti (wn ws c) (fn (far.foldl (mv1 D) P)) (fn ((wyL (wn ws c) (cI cm) x k).foldl (st1 (wn ws c) am) fl)) /\
  (∀ v,v<c->fn (ndS nd (itr (bc (wn ws c) (cI cm)) k x) x am) v=bal (wn ws c) eG v - bal (wn ws c) (fn ((wyL (wn ws c) (cI cm) x k).foldl (st1 (wn ws c) am) fl)) v) /\
  nE (wn ws c) (fn (ndS nd (itr (bc (wn ws c) (cI cm)) k x) x am))<nE (wn ws c) (fn nd):=by
 obtain⟨nn,lF⟩:=sr.nn;have xc:x<c:=(se.nn x D (.inl gx)).2;obtain⟨as,Af⟩:=se.way gx k;have sc:itr (bc (wn ws c) (cI cm)) k x<c:=(se.nn _ _ (.inl Af)).2;have vj:=se.root Af uP;have Iv:∀ i,i<k->∃ d b a,Arc (wn ws c) (fn P) (fn fl) (ac (wn ws c) (cn (cI cm) (itr (bc (wn ws c) (cI cm)) i x)) (itr (bc (wn ws c) (cI cm)) i x)) (itr (bc (wn ws c) (cI cm)) i x) (cn (cI cm) (itr (bc (wn ws c) (cI cm)) i x)) d/\gI far (ac (wn ws c) (cn (cI cm) (itr (bc (wn ws c) (cI cm)) i x)) (itr (bc (wn ws c) (cI cm)) i x))=some b/\a=b + d/\ac (wn ws c) (cn (cI cm) (itr (bc (wn ws c) (cI cm)) i x)) (itr (bc (wn ws c) (cI cm)) i x)≠itr (bc (wn ws c) (cI cm)) i x:=fun i hi=>by
  obtain⟨a,ea⟩:=se.way gx i;obtain⟨d,b,A,fb,e,ne,_⟩:=se.back ea (iw (cs i hi));exact⟨d,b,a,A,fb,e,ne⟩
 have lt:∀ i,i<k->cn (cI cm) (itr (bc (wn ws c) (cI cm)) i x)<fl.length:=fun i hi=>by
  obtain⟨d,b,a,A,_⟩:=Iv i hi;rw[ia];exact A.1
 have mem:∀ i,i<k->(wn ws c).on (cn (cI cm) (itr (bc (wn ws c) (cI cm)) i x))=itr (bc (wn ws c) (cI cm)) i x->am<=fn fl (cn (cI cm) (itr (bc (wn ws c) (cI cm)) i x)):=fun i hi e=>by
  refine ie _ (Vt _ (Vt _ (List.mem_map.mpr ⟨(cn (cI cm) (itr (bc (wn ws c) (cI cm)) i x),((itr (bc (wn ws c) (cI cm)) i x:Nat):Int)),List.mem_filter.mpr ⟨?_,VG (by rw[e])⟩,rfl⟩)));unfold wyL;exact List.mem_map.mpr ⟨i,List.mem_range.mpr hi,rfl⟩
 have NS:am<=fn nd x:=ie _ Vz;have Np:am<=0 - fn nd (itr (bc (wn ws c) (cI cm)) k x):=ie _ (Vt _ Vz);have mT:0<am:=by
  unfold amL at hm;rcases VH.mp hm with z|z
  ·rw[z]
   exact sr.pos
  ·rcases VH.mp z with z|z
   ·rw[z]
    omega
   ·obtain⟨⟨n,d⟩,h1,h2⟩:=List.mem_map.mp z
    obtain⟨h1,h3⟩:=List.mem_filter.mp h1;unfold wyL at h1;obtain⟨i,hi,e⟩:=List.mem_map.mp h1;cases e
    obtain⟨d,b,a,A,_,_,ne⟩:=Iv i (List.mem_range.mp hi);have on:(wn ws c).on (cn (cI cm) (itr (bc (wn ws c) (cI cm)) i x))=itr (bc (wn ws c) (cI cm)) i x:=Int.ofNat.inj (VA h3);obtain⟨_,⟨p1,p2,_⟩|⟨_,_,p3,_⟩⟩:=A
    ·exact absurd (p1.symm.trans on) ne
    ·rw[<- h2]
     exact p3
 have N6:=se.moved ti gx mx wl;have NY:=se.sent_ti gx N6 (Xq mT) k cs mem;have Gu:=Lr (am:=am) (fl:=fl) k lt;refine⟨?_,fun v hv=>?_,TX sc xc mT NS Np fun p hp=>?_⟩
 ·rw[Gu,K8 D far P kP lF (fun v b e=>by rw[jN];exact(se.nn v b (.inl e)).2)]
  exact NY
 ·rw[Gu,se.sent_bal gx v k cs,LL (by omega) (by omega),hnd v hv]
  omega
 ·exact LL (by omega) (by omega) p
end K64
namespace K64
open PySem L2
section
variable {P:Program}{w:World}{K:PySem.W.Frag}{mg:Str->Option Value}{base:Heap}{a:Adr}
def spOnce (t:Adr):Sp:=fun vs H Q _=>∃ q r ws c p fl nd eG,∃ k0:Nat,vs=[.ref q]/\bH t.Layout H q r ws c/\H r.p=some (.lst ((p:List Int).map V.int))/\p.length=c/\H r.f=some (.lst ((fl:List Int).map V.int))/\fl.length=ws.length/\H r.n=some (.lst ((nd:List Int).map V.int))/\nd.length=c/\(wn ws c).Ok/\ws.length<=200/\c<=200 /\
 Ti (wn ws c) (fn p) (fn fl)/\(∀ n,n<ws.length->0<=eG n)/\(∀ v,v<c->fn nd v=bal (wn ws c) eG v - bal (wn ws c) (fn fl) v)/\k0<c/\0<fn nd k0/\H t.tb_search=some (.tbl p7 pK) /\
 ∀ p' fl' bv H',Kx [r.p,r.f,r.n] H H'->H' r.p=some (.lst ((p':List Int).map V.int))->H' r.f=some (.lst ((fl':List Int).map V.int))->H' r.n=some (.lst ((bv:List Int).map V.int))->Snd ws c (p,fl,nd) (p',fl',bv) ->
  p'.length=c->fl'.length=ws.length->bv.length=c->Ti (wn ws c) (fn p') (fn fl')->(∀ v,v<c->fn bv v=bal (wn ws c) eG v - bal (wn ws c) (fn fl') v)->nE (wn ws c) (fn bv)<nE (wn ws c) (fn nd)->Q .non H'
set_option maxHeartbeats 4000000 in
theorem RW (T:Tx K mg a):Cal P w K mg base CX0 5 "send_once" ["layout"] [] (spOnce a):=T.d_send_once.cal fun f fd F=>by
 have jg:=Ts (P:=P) (w:=w) (base:=base) T;have fJ:=ok_way (P:=P) (w:=w) (base:=base) T;have dU:=R3 (P:=P) (w:=w) (base:=base) T;refine F.ok qV (fun vs H Q E h=>?_) (fun aJ A outer s H vs Q E hr h=>?_)
 ·obtain⟨q,r,ws,c,p,fl,nd,eG,k0,rfl,_⟩:=h
  rfl
 ·obtain⟨q,r,ws,c,p,fl,nd,eG,k0,rfl,L,hp,jN,hf,ia,hn,c8,ok,hw,jR,ti,tK,hnd,BK,om,iV,k⟩:=h
  refine⟨_,(ao (aR (i:=1) qV.nd rfl (.inl rfl) qh)
   (ao (aR (i:=2) qV.nd rfl (.inl rfl) qh)
   (ao (aR (i:=3) qV.nd rfl (.inl rfl) (aZ jg (hr.mono (by decide)) rfl (ae (pv 0) (ae (pv 1) (ae (pv 2) ah)))))
   (ao (c6 PassesOwn.never rfl (Q1 (pe_bm0 PySem.F.plainAttrs_dict PySem.F.slot_dict_items PySem.F.type_dict_items Sx (pv 1))) (fE rfl (aU (aB (i:=4) qV.nd rfl (.inl rfl)) (aU (aB (i:=5) qV.nd rfl (.inl rfl)) cM))) (aA (pQ (bI (pv 0) rfl) (pv 4) qb (ay iE (cL (bu hr) (pv 1) (pv 3) (fun _ _=>rfl)) (pv 5)) yW qe)))
   (aA (fw (aZ dU (hr.mono (by decide)) rfl (ae (pv 0) (ae (aZ fJ (hr.mono (by decide)) rfl (ae (pv 0) (ae (pv 2) (ae (pv 3) ah)))) (ae (pv 3) ah)))))))))),?_⟩
  refine fun fA qH=>?_
  have s1:ad H (upd H fA (.dK [])):=ad.new qH;have f1:upd H fA (.dK []) fA=some (.dK []):=af;generalize upd H fA (.dK [])=H1 at s1 f1 ⊢;refine fun cA BE=>?_
  have oY:fA≠cA:=ap f1 BE;have s2:ad H (upd H1 cA (.dK [])):=s1.trans (ad.new BE);have f2:upd H1 cA (.dK []) fA=some (.dK []):=by rw[aj oY];exact f1
  have c2:upd H1 cA (.dK []) cA=some (.dK []):=af;have IK:H cA=none:=none_of s1 BE;generalize upd H1 cA (.dK [])=H2 at s2 f2 c2 ⊢;refine⟨_,rfl,_,rfl,_,rfl,q,r,ws,c,p,fl,nd,fA,cA,eG,k0,rfl,L.same s2,s2 _ _ hp,jN,s2 _ _ hf,ia,s2 _ _ hn,c8,ok,hw,jR,f2,c2,oY,ti,tK,hnd,BK,om,s2 _ _ iV,fun j x far cm H3 eI sr qo Ij kP Ew lf lc Ob=>?_⟩;obtain⟨wt,rk,size,D,hsz,se,gx,mx,wl⟩:=Ob;obtain⟨nn,lF⟩:=sr.nn;have Ou:Kx [r.p] H H3:=fun b o e _=>eI b o (s2 b o e) fun y=>by
   rcases VH.mp y with y|y
   ·rw[y,qH] at e
    cases e
   ·rw[W7.mp y,IK] at e
    cases e
  have p3:H3 r.p=some (.lst (p.map V.int)):=eI _ _ (s2 _ _ hp) fun y=>by
   rcases VH.mp y with y|y
   ·rw[y,qH] at hp
    cases hp
   ·rw[W7.mp y,IK] at hp
    cases hp
  refine⟨_,rfl,.inr (.inr (.inl ⟨rfl,.inl ⟨_,qo⟩⟩)),fA,far,rfl,rfl,qo,fun vw vC=>⟨vw,fA,far,rfl,af,by rw[aj (ap qo vC)];exact qo,fun o=>?_⟩⟩;have O2:r.p≠vw:=ap p3 vC;have DG:r.p≠fA:=pS p3 qo (by intro z;cases z);have U8:fA≠vw:=ap qo vC;have Ml:cA≠vw:=ap Ij vC;have f4:upd (upd H3 vw (nI vw fA)) fA (.frz o (.dK far)) fA=some (.frz o (.dK far)):=af;have p4:upd (upd H3 vw (nI vw fA)) fA (.frz o (.dK far)) r.p=some (.lst (p.map V.int)):=by rw[aj DG,aj O2];exact p3
  have c4:upd (upd H3 vw (nI vw fA)) fA (.frz o (.dK far)) cA=some (.dK cm):=by rw[aj (Ne.symm oY),aj Ml];exact Ij
  have Dq:Kx [r.p] H (upd (upd H3 vw (nI vw fA)) fA (.frz o (.dK far))):=fun b u e z=>by
   have e3:=Ou b u e z;rw[aj (fun y=>by rw[y,qH] at e;cases e),aj (ap e3 vC)];exact e3
  generalize upd (upd H3 vw (nI vw fA)) fA (.frz o (.dK far))=H4 at f4 p4 c4 Dq ⊢;have lay:∀ G,Kx [r.p] H4 G->bH a.Layout G q r ws c:=fun G kx=>L.kx (Dq.trans kx) fun y hy=>.inl (W7.mp hy)
  have Bz:∀ v b,gI far v=some b->v<c:=fun v b e=>(se.nn v b (.inl e)).2
  refine QW (d:=fA) (o:=o) (kvs:=far) (fun i σ G=>∃ v4 v5,σ=[some (.ref q),some (.ref fA),some (.ref cA),some (.int (x:Nat)),v4,v5]/\Kx [r.p] H4 G/\G r.p=some (.lst (((far.take i).foldl (mv1 D) p).map V.int)))
   ⟨none,none,rfl,Kx.of (ad.refl _),p4⟩ ?_ ?_ ?_
  ·rintro i σ G _ ⟨_,_,rfl,kx,_⟩
   exact kx _ _ f4 (by simp[Ne.symm DG])
  ·rintro i key y tt σ G hy nt ⟨v4,v5,rfl,kx,hG⟩
   obtain⟨v,b,NH⟩:=kP _ (Vj hy);cases NH
   obtain⟨v',b',e1,e2⟩:=kP.has (Vj hy);have e1:(Sum.inl (v:Int):Key)=Sum.inl ((v':Nat):Int):=e1;have vv:v=v':=by
    injection e1 with z
    exact Int.ofNat.inj z
   have vc:v<c:=Bz v b' (by rw[vv];exact e2);have s3:ad G (upd G tt (.tup [kV (Sum.inl (v:Int)),.int b])):=ad.new nt;have h3:upd G tt (.tup [kV (Sum.inl (v:Int)),.int b]) tt=some (.tup [.int (v:Nat),.int b]):=af;generalize upd G tt (.tup [kV (Sum.inl (v:Int)),.int b])=G3 at s3 h3 ⊢;have eI:Kx [r.p] H4 G3:=kx.trans (Kx.of s3);have LG:=lay G3 eI;obtain⟨cw,gj⟩:=LG.ex;have gE:=s3 _ _ hG;have ml:=FG D (far.take i) p;have fo:(far.take (i + 1)).foldl (mv1 D) p=mv1 D ((far.take i).foldl (mv1 D) p) (Sum.inl (v:Int),V.int b):=by rw[zam hy,Wd];rfl
   rw[fo];generalize (far.take i).foldl (mv1 D) p=now at gE ml ⊢;have vl:v<now.length:=by omega
   have fG:G3 fA=some (.frz o (.dK far)):=eI _ _ f4 (by simp[Ne.symm DG]);have sq:mv1 D now (Sum.inl (v:Int),V.int b)=now.set v (fn now v + (D - b)):=by
    unfold mv1;show now.set ((v:Int).toNat) (fn now ((v:Int).toNat) + (D - b))=_;rw[Vn]
   rw[sq];refine⟨tt,_,rfl,SqT.of h3,rfl,_,_,rfl,_,_,rfl,rfl,?_⟩;refine⟨_,rfl,q,a.Layout,cw,_,_,rfl,gj,T.c_Layout,T.na_Layout_places,pE,_,rfl,r.p,_,_,_,rfl,rfl,SqL.of gE,by omega,zU vl,?_⟩;refine⟨_,rfl,_,rfl,fA,.int D,rfl,.inl ⟨far,Sum.inl (x:Int),.inr ⟨o,fG⟩,rfl,by rw[kP.val x,gx];rfl⟩,_,rfl,_,_,rfl,rfl,_,_,rfl,rfl,r.p,_,_,_,rfl,rfl,gE,mZ (by omega) (by rw[Vd];omega),?_⟩;rw[Vn,<- WS];exact⟨_,_,rfl,eI.trans (Kx.upd (by simp)),af⟩
  ·rintro σ G ⟨v4,v5,rfl,kx,hG⟩
   rw[Vv] at hG;have Ek:Kx [r.p] H G:=Dq.trans kx;have OX:cA≠r.p:=pS c4 p4 (by intro z;cases z);have cG:G cA=some (.dK cm):=kx _ _ c4 (by simp[OX]);have LG:=lay G kx;have way:∀ i,(cI cm (itr (bc (wn ws c) (cI cm)) i x)).isSome=true->cn (cI cm) (itr (bc (wn ws c) (cI cm)) i x)<ws.length/\rk (itr (bc (wn ws c) (cI cm)) (i + 1) x)<rk (itr (bc (wn ws c) (cI cm)) i x):=fun i hi=>by
    obtain⟨a1,ea⟩:=se.way gx i;obtain⟨d,b,A,_⟩:=se.back ea (iw hi);exact⟨A.1,se.falls gx hi⟩
   have U2:rk x<size:=se.rk x D gx;refine⟨_,rfl,_,rfl,_,rfl,_,rfl,q,r,ws,c,cA,cm,rk,x,rfl,LG,cG,Ew,nn,way,by omega,fun kk g xs H5 s5 ng hg bp uP cs oy=>?_⟩;have xc:x<c:=(se.nn x D (.inl gx)).2;obtain⟨as,Af⟩:=se.way gx kk;have sc:itr (bc (wn ws c) (cI cm)) kk x<c:=(se.nn _ _ (.inl Af)).2;have bG:0<kk:=by
    rcases Xz kk with z|z
    ·subst z
     have:=se.root gx uP;have:=sr.pos;omega
    ·exact z
   obtain⟨k',rfl⟩:∃ k',kk=k' + 1:=⟨kk - 1,by omega⟩;have fG:G r.f=some (.lst (fl.map V.int)):=Ek _ _ hf (by simp[Ne.symm L.pf]);have nG:G r.n=some (.lst (nd.map V.int)):=Ek _ _ hn (by simp[Ne.symm L.pn]);have f5:=s5 _ _ fG;have n5:=s5 _ _ nG;have Mw:itr (bc (wn ws c) (cI cm)) (k' + 1) x=ac (wn ws c) (cn (cI cm) (itr (bc (wn ws c) (cI cm)) k' x)) (itr (bc (wn ws c) (cI cm)) k' x):=qM (iw (cs k' (by omega)));have keeps:=fun(am:Int)=>Snd.keeps (am:=am) ok jN ia c8 ti hnd sr kP se gx mx wl uP cs
   have snd:=fun(am:Int) (hm:am∈amL (wn ws c) (fn fl) (fn nd) (wyL (wn ws c) (cI cm) x (k' + 1)) x (itr (bc (wn ws c) (cI cm)) (k' + 1) x)) ie=>(⟨j,x,far,cm,k' + 1,am,D,sr,gx,uP,cs,hm,ie,rfl⟩:Snd ws c (p,fl,nd) _)
   rw[Mw] at keeps snd sc;refine⟨_,rfl,q,r,ws,c,fl,nd,g,wyL (wn ws c) (cI cm) x (k' + 1),xs,x,cn (cI cm) (itr (bc (wn ws c) (cI cm)) k' x),itr (bc (wn ws c) (cI cm)) k' x,rfl,LG.same s5,f5,ia,n5,c8,hg,Ne.symm (ap fG ng),Ne.symm (ap nG ng),bp,by rw[Fu];exact oy,fun y hy=>?_,?_,xc,sc,fun am H6 hm ie rY f6 n6=>?_⟩
   ·unfold wyL at hy
    obtain⟨i,hi,rfl⟩:=List.mem_map.mp hy;exact(way i (cs i (List.mem_range.mp hi))).1
   ·rw[Fu,Fm,show k' + 1 - 1=k' by omega]
    have l:=Fu (wn ws c) (cI cm) x k';rw[WB (by omega),l,Nat.sub_self];rfl
   ·obtain⟨t1,t2,t3⟩:=keeps am hm ie
    have As:Kx [r.p,r.f,r.n] H H6:=((Ek.mono (by simp)).trans (Kx.of s5)).trans (rY.mono (by simp));refine k _ _ _ H6 As (rY _ _ (s5 _ _ hG) (by simp[L.pf,L.pn])) f6 n6 (snd am hm ie) (by rw[FG];exact jN) (by rw[AS];exact ia) ?_ t1 t2 t3;unfold ndS;rw[VV,VV];exact c8
end
end K64
namespace K64
open PySem L2
abbrev Wi:=Int×Int×Int×Int
def wV (q:Wi):List V:=[.int q.1,.int q.2.1,.int q.2.2.1,.int q.2.2.2]
def wD (q:Wi):Dt:=.tup [.int q.1,.int q.2.1,.int q.2.2.1,.int q.2.2.2]
section
variable {K:PySem.W.Frag}
theorem lv {H:Hp}{x:V}{q:Wi} (h:DtV K H (wD q) x):∃ t,x=.ref t/\SqT K H t (wV q):=by
 obtain⟨t,xs,rfl,h1,y1,IF,rfl,rfl,y2,E2,rfl,rfl,y3,Hh,rfl,rfl,y4,Pq,rfl,rfl,h2⟩:=h;rw[show Pq=[] from h2] at h1;exact⟨t,rfl,h1⟩
def j7 (K:PySem.W.Frag) (H:Hp) (l:Addr) (ws:List Wi):Prop:=∃ xs,SqL K H l xs/\aN K H (ws.map wD) xs
theorem j7.same {H H':Hp}{l:Addr}{ws:List Wi} (h:j7 K H l ws) (s:ad H H'):j7 K H' l ws:=by
 obtain⟨xs,h1,h2⟩:=h;exact⟨xs,s.sqL h1,s.dts h2⟩
end
def diff (ps:List Int) (q:Wi):Int:=pz ps q.2.1 - pz ps q.1
def keep (ps:List Int) (q:Wi):Bool:=decide (q.2.2.1<=diff ps q)
def InR (n:Nat) (q:Wi):Prop:=(0<=q.1/\q.1<n)/\0<=q.2.1/\q.2.1<n
def Fp (z:Int):Prop:=-(2 ^ 64)<z/\z<2 ^ 64
end K64
namespace K64
open PySem L2
section
variable {P:Program}{w:World}{K:PySem.W.Frag}{mg:Str->Option Value}{base:Heap}{a:Adr}
end
end K64
namespace K64
open PySem L2
def fH (ls:List Int) (p:Wi×Int):List Int:=(ls.set p.1.2.1.toNat (pz ls p.1.2.1 + p.2)).set p.1.1.toNat (pz (ls.set p.1.2.1.toNat (pz ls p.1.2.1 + p.2)) p.1.1 - p.2)
def cv (n:Nat) (ws:List Wi) (am:List Int):List Int:=(ws.zip am).foldl fH (List.replicate n 0)
theorem SX (ls:List Int) (p:Wi×Int):(fH ls p).length=ls.length:=by
 unfold fH;rw[VV,VV]
theorem Bs:∀ (ps:List (Wi×Int)) (ls:List Int),(ps.foldl fH ls).length=ls.length
 | [],_=>rfl
 | p::ps,ls=>by
  show(ps.foldl fH (fH ls p)).length=_;rw[Bs ps,SX]
theorem Fq (n:Nat) (ws:List Wi) (am:List Int):(cv n ws am).length=n:=by
 unfold cv;rw[Bs,VS]
theorem Kd {ws:List Wi}{am:List Int}{i:Nat}{q:Wi}{x:Int} (h1:ws[i]?=some q) (h2:am[i]?=some x):(ws.zip am)[i]?=some (q,x):=by
 rw[VQ];exact⟨h1,h2⟩
theorem j4 {am:List Int}{i:Nat}{x:V} (h:(am.map V.int)[i]?=some x):∃ z,am[i]?=some z/\x=.int z:=by
 obtain⟨z,hz,rfl⟩:=Option.map_eq_some_iff.mp ((Vp (f:=V.int) (l:=am) (i:=i)).symm.trans h);exact⟨z,hz,rfl⟩
theorem getZ {ls:List Int}{k:Int} (h0:0<=k) (h1:k<ls.length):(ls.map V.int)[k.toNat]?=some (.int (pz ls k)):=by
 rw[<- jH h0];exact at_pz h0 h1
theorem Bo (n:Nat):(List.replicate n [V.int 0]).flatten=(List.replicate n (0:Int)).map V.int:=by
 induction n with
 | zero=>rfl
 | succ n ih=>
  rw[WA,WG,ih,WA,Wg];rfl
theorem Ku:∀ xs ys:List Int,dv (xs.map Dt.int) (ys.map Dt.int)=decide (xs=ys)
 | [],[]=>rfl
 | [],_::_=>by simp[dv]
 | _::_,[]=>by simp[dv]
 | x::xs,y::ys=>by
  show(eqD (.int x) (.int y) && dv (xs.map Dt.int) (ys.map Dt.int))=_;rw[Ku xs ys];show((x == y) && decide (xs=ys))=_;by_cases h1:x=y
  ·subst h1
   simp
  ·simp[h1]
section
variable {P:Program}{w:World}{K:PySem.W.Frag}{mg:Str->Option Value}{base:Heap}{a:Adr}
def spLeft (K:PySem.W.Frag):Sp:=fun vs H Q _=>∃ n l ws p am,vs=[.int n,.ref l,.ref p]/\j7 K H l ws/\SqL K H p ((am:List Int).map V.int)/\am.length=ws.length/\0<=n/\n<=1000/\(∀ q∈ws,InR n.toNat q) /\
 ∀ r H',ad H H'->H r=none->H' r=some (.lst ((cv n.toNat ws am).map V.int))->Q (.ref r) H'
theorem KA (T:Tx K mg a):Cal P w K mg base CX0 1 "left_at_points" ["count","wishes","amounts"] [] (spLeft K):=T.d_left_at_points.cal fun f fd F=>by
 refine F.ok Bb (fun vs H Q E h=>?_) (fun aJ A outer s H vs Q E hr h=>?_)
 ·obtain⟨n,l,ws,p,am,rfl,_⟩:=h
  rfl
 ·obtain⟨n,l,ws,p,am,rfl,⟨xs,hl,hd⟩,hp,ai,n0,n1,hin,k⟩:=h
  have bZ:ws.length=xs.length:=by rw[<- hd.length,Vd]
  refine⟨_,(ao (aR (i:=3) Bb.nd rfl (.inl rfl) (ay A0 (c7 (ae ak ah)) (pv 0)))
   (ao (c6 PassesOwn.never rfl (zR rfl T.n_zip (ae (pv 1) (ae (pv 2) ah))) (fE rfl (aU (aB (i:=4) Bb.nd rfl (.inl rfl)) (aU (aB (i:=5) Bb.nd rfl (.inl rfl)) cM))) (ao (pQ (pv 3) (aL eW (pv 4) ak (fun _ _=>rfl)) qb (pv 5) yW qe)
   (aA (pQ (pv 3) (aL eW (pv 4) ak (fun _ _=>rfl)) qb (pv 5) LE qe))))
   (aA (bM (pv 3))))),?_⟩
  refine⟨(by show 1<=sizeLine;decide),fun z nz=>⟨_,rfl,z,n,_,rfl,rfl,af,by omega,by omega,(by rw[Vo];show 1 * n.toNat<=_;omega),fun D nD=>?_⟩⟩;rw[Bo];have s1:ad H (upd (upd H z (.lst [V.int 0])) D (.lst ((List.replicate n.toNat (0:Int)).map V.int))):=(ad.new nz).trans (ad.new nD);have h1:upd (upd H z (.lst [V.int 0])) D (.lst ((List.replicate n.toNat (0:Int)).map V.int)) D=some (.lst ((List.replicate n.toNat (0:Int)).map V.int)):=af;have Cb:H D=none:=by
   have:=nD;rw[aj (fun e=>by rw[e,af] at this;cases this)] at this;exact this
  generalize upd (upd H z (.lst [V.int 0])) D (.lst ((List.replicate n.toNat (0:Int)).map V.int))=H1 at s1 h1 ⊢;have ex:xs.length=(am.map V.int).length:=by rw[Vd,ai,bZ]
  refine⟨_,rfl,_,rfl,l,p,rfl,⟨_,s1.sqL hl⟩,⟨_,s1.sqL hp⟩,Ks (K:=K) (l1:=l) (l2:=p) (xs:=xs) (ys:=am.map V.int) ex (fun i σ H'=>∃ v4 v5,σ=[some (.int n),some (.ref l),some (.ref p),some (.ref D),v4,v5]/\ad H H'/\H' D=some (.lst ((((ws.zip am).take i).foldl fH (List.replicate n.toNat 0)).map V.int)))
   ⟨none,none,rfl,s1,h1⟩ ?_ ?_ ?_⟩
  ·rintro i σ H' _ ⟨v4,v5,rfl,sm,_⟩
   exact⟨sm.sqL hl,sm.sqL hp⟩
  ·rintro i x y t σ H' hx hy nt ⟨v4,v5,rfl,sm,hD⟩
   obtain⟨q,hq,dq⟩:=eX hd hx;obtain⟨c,rfl,hc⟩:=lv (sm.dt dq);obtain⟨y,cU,rfl⟩:=j4 hy;obtain⟨⟨i1,i2⟩,i3,i4⟩:=hin q (Vj hq);have s2:ad H' (upd H' t (.tup [.ref c,.int y])):=ad.new nt;have GX:upd H' t (.tup [.ref c,.int y]) t=some (.tup [.ref c,.int y]):=af;generalize upd H' t (.tup [.ref c,.int y])=H2 at s2 GX ⊢;have c9:=s2 _ _ hD;have jR:=s2.sqT hc;rw[zam (Kd hq cU),Wd];have B8:(((ws.zip am).take i).foldl fH (List.replicate n.toNat 0)).length=n.toNat:=by rw[Bs,VS]
   generalize ((ws.zip am).take i).foldl fH (List.replicate n.toNat 0)=ls at c9 B8 ⊢;have j3:q.2.1<(ls.length:Int):=by rw[B8];exact i4
   have j1:q.1<((ls.set q.2.1.toNat (pz ls q.2.1 + y)).length:Int):=by rw[VV,B8];exact i2
   refine⟨t,_,rfl,SqT.of GX,rfl,_,_,rfl,_,_,rfl,rfl,?_⟩;refine⟨_,rfl,_,rfl,c,_,_,_,rfl,rfl,jR,rfl,D,_,_,_,rfl,rfl,SqL.of c9,i3,getZ i3 j3,_,rfl,_,_,rfl,rfl,D,_,_,_,rfl,rfl,c9,mZ i3 (by rw[Vd];exact j3),?_⟩;rw[<- WS];have tk:Tk H2 (upd H2 D (.lst ((ls.set q.2.1.toNat (pz ls q.2.1 + y)).map V.int))):=Tk.upd c9 rfl;have h3:upd H2 D (.lst ((ls.set q.2.1.toNat (pz ls q.2.1 + y)).map V.int)) D=some (.lst ((ls.set q.2.1.toNat (pz ls q.2.1 + y)).map V.int)):=af;have o3:∀ b u,H b=some u->upd H2 D (.lst ((ls.set q.2.1.toNat (pz ls q.2.1 + y)).map V.int)) b=some u:=fun b u e=>by
    rw[aj (ap e Cb)];exact s2 _ _ (sm b u e)
   generalize upd H2 D (.lst ((ls.set q.2.1.toNat (pz ls q.2.1 + y)).map V.int))=H3 at tk h3 o3 ⊢;refine⟨_,rfl,_,rfl,c,_,_,_,rfl,rfl,tk.sqT jR,rfl,D,_,_,_,rfl,rfl,SqL.of h3,i1,getZ i1 j1,_,rfl,_,_,rfl,rfl,D,_,_,_,rfl,rfl,h3,mZ i1 (by rw[Vd];exact j1),?_⟩;rw[<- WS];refine⟨_,_,rfl,fun b u e=>?_,af⟩;rw[aj (ap e Cb)];exact o3 b u e
  ·rintro σ H' ⟨v4,v5,rfl,sm,hD⟩
   rw[VM (by rw[Wm];omega)] at hD;exact⟨_,rfl,k D H' sm Cb hD⟩
def RO (K:PySem.W.Frag):Sp:=fun vs H Q _=>∃ l ws,vs=[.ref l]/\j7 K H l ws/\ws.length<=1000/\∀ r H',ad H H'->H r=none->H' r=some (.lst ((ws.map fun q=>q.2.2.2).map V.int))->Q (.ref r) H'
theorem Kt (T:Tx K mg a):Cal P w K mg base CX0 1 "weights_of" ["wishes"] [] (RO K):=T.d_weights_of.cal fun f fd F=>by
 refine F.ok RY (fun vs H Q E h=>?_) (fun aJ A outer s H vs Q E hr h=>?_)
 ·obtain⟨l,ws,rfl,_⟩:=h
  rfl
 ·obtain⟨l,ws,rfl,⟨xs,hl,hd⟩,hk,k⟩:=h
  have bZ:ws.length=xs.length:=by rw[<- hd.length,Vd]
  refine⟨_,(aA (bM (d7 (N:=["one","other","least","weight"]) (cap:=[none,none,none,none]) rfl (cF (osc:=aq rD) (XN:=["wishes"]) rfl rfl (by decide +kernel)) (bU (pv 0)) (fun cl C s H fp aa=>(ld (K:=K) (n:=4) rfl rfl (aU (aB (i:=0) (show(["one","other","least","weight"]:List Str).Nodup by decide +kernel) rfl (.inl rfl)) (aU (aB (i:=1) (show(["one","other","least","weight"]:List Str).Nodup by decide +kernel) rfl (.inl rfl)) (aU (aB (i:=2) (show(["one","other","least","weight"]:List Str).Nodup by decide +kernel) rfl (.inl rfl)) (aU (aB (i:=3) (show(["one","other","least","weight"]:List Str).Nodup by decide +kernel) rfl (.inl rfl)) cM)))))) (fun cl C s H fp aa=>cZ) (fun cl C s H fp aa=>(pv 3))))),?_⟩;refine⟨_,rfl,l,rfl,⟨_,hl⟩,fun D hD=>?_⟩;refine eP (K:=K) (a:=l) (xs:=xs) (fun i τ H'=>∃ v1 v2 v3 v4,τ=[v1,v2,v3,v4]/\ad H H'/\H' D=some (.lst (((ws.take i).map fun q=>q.2.2.2).map V.int))) ⟨none,none,none,none,rfl,ad.new hD,af⟩ ?_ ?_ ?_
  ·rintro i τ H' _ ⟨v1,v2,v3,v4,rfl,sm,hy⟩
   exact sm.sqL hl
  ·rintro i x τ H' hx ⟨v1,v2,v3,v4,rfl,sm,hy⟩
   obtain⟨q,hq,dq⟩:=eX hd hx;obtain⟨t,rfl,h1⟩:=lv (sm.dt dq);refine⟨t,_,rfl,h1,rfl,_,_,rfl,_,_,rfl,_,_,rfl,_,_,rfl,rfl,?_⟩;dsimp only[c5];rw[if_pos rfl];refine⟨_,rfl,_,hy,?_,_,_,_,_,rfl,?_,?_⟩
   ·rw[Vd,Vd,Vs,Vo]
    omega
   ·intro b u e
    rw[aj (ap e hD)];exact sm b u e
   ·rw[af,zam hq,Vl,Vl]
    rfl
  ·rintro τ H' ⟨v1,v2,v3,v4,rfl,sm,hy⟩
   rw[<- bZ,Vv] at hy;exact k D H' sm hD hy
def jB (n:Nat) (ws:List Wi) (fl:List Int):Bool:=decide (fl.length=ws.length) && (!(fl.map fun x=>decide (x<0)).any id && decide (cv n ws fl=cv n ws (ws.map fun q=>q.2.2.2)))
def rO (ws:List Wi) (fl:List Int):Int:=((ws.zip fl).map fun p=>p.2 * p.1.2.2.1).sum
def Sk (K:PySem.W.Frag) (a:Adr):Sp:=fun vs H Q E=>∃ n l ws p fl,vs=[.int n,.ref l,.ref p]/\j7 K H l ws/\SqL K H p ((fl:List Int).map V.int)/\ws.length<=1000/\fl.length<=1000/\0<=n/\n<=1000/\(∀ q∈ws,InR n.toNat q/\Fp q.2.2.1) /\
 (jB n.toNat ws fl=true->∀ H',ad H H'->Q (.int (rO ws fl)) H')/\(jB n.toNat ws fl=false->∀ H',ad H H'->E (.ref a.NoFlow) none H')
theorem Ui (T:Tx K mg a):Cal P w K mg base (CXe P w) 2 "bound" ["count","wishes","flow"] [] (Sk K a):=T.d_bound.cal fun f fd F=>by
 have aD:=KA (P:=P) (w:=w) (base:=base) T;have bj:=Kt (P:=P) (w:=w) (base:=base) T;refine F.okX QM (fun vs H Q E h=>?_) (fun aJ A outer s H vs Q E hr h=>?_)
 ·obtain⟨n,l,ws,p,fl,rfl,_⟩:=h
  rfl
 ·obtain⟨n,l,ws,p,fl,rfl,⟨xs,hl,hd⟩,hp,hk,hf,n0,n1,hin,k1,k2⟩:=h
  have bZ:ws.length=xs.length:=by rw[<- hd.length,Vd]
  refine⟨_,(ao (fu (PW.pt (Fv (dH op_ne (cC eQ rfl T.n_len eS (ae (pv 2) ah)) (cC eQ rfl T.n_len eS (ae (pv 1) ah)) (bY _)) (FN (zr (cC JX rfl T.n_any LW (ae (d7 (N:=["amount"]) (cap:=[none]) rfl (cF (osc:=aq qi) (XN:=["count","wishes","flow"]) rfl rfl (by decide +kernel)) (bU (pv 2)) (fun cl C s H fp aa=>(aB (i:=0) (show(["amount"]:List Str).Nodup by decide +kernel) rfl (.inl rfl))) (fun cl C s H fp aa=>cZ) (fun cl C s H fp aa=>(qk zM (pv 0) ak (bY _)))) ah)))))) (aA (FT pT T.x_NoFlow rfl T.g_NoFlow)) fZ)
   (ao (fu (dH (Jk hr.units) (aZ aD (hr.mono (by decide)) rfl (ae (pv 0) (ae (pv 1) (ae (pv 2) ah)))) (aZ aD (hr.mono (by decide)) rfl (ae (pv 0) (ae (pv 1) (ae (aZ bj (hr.mono (by decide)) rfl (ae (pv 1) ah)) ah)))) (bY _)) (aA (FT pT T.x_NoFlow rfl T.g_NoFlow)) fZ)
   (aA (bM (cC Kg rfl T.n_sum JR (ae (d7 (N:=["wish","amount"]) (cap:=[none,none]) rfl (cF (osc:=aq qi) (XN:=["count","wishes","flow"]) rfl rfl (by decide +kernel)) (zR rfl T.n_zip (ae (pv 1) (ae (pv 2) ah))) (fun cl C s H fp aa=>(ld (K:=K) (n:=2) rfl rfl (aU (aB (i:=0) (show(["wish","amount"]:List Str).Nodup by decide +kernel) rfl (.inl rfl)) (aU (aB (i:=1) (show(["wish","amount"]:List Str).Nodup by decide +kernel) rfl (.inl rfl)) cM)))) (fun cl C s H fp aa=>cZ) (fun cl C s H fp aa=>(ay jG (pv 1) (aL (zW (K:=K) rfl) (pv 0) ak (fun _ _=>rfl))))) ah)))))),?_⟩
  refine⟨_,rfl,p,_,rfl,.inl hp,_,rfl,l,_,rfl,.inl hl,rfl,_,rfl,?_⟩;refine cS (fun c=>?_) (fun c=>?_)
  ·refine gb ⟨by show 0<=sizeLine;decide,k2 ?_ H (ad.refl _)⟩
   have c':¬ fl.length=ws.length:=fun e=>by
    rw[Vd,e,bZ] at c;simp at c
   unfold jB;rw[V5 c'];rfl
  ·have ai:fl.length=ws.length:=by
    rw[Vd,<- bZ] at c;have c':(fl.length:Int)=ws.length:=by simpa using c
    omega
   refine⟨_,rfl,p,rfl,⟨_,hp⟩,fun D hD=>?_⟩;refine eP (K:=K) (a:=p) (xs:=fl.map V.int) (fun i τ H'=>∃ v1,τ=[v1]/\ad H H'/\H' D=some (.lst (((fl.take i).map fun x=>decide (x<0)).map V.bl))) ⟨none,rfl,ad.new hD,af⟩ ?_ ?_ ?_
   ·rintro i τ H' _ ⟨v1,rfl,sm,hy⟩
    exact sm.sqL hp
   ·rintro i x τ H' hx ⟨v1,rfl,sm,hy⟩
    obtain⟨z,hz,rfl⟩:=j4 hx;dsimp only[bJ,c5];rw[if_pos rfl];refine⟨_,rfl,_,_,rfl,rfl,_,hy,?_,_,rfl,?_,?_⟩
    ·rw[Vd,Vd,Vs,Vo]
     omega
    ·intro b u e
     rw[aj (ap e hD)];exact sm b u e
    ·rw[af,zam hz,Vl,Vl]
     rfl
   rintro τ H1 ⟨v1,rfl,s1,hy⟩
   refine⟨D,_,rfl,SqL.of hy,_,rfl,?_⟩;rw[Vd,Vv];refine cS (fun c2=>?_) (fun c2=>?_)
   ·refine⟨by show 0<=sizeLine;decide,k2 ?_ H1 s1⟩
    unfold jB;rw[c2];simp
   ·refine⟨_,rfl,_,rfl,_,rfl,n,l,ws,p,fl,rfl,⟨xs,s1.sqL hl,s1.dts hd⟩,s1.sqL hp,ai,n0,n1,fun q hq=>(hin q hq).1,fun r1 H2 s2 _ h2=>?_⟩
    have t2:=s1.trans s2;refine⟨_,rfl,_,rfl,_,rfl,l,ws,rfl,⟨xs,t2.sqL hl,t2.dts hd⟩,hk,fun r2 H3 s3 _ h3=>?_⟩;have t3:=t2.trans s3;refine⟨n,l,ws,r2,ws.map fun q=>q.2.2.2,rfl,⟨xs,t3.sqL hl,t3.dts hd⟩,SqL.of h3,by rw[Vd],n0,n1,fun q hq=>(hin q hq).1,fun r3 H4 s4 _ h4=>?_⟩;have t4:=t3.trans s4;refine⟨.lst ((cv n.toNat ws fl).map Dt.int),.lst ((cv n.toNat ws (ws.map fun q=>q.2.2.2)).map Dt.int),rfl,rfl,⟨r1,_,rfl,SqL.of (s4 _ _ (s3 _ _ h2)),Gf _⟩,⟨r3,_,rfl,SqL.of h4,Gf _⟩,Ri _,_,rfl,?_⟩;have e1:eqD (.lst ((cv n.toNat ws fl).map Dt.int)) (.lst ((cv n.toNat ws (ws.map fun q=>q.2.2.2)).map Dt.int))=decide (cv n.toNat ws fl=cv n.toNat ws (ws.map fun q=>q.2.2.2)):=Ku _ _;rw[e1];have eg:jB n.toNat ws fl=decide (cv n.toNat ws fl=cv n.toNat ws (ws.map fun q=>q.2.2.2)):=by
     unfold jB;rw[VG ai,c2];rfl
    refine cS (fun c3=>?_) (fun c3=>?_)
    ·refine⟨by show 0<=sizeLine;decide,k2 ?_ H4 t4⟩
     rw[eg]
     simpa using c3
    ·have g1:jB n.toNat ws fl=true:=by
      rw[eg]
      simpa using c3
     refine⟨_,rfl,_,rfl,l,p,rfl,⟨_,t4.sqL hl⟩,⟨_,t4.sqL hp⟩,fun D2 c9=>?_⟩;refine K7 (K:=K) (l1:=l) (l2:=p) (xs:=xs) (ys:=fl.map V.int) (by rw[Vd,ai,bZ]) (fun i τ H'=>∃ v1 v2,τ=[v1,v2]/\ad H4 H'/\H' D2=some (.lst ((((ws.zip fl).take i).map fun p=>p.2 * p.1.2.2.1).map V.int))) ⟨none,none,rfl,ad.new c9,af⟩ ?_ ?_ ?_
     ·rintro i τ H' _ ⟨v1,v2,rfl,sm,_⟩
      exact⟨sm.sqL (t4.sqL hl),sm.sqL (t4.sqL hp)⟩
     ·rintro i x y t τ H' hx hy nt ⟨v1,v2,rfl,sm,hD⟩
      obtain⟨q,hq,dq⟩:=eX hd hx;obtain⟨c,rfl,hc⟩:=lv (sm.dt (t4.dt dq));obtain⟨y,cU,rfl⟩:=j4 hy;have hs:=(hin q (Vj hq)).2;have s5:ad H' (upd H' t (.tup [.ref c,.int y])):=ad.new nt;have GE:upd H' t (.tup [.ref c,.int y]) t=some (.tup [.ref c,.int y]):=af;generalize upd H' t (.tup [.ref c,.int y])=H5 at s5 GE ⊢;refine⟨t,_,rfl,SqT.of GE,rfl,_,_,rfl,_,_,rfl,rfl,?_⟩;dsimp only[c5];rw[if_pos rfl];refine⟨_,rfl,_,rfl,c,_,_,_,rfl,rfl,s5.sqT hc,rfl,_,_,rfl,rfl,.inr hs,_,s5 _ _ hD,?_,_,_,rfl,?_,?_⟩
      ·rw[Vd,Vd,Vs,Wm,Vo]
       omega
      ·intro b u e
       rw[aj (ap e c9)];exact s5 _ _ (sm b u e)
      ·rw[af,zam (Kd hq cU),Vl,Vl]
       rfl
     ·rintro τ H' ⟨v1,v2,rfl,sm,hD⟩
      refine⟨D2,_,rfl,SqL.of hD,?_⟩;rw[VM (by rw[Wm];omega)];exact k1 g1 H' (t4.trans sm)
end
end K64
namespace K64
open PySem L2
theorem Jt {α:Type}{i:Nat}{b:α}{p:Prop} (e:([]:List α)[i]?=some b):p:=by
 rw[List.getElem?_nil] at e;cases e
def wI (q:Wt):Wi:=((q.1:Nat),(q.2.1:Nat),q.2.2.1,q.2.2.2)
theorem Kx.lst {q b:Addr}{G G':Hp}{C:Addr}{dx:Addr}{fs:List (Str×V)}{xs:List V} (k:Kx [q] G G') (hq:G q=some (.ins C dx fs)) (h:G b=some (.lst xs)):G' b=some (.lst xs):=k _ _ h fun z=>by
 rw[W7.mp z,hq] at h;cases h
theorem Kx.sq {K:PySem.W.Frag}{q l:Addr}{G G':Hp}{C:Addr}{dx:Addr}{fs:List (Str×V)}{xs:List V} (k:Kx [q] G G') (hq:G q=some (.ins C dx fs)) (h:SqL K G l xs):SqL K G' l xs:=by
 have ne:∀ o,G l=some o->(∀ C dx fs,o≠.ins C dx fs)->G' l=some o:=fun o e n=>k _ _ e fun z=>by
  rw[W7.mp z,hq] at e;cases e
  exact n _ _ _ rfl
 rcases h with(h|⟨o,h⟩)|h
 ·exact .inl (.inl (ne _ h fun _ _ _ z=>by cases z))
 ·exact .inl (.inr ⟨o,ne _ h fun _ _ _ z=>by cases z⟩)
 ·exact .inr h
theorem Kx.tk {q:Addr}{G G':Hp}{C:Addr}{dx:Addr}{fs:List (Str×V)} (k:Kx [q] G G') (hq:G q=some (.ins C dx fs)):Tk G G':=fun b o e z=>k b o e fun y=>by
 rw[W7.mp y,hq] at e;cases e
 cases z
theorem Kx.none {q b:Addr}{H G:Hp} (k:Kx [q] H G) (e:G b=none) (n:b≠q):H b=none:=by
 cases h:H b with
 | none=>rfl
 | some o=>
  rw[k b o h (by simp[n])] at e;cases e
def Ls (gs:List Addr) (f:Nat->List Nat) (G:Hp):Prop:=∀ i a,gs[i]?=some a->G a=some (.lst (aK (f i)))
theorem Ls.put {gs:List Addr}{f:Nat->List Nat}{G:Hp}{j:Nat}{a:Addr}{l:List Nat} (h:Ls gs f G) (nd:gs.Nodup) (e:gs[j]?=some a):Ls gs (up f j l) (upd G a (.lst (aK l))):=fun i b eb=>by
 by_cases c:i=j
 ·subst c
  rw[e] at eb;cases eb
  rw[af,aT]
 ·rw[aG _ _ c,aj (fun z=>c (by
   subst z;exact(Ys (List.getElem?_eq_some_iff.mp eb).1 nd).mp (eb.trans e.symm)))]
  exact h i b eb
theorem Ls.keep {gs:List Addr}{f:Nat->List Nat}{G:Hp}{a:Addr}{o:HO} (h:Ls gs f G) (n:a∉gs):Ls gs f (upd G a o):=fun i b eb=>by
 rw[aj (fun z=>n (by rw[<- z];exact Vj eb))];exact h i b eb
def goK (ws:List Wt) (k i:Nat):List Nat:=(List.range k).filter fun n=>decide ((ws.getD n (0,0,0,0)).1=i)
def coK (ws:List Wt) (k i:Nat):List Nat:=(List.range k).filter fun n=>decide ((ws.getD n (0,0,0,0)).2.1=i)
theorem QA (ws:List Wt) (k:Nat):goK ws (k + 1)=up (goK ws k) (ws.getD k (0,0,0,0)).1 (goK ws k (ws.getD k (0,0,0,0)).1++[k]):=by
 funext i
 unfold goK;rw[XX,WK];by_cases c:i=(ws.getD k (0,0,0,0)).1
 ·rw[c,aT,Wb,if_pos (VG rfl)]
  rfl
 ·rw[aG _ _ c,Wb,if_neg (fun z=>c (VA z).symm),WW,WN]
theorem SA (ws:List Wt) (k:Nat):coK ws (k + 1)=up (coK ws k) (ws.getD k (0,0,0,0)).2.1 (coK ws k (ws.getD k (0,0,0,0)).2.1++[k]):=by
 funext i
 unfold coK;rw[XX,WK];by_cases c:i=(ws.getD k (0,0,0,0)).2.1
 ·rw[c,aT,Wb,if_pos (VG rfl)]
  rfl
 ·rw[aG _ _ c,Wb,if_neg (fun z=>c (VA z).symm),WW,WN]
theorem QL (ws:List Wt) (k i:Nat):(goK ws k i).length<=k:=by
 have:=VZ (fun n=>decide ((ws.getD n (0,0,0,0)).1=i)) (List.range k);rw[We] at this;exact this
theorem RL (ws:List Wt) (k i:Nat):(coK ws k i).length<=k:=by
 have:=VZ (fun n=>decide ((ws.getD n (0,0,0,0)).2.1=i)) (List.range k);rw[We] at this;exact this
theorem QG {r:LR}:bw "coming" (.ref r.c) (bw "going" (.ref r.g) (bw "needs" (.ref r.n) (bw "flow" (.ref r.f) (bw "places" (.ref r.p) (bw "leasts" (.ref r.l) (bw "others" (.ref r.t) (bw "ones" (.ref r.o) [])))))))=bN r:=by
 have Mq:¬ (("ones":Str)="others"):=by decide +kernel
 have Oi:¬ (("ones":Str)="leasts"):=by decide +kernel
 have N5:¬ (("ones":Str)="places"):=by decide +kernel
 have Ms:¬ (("ones":Str)="flow"):=by decide +kernel
 have Mn:¬ (("ones":Str)="needs"):=by decide +kernel
 have NO:¬ (("ones":Str)="going"):=by decide +kernel
 have N8:¬ (("ones":Str)="coming"):=by decide +kernel
 have HK:¬ (("others":Str)="leasts"):=by decide +kernel
 have OV:¬ (("others":Str)="places"):=by decide +kernel
 have Pp:¬ (("others":Str)="flow"):=by decide +kernel
 have NU:¬ (("others":Str)="needs"):=by decide +kernel
 have Om:¬ (("others":Str)="going"):=by decide +kernel
 have Px:¬ (("others":Str)="coming"):=by decide +kernel
 have OD:¬ (("leasts":Str)="places"):=by decide +kernel
 have O0:¬ (("leasts":Str)="flow"):=by decide +kernel
 have Ny:¬ (("leasts":Str)="needs"):=by decide +kernel
 have MG:¬ (("leasts":Str)="going"):=by decide +kernel
 have NI:¬ (("leasts":Str)="coming"):=by decide +kernel
 have Nv:¬ (("places":Str)="flow"):=by decide +kernel
 have Pl:¬ (("places":Str)="needs"):=by decide +kernel
 have Mt:¬ (("places":Str)="going"):=by decide +kernel
 have Pn:¬ (("places":Str)="coming"):=by decide +kernel
 have MN:¬ (("flow":Str)="needs"):=by decide +kernel
 have M9:¬ (("flow":Str)="going"):=by decide +kernel
 have N7:¬ (("flow":Str)="coming"):=by decide +kernel
 have Ol:¬ (("needs":Str)="going"):=by decide +kernel
 have NE:¬ (("needs":Str)="coming"):=by decide +kernel
 have OS:¬ (("going":Str)="coming"):=by decide +kernel
 simp only[bw,Mq,Oi,N5,Ms,Mn,NO,N8,HK,OV,Pp,NU,Om,Px,OD,O0,Ny,MG,NI,Nv,Pl,Mt,Pn,MN,M9,N7,Ol,NE,OS,if_false]
 rfl
section
variable {P:Program}{w:World}{K:PySem.W.Frag}{mg:Str->Option Value}{base:Heap}{a:Adr}
def spLayI (K:PySem.W.Frag) (C:Addr):Sp:=fun vs H Q _=>∃ q dx wA ws,∃ c:Nat,vs=[.ref q,.int c,.ref wA]/\H q=some (.ins C dx [])/\j7 K H wA ((ws:List Wt).map wI)/\(∀ x∈ws,x.1<c/\x.2.1<c)/\ws.length<=1000/\c<=1000 /\
 ∀ r H',Kx [q] H H'->bH C H' q r ws c->H' r.p=some (.lst ((List.replicate c (0:Int)).map V.int))->H' r.f=some (.lst ((List.replicate ws.length (0:Int)).map V.int))->H' r.n=some (.lst ((List.replicate c (0:Int)).map V.int))->H r.p=none->H r.f=none->H r.n=none->Q .non H'
set_option maxHeartbeats 4000000 in
theorem S6 (T:Tx K mg a):CalI P w K mg base CX0 1 a.Layout "Layout" ["self","count","wishes"] (spLayI K a.Layout):=T.i_Layout.cal fun f fd F=>by
 refine F.ok FJ (fun vs H Q E h=>?_) (fun aJ A outer s H vs Q E hr h=>?_)
 ·obtain⟨q,dx,wA,ws,c,rfl,_⟩:=h
  rfl
 ·obtain⟨q,dx,wA,ws,c,rfl,q0,⟨xs,AE,Al⟩,hin,hw,hc,k⟩:=h
  have bZ:ws.length=xs.length:=by rw[<- Al.length,Vd,Vd]
  have uw:Kx [q] H H:=Kx.of (ad.refl _);refine⟨_,(ao (jX (pv 0) (d7 (N:=["wish"]) (cap:=[none]) rfl (cF (osc:=aq jZ) (XN:=["self","count","wishes","number","wish"]) rfl rfl (by decide +kernel)) (bU (pv 2)) (fun cl C s H fp aa=>(aB (i:=0) (show(["wish"]:List Str).Nodup by decide +kernel) rfl (.inl rfl))) (fun cl C s H fp aa=>cZ) (fun cl C s H fp aa=>(aL (zW (K:=K) rfl) (pv 0) ak (fun _ _=>rfl)))) rfl)
   (ao (jX (pv 0) (d7 (N:=["wish"]) (cap:=[none]) rfl (cF (osc:=aq jZ) (XN:=["self","count","wishes","number","wish"]) rfl rfl (by decide +kernel)) (bU (pv 2)) (fun cl C s H fp aa=>(aB (i:=0) (show(["wish"]:List Str).Nodup by decide +kernel) rfl (.inl rfl))) (fun cl C s H fp aa=>cZ) (fun cl C s H fp aa=>(aL (zW (K:=K) rfl) (pv 0) ak (fun _ _=>rfl)))) rfl)
   (ao (jX (pv 0) (d7 (N:=["wish"]) (cap:=[none]) rfl (cF (osc:=aq jZ) (XN:=["self","count","wishes","number","wish"]) rfl rfl (by decide +kernel)) (bU (pv 2)) (fun cl C s H fp aa=>(aB (i:=0) (show(["wish"]:List Str).Nodup by decide +kernel) rfl (.inl rfl))) (fun cl C s H fp aa=>cZ) (fun cl C s H fp aa=>(aL (zW (K:=K) rfl) (pv 0) ak (fun _ _=>rfl)))) rfl)
   (ao (jX (pv 0) (ay A0 (c7 (ae ak ah)) (pv 1)) rfl)
   (ao (jX (pv 0) (ay A0 (c7 (ae ak ah)) (cC eQ rfl T.n_len eS (ae (pv 2) ah))) rfl)
   (ao (jX (pv 0) (ay A0 (c7 (ae ak ah)) (pv 1)) rfl)
   (ao (jX (pv 0) (d7 (N:=["point"]) (cap:=[none]) rfl (cF (osc:=aq jZ) (XN:=["self","count","wishes","number","wish"]) rfl rfl (by decide +kernel)) (AQ rfl T.n_range (ae (pv 1) ah)) (fun cl C s H fp aa=>(aB (i:=0) (show(["point"]:List Str).Nodup by decide +kernel) rfl (.inl rfl))) (fun cl C s H fp aa=>cZ) (fun cl C s H fp aa=>(c7 ah))) rfl)
   (ao (jX (pv 0) (d7 (N:=["point"]) (cap:=[none]) rfl (cF (osc:=aq jZ) (XN:=["self","count","wishes","number","wish"]) rfl rfl (by decide +kernel)) (AQ rfl T.n_range (ae (pv 1) ah)) (fun cl C s H fp aa=>(aB (i:=0) (show(["point"]:List Str).Nodup by decide +kernel) rfl (.inl rfl))) (fun cl C s H fp aa=>cZ) (fun cl C s H fp aa=>(c7 ah))) rfl)
   (aA (c6 PassesOwn.never rfl (pO rfl T.n_enumerate (ae (pv 2) ah)) (fE rfl (aU (aB (i:=3) FJ.nd rfl (.inl rfl)) (aU (aB (i:=4) FJ.nd rfl (.inl rfl)) cM))) (ao (fw (iF PySem.F.plainAttrs_list PySem.F.slot_list_append PySem.F.type_list_append nv (aL bq (bI (pv 0) rfl) (aL eW (pv 4) ak (fun _ _=>rfl)) (fun _ _=>rfl)) (ae (pv 3) ah)))
   (aA (fw (iF PySem.F.plainAttrs_list PySem.F.slot_list_append PySem.F.type_list_append nv (aL bq (bI (pv 0) rfl) (aL eW (pv 4) ak (fun _ _=>rfl)) (fun _ _=>rfl)) (ae (pv 3) ah))))))))))))))),?_⟩
  refine⟨_,rfl,wA,rfl,⟨_,AE⟩,fun oA n0=>?_⟩;refine eP (K:=K) (a:=wA) (xs:=xs) (fun j τ G=>∃ v1,τ=[v1]/\ad H G/\G oA=some (.lst ((ws.take j).map (fun w:Wt=>V.int (w.1:Nat))))) ⟨none,rfl,ad.new n0,af⟩ ?_ ?_ ?_
  ·rintro j τ G _ ⟨v1,rfl,sg,_⟩
   exact sg.sqL AE
  ·rintro j x τ G hx ⟨v1,rfl,sg,hG⟩
   rw[WL] at Al;obtain⟨w0,ip,dw⟩:=eX Al hx;obtain⟨t,rfl,ht⟩:=lv (sg.dt dw);dsimp only[bJ,c5];rw[if_pos rfl];refine⟨_,rfl,t,_,_,_,rfl,rfl,ht,rfl,_,hG,?_,_,rfl,bx n0 sg,?_⟩
   ·rw[Vd,Vs,Vo]
    omega
   ·rw[af,zam ip,Vl]
    rfl
  rintro τ G0 ⟨v1,rfl,HH,y0⟩
  rw[<- bZ,Vv] at y0;refine⟨_,rfl,q,a.Layout,dx,_,rfl,HH _ _ q0,T.c_Layout,T.na_Layout_ones,(by show 0<1000;decide),?_⟩;obtain⟨F1,e1⟩:∃ fs,fs=bw "ones" (.ref oA) []:=⟨_,rfl⟩;rw[<- e1];have l1:F1.length=1:=by
   rw[e1];rfl
  have q1:=af (H:=G0) (a:=q) (o:=HO.ins a.Layout dx F1);have st0:Kx [q] H (upd G0 q (HO.ins a.Layout dx F1)):=(Kx.of HH).trans (Kx.upd (by simp));have cQ:upd G0 q (HO.ins a.Layout dx F1) oA=some (.lst (ws.map (fun w:Wt=>V.int (w.1:Nat)))):=by rw[aj (Ne.symm (ap q0 n0))];exact y0
  generalize upd G0 q (HO.ins a.Layout dx F1)=H1 at q1 st0 cQ ⊢;have OY:Kx [q] H H1:=uw.trans st0;have cf:=st0.sq q0 AE;have oh:=(st0.tk q0).dts (dz (fun _=>rfl) _) Al;refine⟨_,rfl,wA,rfl,⟨_,cf⟩,fun tA n1=>?_⟩;refine eP (K:=K) (a:=wA) (xs:=xs) (fun j τ G=>∃ v1,τ=[v1]/\ad H1 G/\G tA=some (.lst ((ws.take j).map (fun w:Wt=>V.int (w.2.1:Nat))))) ⟨none,rfl,ad.new n1,af⟩ ?_ ?_ ?_
  ·rintro j τ G _ ⟨v1,rfl,sg,_⟩
   exact sg.sqL cf
  ·rintro j x τ G hx ⟨v1,rfl,sg,hG⟩
   rw[WL] at oh;obtain⟨w0,ip,dw⟩:=eX oh hx;obtain⟨t,rfl,ht⟩:=lv (sg.dt dw);dsimp only[bJ,c5];rw[if_pos rfl];refine⟨_,rfl,t,_,_,_,rfl,rfl,ht,rfl,_,hG,?_,_,rfl,bx n1 sg,?_⟩
   ·rw[Vd,Vs,Vo]
    omega
   ·rw[af,zam ip,Vl]
    rfl
  rintro τ G1 ⟨v1,rfl,GM,y1⟩
  rw[<- bZ,Vv] at y1;refine⟨_,rfl,q,a.Layout,dx,_,rfl,GM _ _ q1,T.c_Layout,T.na_Layout_others,(by omega),?_⟩;obtain⟨F2,e2⟩:∃ fs,fs=bw "others" (.ref tA) F1:=⟨_,rfl⟩;rw[<- e2];have l2:F2.length=2:=by
   rw[e2,e1];rfl
  have q2:=af (H:=G1) (a:=q) (o:=HO.ins a.Layout dx F2);have st1:Kx [q] H1 (upd G1 q (HO.ins a.Layout dx F2)):=(Kx.of GM).trans (Kx.upd (by simp));have de:upd G1 q (HO.ins a.Layout dx F2) tA=some (.lst (ws.map (fun w:Wt=>V.int (w.2.1:Nat)))):=by rw[aj (Ne.symm (ap q1 n1))];exact y1
  generalize upd G1 q (HO.ins a.Layout dx F2)=H2 at q2 st1 de ⊢;have gy:Kx [q] H H2:=OY.trans st1;have cQ:=st1.lst q1 cQ;have bQ:=st1.sq q1 cf;have eA:=(st1.tk q1).dts (dz (fun _=>rfl) _) oh;refine⟨_,rfl,wA,rfl,⟨_,bQ⟩,fun lA n2=>?_⟩;refine eP (K:=K) (a:=wA) (xs:=xs) (fun j τ G=>∃ v1,τ=[v1]/\ad H2 G/\G lA=some (.lst ((ws.take j).map (fun w:Wt=>V.int w.2.2.1)))) ⟨none,rfl,ad.new n2,af⟩ ?_ ?_ ?_
  ·rintro j τ G _ ⟨v1,rfl,sg,_⟩
   exact sg.sqL bQ
  ·rintro j x τ G hx ⟨v1,rfl,sg,hG⟩
   rw[WL] at eA;obtain⟨w0,ip,dw⟩:=eX eA hx;obtain⟨t,rfl,ht⟩:=lv (sg.dt dw);dsimp only[bJ,c5];rw[if_pos rfl];refine⟨_,rfl,t,_,_,_,rfl,rfl,ht,rfl,_,hG,?_,_,rfl,bx n2 sg,?_⟩
   ·rw[Vd,Vs,Vo]
    omega
   ·rw[af,zam ip,Vl]
    rfl
  rintro τ G2 ⟨v1,rfl,vn,y2⟩
  rw[<- bZ,Vv] at y2;refine⟨_,rfl,q,a.Layout,dx,_,rfl,vn _ _ q2,T.c_Layout,T.na_Layout_leasts,(by omega),?_⟩;obtain⟨F3,e3⟩:∃ fs,fs=bw "leasts" (.ref lA) F2:=⟨_,rfl⟩;rw[<- e3];have l3:F3.length=3:=by
   rw[e3,e2,e1];rfl
  have q3:=af (H:=G2) (a:=q) (o:=HO.ins a.Layout dx F3);have h8:Kx [q] H2 (upd G2 q (HO.ins a.Layout dx F3)):=(Kx.of vn).trans (Kx.upd (by simp));have dO:upd G2 q (HO.ins a.Layout dx F3) lA=some (.lst (ws.map (fun w:Wt=>V.int w.2.2.1))):=by rw[aj (Ne.symm (ap q2 n2))];exact y2
  generalize upd G2 q (HO.ins a.Layout dx F3)=H3 at q3 h8 dO ⊢;have eI:Kx [q] H H3:=gy.trans h8;have cQ:=h8.lst q2 cQ;have de:=h8.lst q2 de;have lJ:=h8.sq q2 bQ;have dL:=(h8.tk q2).dts (dz (fun _=>rfl) _) eA;refine⟨(by show 1<=sizeLine;decide),fun z3 IC=>⟨_,rfl,z3,_,_,rfl,rfl,af,by omega,by omega,(by rw[Vo];show 1 * ((c:Nat):Int).toNat<=_;omega),fun pA IR=>?_⟩⟩;rw[Vn,Bo];have B6:ad H3 (upd (upd H3 z3 (.lst [V.int 0])) pA (.lst ((List.replicate c (0:Int)).map V.int))):=(ad.new IC).trans (ad.new IR);have y3:upd (upd H3 z3 (.lst [V.int 0])) pA (.lst ((List.replicate c (0:Int)).map V.int)) pA=some (.lst ((List.replicate c (0:Int)).map V.int)):=af;have n3:H3 pA=none:=none_of (ad.new IC) IR;generalize upd (upd H3 z3 (.lst [V.int 0])) pA (.lst ((List.replicate c (0:Int)).map V.int))=G3 at B6 y3 ⊢;have wY:q≠pA:=ap q3 n3;have DC:oA≠pA:=ap cQ n3;have D1:tA≠pA:=ap de n3;have DU:lA≠pA:=ap dO n3;have MB:H pA=none:=eI.none n3 (Ne.symm wY);refine⟨_,rfl,q,a.Layout,dx,_,rfl,B6 _ _ q3,T.c_Layout,T.na_Layout_places,(by omega),?_⟩;obtain⟨F4,e4⟩:∃ fs,fs=bw "places" (.ref pA) F3:=⟨_,rfl⟩;rw[<- e4];have l4:F4.length=4:=by
   rw[e4,e3,e2,e1];rfl
  have q4:=af (H:=G3) (a:=q) (o:=HO.ins a.Layout dx F4);have jK:Kx [q] H3 (upd G3 q (HO.ins a.Layout dx F4)):=(Kx.of B6).trans (Kx.upd (by simp));have ff:upd G3 q (HO.ins a.Layout dx F4) pA=some (.lst ((List.replicate c (0:Int)).map V.int)):=by rw[aj (Ne.symm (ap q3 n3))];exact y3
  generalize upd G3 q (HO.ins a.Layout dx F4)=H4 at q4 jK ff ⊢;have eD:Kx [q] H H4:=eI.trans jK;have cQ:=jK.lst q3 cQ;have de:=jK.lst q3 de;have dO:=jK.lst q3 dO;have GQ:=jK.sq q3 lJ;have wH:=(jK.tk q3).dts (dz (fun _=>rfl) _) dL;refine⟨(by show 1<=sizeLine;decide),fun z4 DF=>⟨_,rfl,wA,_,rfl,.inl ((ad.new DF).sqL GQ),z4,_,_,rfl,rfl,af,by omega,by omega,(by rw[Vo];show 1 * ((xs.length:Nat):Int).toNat<=_;omega),fun fA HV=>?_⟩⟩;rw[<- bZ];rw[Vn,Bo];have EQ:ad H4 (upd (upd H4 z4 (.lst [V.int 0])) fA (.lst ((List.replicate ws.length (0:Int)).map V.int))):=(ad.new DF).trans (ad.new HV);have y4:upd (upd H4 z4 (.lst [V.int 0])) fA (.lst ((List.replicate ws.length (0:Int)).map V.int)) fA=some (.lst ((List.replicate ws.length (0:Int)).map V.int)):=af;have n4:H4 fA=none:=none_of (ad.new DF) HV;generalize upd (upd H4 z4 (.lst [V.int 0])) fA (.lst ((List.replicate ws.length (0:Int)).map V.int))=G4 at EQ y4 ⊢;have vB:q≠fA:=ap q4 n4;have Dr:oA≠fA:=ap cQ n4;have CO:tA≠fA:=ap de n4;have D6:lA≠fA:=ap dO n4;have Cm:pA≠fA:=ap ff n4;have mz:H fA=none:=eD.none n4 (Ne.symm vB);refine⟨_,rfl,q,a.Layout,dx,_,rfl,EQ _ _ q4,T.c_Layout,T.na_Layout_flow,(by omega),?_⟩;obtain⟨F5,e5⟩:∃ fs,fs=bw "flow" (.ref fA) F4:=⟨_,rfl⟩;rw[<- e5];have l5:F5.length=5:=by
   rw[e5,e4,e3,e2,e1];rfl
  have q5:=af (H:=G4) (a:=q) (o:=HO.ins a.Layout dx F5);have lN:Kx [q] H4 (upd G4 q (HO.ins a.Layout dx F5)):=(Kx.of EQ).trans (Kx.upd (by simp));have gN:upd G4 q (HO.ins a.Layout dx F5) fA=some (.lst ((List.replicate ws.length (0:Int)).map V.int)):=by rw[aj (Ne.symm (ap q4 n4))];exact y4
  generalize upd G4 q (HO.ins a.Layout dx F5)=H5 at q5 lN gN ⊢;have ig:Kx [q] H H5:=eD.trans lN;have cQ:=lN.lst q4 cQ;have de:=lN.lst q4 de;have dO:=lN.lst q4 dO;have ff:=lN.lst q4 ff;have MZ:=lN.sq q4 GQ;have wx:=(lN.tk q4).dts (dz (fun _=>rfl) _) wH;refine⟨(by show 1<=sizeLine;decide),fun z5 HU=>⟨_,rfl,z5,_,_,rfl,rfl,af,by omega,by omega,(by rw[Vo];show 1 * ((c:Nat):Int).toNat<=_;omega),fun nA IZ=>?_⟩⟩;rw[Vn,Bo];have De:ad H5 (upd (upd H5 z5 (.lst [V.int 0])) nA (.lst ((List.replicate c (0:Int)).map V.int))):=(ad.new HU).trans (ad.new IZ);have y5:upd (upd H5 z5 (.lst [V.int 0])) nA (.lst ((List.replicate c (0:Int)).map V.int)) nA=some (.lst ((List.replicate c (0:Int)).map V.int)):=af;have n5:H5 nA=none:=none_of (ad.new HU) IZ;generalize upd (upd H5 z5 (.lst [V.int 0])) nA (.lst ((List.replicate c (0:Int)).map V.int))=G5 at De y5 ⊢;have wj:q≠nA:=ap q5 n5;have B4:oA≠nA:=ap cQ n5;have CS:tA≠nA:=ap de n5;have B1:lA≠nA:=ap dO n5;have Et:pA≠nA:=ap ff n5;have DW:fA≠nA:=ap gN n5;have qp:H nA=none:=ig.none n5 (Ne.symm wj);refine⟨_,rfl,q,a.Layout,dx,_,rfl,De _ _ q5,T.c_Layout,T.na_Layout_needs,(by omega),?_⟩;obtain⟨F6,e6⟩:∃ fs,fs=bw "needs" (.ref nA) F5:=⟨_,rfl⟩;rw[<- e6];have l6:F6.length=6:=by
   rw[e6,e5,e4,e3,e2,e1];rfl
  have q6:=af (H:=G5) (a:=q) (o:=HO.ins a.Layout dx F6);have eh:Kx [q] H5 (upd G5 q (HO.ins a.Layout dx F6)):=(Kx.of De).trans (Kx.upd (by simp));have jS:upd G5 q (HO.ins a.Layout dx F6) nA=some (.lst ((List.replicate c (0:Int)).map V.int)):=by rw[aj (Ne.symm (ap q5 n5))];exact y5
  generalize upd G5 q (HO.ins a.Layout dx F6)=H6 at q6 eh jS ⊢;have rY:Kx [q] H H6:=ig.trans eh;have cQ:=eh.lst q5 cQ;have de:=eh.lst q5 de;have dO:=eh.lst q5 dO;have ff:=eh.lst q5 ff;have gN:=eh.lst q5 gN;have Mh:=eh.sq q5 MZ;have Aq:=(eh.tk q5).dts (dz (fun _=>rfl) _) wx;refine⟨_,rfl,_,rfl,by omega,by omega,fun gA n6=>?_⟩;refine Ge (lo:=0) (n:=((c:Nat):Int).toNat) (fun j τ G=>∃ v1,∃ gs:List Addr,τ=[v1]/\ad H6 G/\G gA=some (.lst (gs.map V.ref))/\gs.length=j/\gs.Nodup/\∀ i b,gs[i]?=some b->G b=some (.lst [])/\H6 b=none/\b≠gA) ⟨none,[],rfl,ad.new n6,af,rfl,Wr,fun i b e=>Jt e⟩ ?_ ?_
  ·rintro j τ G hj ⟨v1,gs,rfl,sg,hG,gl,nd,m⟩
   rw[Vn] at hj;dsimp only[bJ,c5];rw[if_pos rfl];refine⟨(by show 0<=sizeLine;decide),fun z nz=>?_⟩;have zD:z≠gA:=fun e=>by rw[e,hG] at nz;cases nz
   refine⟨_,by rw[aj (Ne.symm zD)];exact hG,?_,_,gs++[z],rfl,bx n6 (sg.trans (ad.new nz)),?_,by rw[VD,gl];rfl,?_,fun i b e=>?_⟩
   ·rw[Vd,gl,Vo]
    omega
   ·rw[af,Vl]
    rfl
   ·refine Xa.mpr ⟨nd,by simp,fun x hx y hy=>?_⟩
    rw[W7.mp hy];rintro rfl
    obtain⟨i,e⟩:=List.mem_iff_getElem?.mp hx;rw[(m i x e).1] at nz;cases nz
   ·rcases Wc i gs.length with l|l
    ·rw[WR l] at e
     obtain⟨m1,m2,m3⟩:=m i b e;have bz:b≠z:=ap m1 nz;exact⟨by rw[aj m3,aj bz];exact m1,m2,m3⟩
    ·rw[WB l] at e
     have e0:i - gs.length=0:=by
      have:=(List.getElem?_eq_some_iff.mp e).1;rw[Xe] at this;omega
     rw[e0] at e;cases e
     exact⟨by rw[aj zD,af],none_of sg nz,zD⟩
  rintro τ G6 ⟨v1,bK,rfl,HD,y6,gl6,Ac,m6⟩
  rw[Vn] at gl6;have Mp:q≠gA:=ap q6 n6;have Mb:oA≠gA:=ap cQ n6;have Md:tA≠gA:=ap de n6;have OI:lA≠gA:=ap dO n6;have Bw:pA≠gA:=ap ff n6;have E9:fA≠gA:=ap gN n6;have BI:nA≠gA:=ap jS n6;have C7:∀ i b,(bK:List Addr)[i]?=some b->q≠b:=fun i b e=>ap q6 (m6 i b e).2.1
  have ER:∀ i b,(bK:List Addr)[i]?=some b->oA≠b:=fun i b e=>ap cQ (m6 i b e).2.1
  have CY:∀ i b,(bK:List Addr)[i]?=some b->tA≠b:=fun i b e=>ap de (m6 i b e).2.1
  have Dk:∀ i b,(bK:List Addr)[i]?=some b->lA≠b:=fun i b e=>ap dO (m6 i b e).2.1
  have tM:∀ i b,(bK:List Addr)[i]?=some b->pA≠b:=fun i b e=>ap ff (m6 i b e).2.1
  have xg:∀ i b,(bK:List Addr)[i]?=some b->fA≠b:=fun i b e=>ap gN (m6 i b e).2.1
  have xk:∀ i b,(bK:List Addr)[i]?=some b->nA≠b:=fun i b e=>ap jS (m6 i b e).2.1
  have D4:∀ i b,(bK:List Addr)[i]?=some b->gA≠b:=fun i b e=>Ne.symm (m6 i b e).2.2
  refine⟨_,rfl,q,a.Layout,dx,_,rfl,HD _ _ q6,T.c_Layout,T.na_Layout_going,(by omega),?_⟩;obtain⟨F7,e7⟩:∃ fs,fs=bw "going" (.ref gA) F6:=⟨_,rfl⟩;rw[<- e7];have l7:F7.length=7:=by
   rw[e7,e6,e5,e4,e3,e2,e1];rfl
  have q7:=af (H:=G6) (a:=q) (o:=HO.ins a.Layout dx F7);have jO:Kx [q] H6 (upd G6 q (HO.ins a.Layout dx F7)):=(Kx.of HD).trans (Kx.upd (by simp));have oZ:upd G6 q (HO.ins a.Layout dx F7) gA=some (.lst (bK.map V.ref)):=by rw[aj (Ne.symm (ap q6 n6))];exact y6
  have z6:∀ i b,(bK:List Addr)[i]?=some b->upd G6 q (HO.ins a.Layout dx F7) b=some (.lst []):=fun i b e=>by rw[aj (fun z=>by rw[z] at e;exact absurd ((m6 i q e).2.1) (by rw[q6];exact fun y=>by cases y))];exact(m6 i b e).1
  generalize upd G6 q (HO.ins a.Layout dx F7)=H7 at q7 jO oZ z6 ⊢;have As:Kx [q] H H7:=rY.trans jO;have cQ:=jO.lst q6 cQ;have de:=jO.lst q6 de;have dO:=jO.lst q6 dO;have ff:=jO.lst q6 ff;have gN:=jO.lst q6 gN;have jS:=jO.lst q6 jS;have Mo:=jO.sq q6 Mh;have Oo:=(jO.tk q6).dts (dz (fun _=>rfl) _) Aq;refine⟨_,rfl,_,rfl,by omega,by omega,fun cA n7=>?_⟩;refine Ge (lo:=0) (n:=((c:Nat):Int).toNat) (fun j τ G=>∃ v1,∃ gs:List Addr,τ=[v1]/\ad H7 G/\G cA=some (.lst (gs.map V.ref))/\gs.length=j/\gs.Nodup/\∀ i b,gs[i]?=some b->G b=some (.lst [])/\H7 b=none/\b≠cA) ⟨none,[],rfl,ad.new n7,af,rfl,Wr,fun i b e=>Jt e⟩ ?_ ?_
  ·rintro j τ G hj ⟨v1,gs,rfl,sg,hG,gl,nd,m⟩
   rw[Vn] at hj;dsimp only[bJ,c5];rw[if_pos rfl];refine⟨(by show 0<=sizeLine;decide),fun z nz=>?_⟩;have zD:z≠cA:=fun e=>by rw[e,hG] at nz;cases nz
   refine⟨_,by rw[aj (Ne.symm zD)];exact hG,?_,_,gs++[z],rfl,bx n7 (sg.trans (ad.new nz)),?_,by rw[VD,gl];rfl,?_,fun i b e=>?_⟩
   ·rw[Vd,gl,Vo]
    omega
   ·rw[af,Vl]
    rfl
   ·refine Xa.mpr ⟨nd,by simp,fun x hx y hy=>?_⟩
    rw[W7.mp hy];rintro rfl
    obtain⟨i,e⟩:=List.mem_iff_getElem?.mp hx;rw[(m i x e).1] at nz;cases nz
   ·rcases Wc i gs.length with l|l
    ·rw[WR l] at e
     obtain⟨m1,m2,m3⟩:=m i b e;have bz:b≠z:=ap m1 nz;exact⟨by rw[aj m3,aj bz];exact m1,m2,m3⟩
    ·rw[WB l] at e
     have e0:i - gs.length=0:=by
      have:=(List.getElem?_eq_some_iff.mp e).1;rw[Xe] at this;omega
     rw[e0] at e;cases e
     exact⟨by rw[aj zD,af],none_of sg nz,zD⟩
  rintro τ G7 ⟨v1,bO,rfl,HY,y7,Ho,Pf,m7⟩
  rw[Vn] at Ho;have NQ:q≠cA:=ap q7 n7;have Pg:oA≠cA:=ap cQ n7;have OM:tA≠cA:=ap de n7;have OO:lA≠cA:=ap dO n7;have Cz:pA≠cA:=ap ff n7;have C8:fA≠cA:=ap gN n7;have Dv:nA≠cA:=ap jS n7;have Mc:gA≠cA:=ap oZ n7;have C3:∀ i b,(bO:List Addr)[i]?=some b->q≠b:=fun i b e=>ap q7 (m7 i b e).2.1
  have Ci:∀ i b,(bO:List Addr)[i]?=some b->oA≠b:=fun i b e=>ap cQ (m7 i b e).2.1
  have DK:∀ i b,(bO:List Addr)[i]?=some b->tA≠b:=fun i b e=>ap de (m7 i b e).2.1
  have EL:∀ i b,(bO:List Addr)[i]?=some b->lA≠b:=fun i b e=>ap dO (m7 i b e).2.1
  have wM:∀ i b,(bO:List Addr)[i]?=some b->pA≠b:=fun i b e=>ap ff (m7 i b e).2.1
  have yA:∀ i b,(bO:List Addr)[i]?=some b->fA≠b:=fun i b e=>ap gN (m7 i b e).2.1
  have xL:∀ i b,(bO:List Addr)[i]?=some b->nA≠b:=fun i b e=>ap jS (m7 i b e).2.1
  have Ej:∀ i b,(bO:List Addr)[i]?=some b->gA≠b:=fun i b e=>ap oZ (m7 i b e).2.1
  have By:∀ i b,(bO:List Addr)[i]?=some b->cA≠b:=fun i b e=>Ne.symm (m7 i b e).2.2
  have Ev:∀ i b,(bK:List Addr)[i]?=some b->cA≠b:=fun i b e=>Ne.symm (ap (z6 i b e) n7)
  have BT:∀ i b j b',(bK:List Addr)[i]?=some b->(bO:List Addr)[j]?=some b'->b≠b':=fun i b j b' e e'=>ap (z6 i b e) (m7 j b' e').2.1
  refine⟨_,rfl,q,a.Layout,dx,_,rfl,HY _ _ q7,T.c_Layout,T.na_Layout_coming,(by omega),?_⟩;obtain⟨F8,e8⟩:∃ fs,fs=bw "coming" (.ref cA) F7:=⟨_,rfl⟩;rw[<- e8];have q8:=af (H:=G7) (a:=q) (o:=HO.ins a.Layout dx F8);have ir:Kx [q] H7 (upd G7 q (HO.ins a.Layout dx F8)):=(Kx.of HY).trans (Kx.upd (by simp));have Er:upd G7 q (HO.ins a.Layout dx F8) cA=some (.lst (bO.map V.ref)):=by rw[aj (Ne.symm (ap q7 n7))];exact y7
  have z7:∀ i b,(bO:List Addr)[i]?=some b->upd G7 q (HO.ins a.Layout dx F8) b=some (.lst []):=fun i b e=>by rw[aj (fun z=>by rw[z] at e;exact absurd ((m7 i q e).2.1) (by rw[q7];exact fun y=>by cases y))];exact(m7 i b e).1
  generalize upd G7 q (HO.ins a.Layout dx F8)=H8 at q8 ir Er z7 ⊢;have qD:Kx [q] H H8:=As.trans ir;have cQ:=ir.lst q7 cQ;have de:=ir.lst q7 de;have dO:=ir.lst q7 dO;have ff:=ir.lst q7 ff;have gN:=ir.lst q7 gN;have jS:=ir.lst q7 jS;have oZ:=ir.lst q7 oZ;have NC:=ir.sq q7 Mo;have Hn:=(ir.tk q7).dts (dz (fun _=>rfl) _) Oo;have z6:∀ i b,(bK:List Addr)[i]?=some b->H8 b=some (.lst []):=fun i b e=>ir.lst q7 (z6 i b e)
  have eF:F8=bN ⟨oA,tA,lA,pA,fA,nA,gA,cA⟩:=by
   rw[e8,e7,e6,e5,e4,e3,e2,e1];exact QG (r:=⟨oA,tA,lA,pA,fA,nA,gA,cA⟩)
  rw[eF] at q8;have gk:∀ b∈bK++bO,q≠b/\oA≠b/\tA≠b/\lA≠b/\pA≠b/\fA≠b/\nA≠b/\gA≠b/\cA≠b:=fun b hb=>by
   rcases XW.mp hb with z|z
   ·obtain⟨i,e⟩:=List.mem_iff_getElem?.mp z
    exact⟨C7 i b e,ER i b e,CY i b e,Dk i b e,tM i b e,xg i b e,xk i b e,D4 i b e,Ev i b e⟩
   ·obtain⟨i,e⟩:=List.mem_iff_getElem?.mp z
    exact⟨C3 i b e,Ci i b e,DK i b e,EL i b e,wM i b e,yA i b e,xL i b e,Ej i b e,By i b e⟩
  have fresh:∀ b∈bK++bO,H b=none/\H8 b=some (.lst []):=fun b hb=>by
   have nq:=(gk b hb).1;rcases XW.mp hb with z|z
   ·obtain⟨i,e⟩:=List.mem_iff_getElem?.mp z
    exact⟨rY.none (m6 i b e).2.1 (Ne.symm nq),z6 i b e⟩
   ·obtain⟨i,e⟩:=List.mem_iff_getElem?.mp z
    exact⟨As.none (m7 i b e).2.1 (Ne.symm nq),z7 i b e⟩
  have rZ:∀ b,(∀ c∈bK++bO,b≠c)->b∉bK++bO:=fun b h z=>h b z rfl
  have NR:∀ G,Kx (bK++bO) H8 G->SqL K G wA xs:=fun G kx=>by
   rcases AE with(h|⟨o,h⟩)|h
   ·have e8:=qD _ _ h (by simp;rintro rfl;rw[q0] at h;cases h)
    exact .inl (.inl (kx _ _ e8 fun z=>by rw[(fresh _ z).1] at h;cases h))
   ·have e8:=qD _ _ h (by simp;rintro rfl;rw[q0] at h;cases h)
    exact .inl (.inr ⟨o,kx _ _ e8 fun z=>by rw[(fresh _ z).1] at h;cases h⟩)
   ·exact .inr h
  have yK:∀ G,Kx (bK++bO) H8 G->Tk H8 G:=fun G kx b o z1 z2=>kx b o z1 fun y=>by
   rw[(fresh b y).2] at z1;cases z1
   cases z2
  have Gx:∀ b,b∈bK->b∉bO:=fun b h1 h2=>by
   obtain⟨i,e⟩:=List.mem_iff_getElem?.mp h1;obtain⟨j,e'⟩:=List.mem_iff_getElem?.mp h2;exact BT i b j b e e' rfl
  rw[WL] at Hn;refine⟨_,rfl,wA,rfl,⟨_,NC⟩,rJ (K:=K) (l:=wA) (xs:=xs) (fun i σ G=>∃ v3 v4,σ=[some (.ref q),some (.int (c:Nat)),some (.ref wA),v3,v4]/\Kx (bK++bO) H8 G/\Ls bK (goK ws i) G/\Ls bO (coK ws i) G)
   ⟨none,none,rfl,Kx.of (ad.refl _),fun i b e=>z6 i b e,fun i b e=>z7 i b e⟩ ?_ ?_ ?_⟩
  ·rintro i σ G _ ⟨_,_,rfl,kx,_⟩
   exact NR G kx
  ·rintro i x tt σ G hx nt ⟨v3,v4,rfl,kx,lg,lc⟩
   obtain⟨w0,ip,dw⟩:=eX Hn hx;obtain⟨t,rfl,ht⟩:=lv ((yK G kx).dt rfl dw);obtain⟨i1,i2⟩:=hin w0 (Vj ip);have hi:i<ws.length:=(List.getElem?_eq_some_iff.mp ip).1;have ew:ws.getD i (0,0,0,0)=w0:=by rw[Vf,ip];rfl
   obtain⟨ga,kM⟩:=gJ (l:=bK) (j:=w0.1) (by omega);obtain⟨ca,l9⟩:=gJ (l:=bO) (j:=w0.2.1) (by omega);have Ir:ga∈bK:=Vj kM;have HS:ca∈bO:=Vj l9;have Ey:atI (bK.map V.ref) (w0.1:Int)=some (.ref ga):=by rw[jH (by omega),Vn,Vp,kM];rfl
   have Fe:atI (bO.map V.ref) (w0.2.1:Int)=some (.ref ca):=by rw[jH (by omega),Vn,Vp,l9];rfl
   have s3:ad G (upd G tt (.tup [.int i,.ref t])):=ad.new nt;have h3:upd G tt (.tup [.int i,.ref t]) tt=some (.tup [.int i,.ref t]):=af;have u0:Ls bK (goK ws i) (upd G tt (.tup [.int i,.ref t])):=fun j b e=>s3 _ _ (lg j b e)
   have HG:Ls bO (coK ws i) (upd G tt (.tup [.int i,.ref t])):=fun j b e=>s3 _ _ (lc j b e)
   generalize upd G tt (.tup [.int i,.ref t])=G3 at s3 h3 u0 HG ⊢;have eI:Kx (bK++bO) H8 G3:=kx.trans (Kx.of s3);have q3:G3 q=_:=eI _ _ q8 (rZ _ fun b hb=>(gk b hb).1);have g3:G3 gA=_:=eI _ _ oZ (rZ _ fun b hb=>(gk b hb).2.2.2.2.2.2.2.1);have gl:=QL ws i w0.1;have cl:=RL ws i w0.2.1;refine⟨tt,_,rfl,SqT.of h3,rfl,_,_,rfl,_,_,rfl,rfl,?_⟩;refine⟨_,rfl,q,a.Layout,dx,_,_,rfl,q3,T.c_Layout,T.na_Layout_going,Li,_,rfl,t,_,_,_,rfl,rfl,s3.sqT ht,rfl,gA,_,_,_,rfl,rfl,SqL.of g3,Ey,.inl ⟨rfl,_,SqL.of (u0 _ _ kM)⟩,_,rfl,ga,_,_,rfl,rfl,u0 _ _ kM,?_,?_⟩
   ·unfold aK
    rw[Vd,Vo];omega
   have en:aK (goK ws i w0.1)++[V.int (i:Nat)]=aK (goK ws i w0.1++[i]):=by
    unfold aK;rw[Vl];rfl
   rw[en];have eD:Kx (bK++bO) H8 (upd G3 ga (.lst (aK (goK ws i w0.1++[i])))):=eI.trans (Kx.upd (VN _ Ir));have Hy:Ls bK (goK ws (i + 1)) (upd G3 ga (.lst (aK (goK ws i w0.1++[i])))):=by
    rw[QA,ew];exact u0.put Ac kM
   have Aa:Ls bO (coK ws i) (upd G3 ga (.lst (aK (goK ws i w0.1++[i])))):=HG.keep (Gx ga Ir);have Hf:Tk G3 (upd G3 ga (.lst (aK (goK ws i w0.1++[i])))):=Tk.upd (u0 _ _ kM) rfl;generalize upd G3 ga (.lst (aK (goK ws i w0.1++[i])))=G4 at eD Hy Aa Hf ⊢;have q4:G4 q=_:=eD _ _ q8 (rZ _ fun b hb=>(gk b hb).1);have c4:G4 cA=_:=eD _ _ Er (rZ _ fun b hb=>(gk b hb).2.2.2.2.2.2.2.2);refine⟨_,rfl,q,a.Layout,dx,_,_,rfl,q4,T.c_Layout,T.na_Layout_coming,KM,_,rfl,t,_,_,_,rfl,rfl,Hf.sqT (s3.sqT ht),rfl,cA,_,_,_,rfl,rfl,SqL.of c4,Fe,.inl ⟨rfl,_,SqL.of (Aa _ _ l9)⟩,_,rfl,ca,_,_,rfl,rfl,Aa _ _ l9,?_,?_⟩
   ·unfold aK
    rw[Vd,Vo];omega
   have en:aK (coK ws i w0.2.1)++[V.int (i:Nat)]=aK (coK ws i w0.2.1++[i]):=by
    unfold aK;rw[Vl];rfl
   rw[en];refine⟨_,_,rfl,eD.trans (Kx.upd (Vr _ HS)),Hy.keep (fun z=>Gx ca z HS),?_⟩;rw[SA,ew];exact Aa.put Pf l9
  ·rintro σ G ⟨v3,v4,rfl,kx,lg,lc⟩
   rw[<- bZ] at lg lc;have at_:∀ b o,H8 b=some o->(∀ d∈bK++bO,b≠d)->G b=some o:=fun b o e n=>kx b o e (rZ b n)
   refine k ⟨oA,tA,lA,pA,fA,nA,gA,cA⟩ G (fun b o e z=>?_) ?_ (at_ _ _ ff fun d hd=>(gk d hd).2.2.2.2.1) (at_ _ _ gN fun d hd=>(gk d hd).2.2.2.2.2.1) (at_ _ _ jS fun d hd=>(gk d hd).2.2.2.2.2.2.1) MB mz qp
   ·exact kx _ _ (qD b o e z) fun y=>by
     rw[(fresh b y).1] at e;cases e
   ·exact⟨⟨dx,at_ _ _ q8 fun d hd=>(gk d hd).1⟩,at_ _ _ cQ fun d hd=>(gk d hd).2.1,at_ _ _ de fun d hd=>(gk d hd).2.2.1,at_ _ _ dO fun d hd=>(gk d hd).2.2.2.1,
     ⟨bK,at_ _ _ oZ fun d hd=>(gk d hd).2.2.2.2.2.2.2.1,gl6,fun i b e=>⟨lg i b e,Ne.symm (tM i b e),Ne.symm (xg i b e),Ne.symm (xk i b e)⟩⟩,
     ⟨bO,at_ _ _ Er fun d hd=>(gk d hd).2.2.2.2.2.2.2.2,Ho,fun i b e=>⟨lc i b e,Ne.symm (wM i b e),Ne.symm (yA i b e),Ne.symm (xL i b e)⟩⟩,
     ⟨DC,Dr,B4⟩,⟨D1,CO,CS⟩,⟨DU,D6,B1⟩,⟨Ne.symm Bw,Ne.symm E9,Ne.symm BI⟩,⟨Ne.symm Cz,Ne.symm C8,Ne.symm Dv⟩,⟨wY,vB,wj⟩,Cm,Et,DW⟩
end
end K64
namespace K64
open PySem L2
def mxL:List Int->Int
 | []=>0
 | x::r=>max x (mxL r)
theorem Fn:∀ (l:List Int),0<=mxL l/\∀ x∈l,x<=mxL l
 | []=>⟨V1 _,fun x h=>by cases h⟩
 | y::r=>by
  obtain⟨h1,h2⟩:=Fn r;have e:mxL (y::r)=max y (mxL r):=rfl;rw[e];refine⟨by omega,fun x hx=>?_⟩;rcases VH.mp hx with z|z
  ·rw[z]
   omega
  ·have:=h2 x z
   omega
theorem Br {m:Int}:∀ (l:List Int),0<=m->(∀ x∈l,x<=m)->mxL l<=m
 | [],h,_=>h
 | y::r,h,hx=>by
  have h1:=Br r h fun x z=>hx x (Vt _ z)
  have h2:=hx y Vz;have e:mxL (y::r)=max y (mxL r):=rfl;rw[e];omega
def pw:Nat->List Int
 | 0=>[1]
 | m + 1=>16 ^ (m + 1)::pw m
theorem AY:∀ m,(pw m).length=m + 1
 | 0=>rfl
 | m + 1=>by
  show(pw m).length + 1=_;rw[AY m]
theorem RS:∀ m,∃ r,pw m=(16:Int) ^ m::r
 | 0=>⟨[],rfl⟩
 | m + 1=>⟨pw m,rfl⟩
def FigOk (mx:Int) (m:Nat):Prop:=(∀ i,i<m->(16:Int) ^ i * 16<=mx)/\¬ (16:Int) ^ m * 16<=mx
theorem JA (m:Nat):(0:Int)<16 ^ m:=Int.pow_pos (by decide)
theorem rR (m:Nat):(16:Int) ^ (m + 1)=16 ^ m * 16:=Int.pow_succ _ _
section
variable {P:Program}{w:World}{K:PySem.W.Frag}{mg:Str->Option Value}{base:Heap}{a:Adr}
def spFigs (K:PySem.W.Frag):Sp:=fun vs H Q _=>∃ l wt,vs=[.ref l]/\SqL K H l ((wt:List Int).map V.int)/\(∀ x∈wt,0<=x/\x<2 ^ 61)/\∀ m g H',ad H H'->H g=none->H' g=some (.lst ((pw m).map V.int))->FigOk (mxL wt) m->m<=100->Q (.ref g) H'
set_option maxHeartbeats 4000000 in
theorem Qt (T:Tx K mg a):Cal P w K mg base CX0 1 "figure_worths" ["weights"] [] (spFigs K):=T.d_figure_worths.cal fun f fd F=>by
 refine F.ok LU (fun vs H Q E h=>?_) (fun aJ A outer s H vs Q E hr h=>?_)
 ·obtain⟨l,wt,rfl,_⟩:=h
  rfl
 ·obtain⟨l,wt,rfl,hl,hw,k⟩:=h
  obtain⟨U3,Pb⟩:=Fn wt;have UN:mxL wt<2 ^ 61:=by
   have:=Br (m:=2 ^ 61 - 1) wt (by decide) fun x hx=>by
    have:=(hw x hx).2;omega
   omega
  refine⟨_,(ao (aR (i:=1) LU.nd rfl (.inl rfl) (c7 (ae ak ah)))
   (ao (y8 PassesOwn.never (dH op_le (ay jG (aL bq (pv 1) ak (fun _ _=>rfl)) (rH rfl T.k_BASE)) (Uc rfl T.n_max (ae (pv 0) ah)) (bY _)) (aA (fw (iF PySem.F.plainAttrs_list PySem.F.slot_list_insert PySem.F.type_list_insert Km (pv 1) (ae ak (ae (ay jG (aL bq (pv 1) ak (fun _ _=>rfl)) (rH rfl T.k_BASE)) ah))))))
   (aA (bM (pv 1))))),?_⟩
  refine⟨(by show 1<=sizeLine;decide),fun g ng=>?_⟩;have s1:ad H (upd H g (.lst [V.int 1])):=ad.new ng;have h1:upd H g (.lst [V.int 1]) g=some (.lst ((pw 0).map V.int)):=af;generalize upd H g (.lst [V.int 1])=H1 at s1 h1 ⊢;refine⟨fun m σ G=>∃ j:Nat,m=(2 ^ 62 - (16:Int) ^ j).toNat/\σ=[some (.ref l),some (.ref g)]/\ad H G/\G g=some (.lst ((pw j).map V.int))/\(∀ i,i<j->(16:Int) ^ i * 16<=mxL wt)/\(16:Int) ^ j<2 ^ 62/\j<=100,
   ⟨_,0,rfl,rfl,s1,h1,fun i hi=>absurd hi (Wj _),by decide,by decide⟩,?_⟩
  rintro m σ G ⟨j,rfl,rfl,sg,hg,all,Ut,j1⟩
  obtain⟨rr,er⟩:=RS j;have jp:=JA j;have at1:atI ((pw j).map V.int) 0=some (.int ((16:Int) ^ j)):=by rw[er];exact at0
  refine⟨_,rfl,g,_,_,_,rfl,rfl,SqL.of hg,at1,_,_,rfl,rfl,.inr ⟨by decide,by decide⟩,_,rfl,l,wt,rfl,sg.sqL hl,fun e0=>?_,fun mx hm ie=>?_⟩
  ·-- no weight at all
   subst e0;refine⟨_,_,rfl,rfl,_,rfl,cS (fun c=>?_) (fun c=>?_)⟩
   ·have:=VA c
    have UZ:(0:Int)<16 ^ j * 16:=by omega
    omega
   ·exact⟨_,rfl,k j g G sg ng hg ⟨all,VY c⟩ j1⟩
  ·have em:mx=mxL wt:=by
    have a1:=Pb mx hm;have a2:=Br wt (hw mx hm).1 ie;omega
   subst em;refine⟨_,_,rfl,rfl,_,rfl,cS (fun c=>?_) (fun c=>?_)⟩
   ·have c1:(16:Int) ^ j * 16<=mxL wt:=VA c
    have jl:j + 1<=100:=by
     rcases Wc j 100 with z|z
     ·exact z
     ·exfalso
      have e1:(16:Int) ^ 100<=16 ^ j:=by
       have h:=Xo (n:=16) (by decide) z
       exact_mod_cast h
      have e2:(2:Int) ^ 62<=16 ^ 100:=by decide +kernel
      omega
    have l1:=AY j;refine⟨_,fun σ' H' h=>h,?_⟩;refine⟨_,rfl,.inl ⟨rfl,_,SqL.of hg⟩,_,rfl,g,_,_,_,rfl,rfl,SqL.of hg,at1,_,_,rfl,rfl,.inr ⟨by decide,by decide⟩,g,_,0,_,rfl,rfl,hg,by omega,by omega,?_,?_⟩
    ·rw[Vd,l1,Vo]
     omega
    ·have e3:(16:Int) ^ (j + 1)<2 ^ 62:=by rw[rR];omega
     refine⟨(2 ^ 62 - (16:Int) ^ (j + 1)).toNat,by rw[rR] at e3 ⊢;omega,j + 1,rfl,rfl,bx ng sg,?_,fun i hi=>?_,e3,jl⟩
     ·rw[af]
      show some (HO.lst (V.int ((16:Int) ^ j * 16)::(pw j).map V.int))=some (HO.lst (V.int ((16:Int) ^ (j + 1))::(pw j).map V.int));rw[rR]
     ·rcases Wc i j with z|z
      ·exact all i z
      ·rw[show i=j by omega]
       exact c1
   ·exact⟨_,rfl,k j g G sg ng hg ⟨all,VY c⟩ j1⟩
end
end K64
namespace K64
open PySem L2
def pt1 (p:List Nat) (x:Wt):List Nat:=p.map fun y=>if y=p.getD x.2.1 0 then p.getD x.1 0 else y
def ptF (ws:List Wt) (c:Nat):List Nat:=ws.foldl pt1 (List.range c)
theorem Lh (p:List Nat) (x:Wt):(pt1 p x).length=p.length:=by
 unfold pt1;rw[Vd]
theorem AL:∀ (ws:List Wt) (p:List Nat),(ws.foldl pt1 p).length=p.length
 | [],_=>rfl
 | x::ws,p=>by
  show(ws.foldl pt1 (pt1 p x)).length=_;rw[AL ws,Lh]
theorem A8 {p:List Nat}{x:Wt}{i:Nat} (h:i<p.length):(pt1 p x).getD i 0=if p.getD i 0=p.getD x.2.1 0 then p.getD x.1 0 else p.getD i 0:=by
 unfold pt1;rw[Vf,Vp,Vg h];show(if p[i]=p.getD x.2.1 0 then p.getD x.1 0 else p[i])=_;have e:p.getD i 0=p[i]:=by rw[Vf,Vg h];rfl
 rw[e]
theorem Ko (c:Nat):∀ (ws:List Wt) (p:List Nat),p.length=c->(∀ x∈ws,x.1<c/\x.2.1<c)->(∀ i j,i<c->j<c->p.getD i 0=p.getD j 0->(ws.foldl pt1 p).getD i 0=(ws.foldl pt1 p).getD j 0)/\∀ x∈ws,(ws.foldl pt1 p).getD x.1 0=(ws.foldl pt1 p).getD x.2.1 0
 | [],p,_,_=>⟨fun i j _ _ h=>h,fun x hx=>by cases hx⟩
 | y::ws,p,hp,hin=>by
  have l1:=Lh p y;obtain⟨h1,h2⟩:=Ko c ws (pt1 p y) (by omega) fun x hx=>hin x (Vt _ hx)
  obtain⟨y1,y2⟩:=hin y Vz;have st:∀ i j,i<c->j<c->p.getD i 0=p.getD j 0->(pt1 p y).getD i 0=(pt1 p y).getD j 0:=fun i j hi hj e=>by
   rw[A8 (by omega),A8 (by omega),e]
  refine⟨fun i j hi hj e=>h1 i j hi hj (st i j hi hj e),fun x hx=>?_⟩;rcases VH.mp hx with z|z
  ·subst z
   refine h1 _ _ y1 y2 ?_;rw[A8 (by omega),A8 (by omega),if_pos (show p.getD x.2.1 0=p.getD x.2.1 0 from rfl)];split
   ·rfl
   ·rfl
  ·exact h2 x z
def ls1 (s:Kvs) (x:Int×Nat):Kvs:=aF s (Sum.inl ((x.2:Nat):Int)) (.int (min x.1 ((gI s x.2).getD x.1)))
def lsF (pl:List Int) (pt:List Nat):Kvs:=(pl.zip pt).foldl ls1 []
theorem LB {s:Kvs} (x:Int×Nat) (h:Wf s):Wf (ls1 s x)/\(ls1 s x).length<=s.length + 1/\gI (ls1 s x)=up (gI s) x.2 (some (min x.1 ((gI s x.2).getD x.1))):=⟨h.put _ _,qY _ _ _,iA _ _ _⟩
theorem FS:∀ (l:List (Int×Nat)){s:Kvs},Wf s->Wf (l.foldl ls1 s)/\(l.foldl ls1 s).length<=s.length + l.length
 | [],_,h=>⟨h,Vh _⟩
 | x::l,s,h=>by
  obtain⟨h1,h2,_⟩:=LB x h;obtain⟨h3,h4⟩:=FS l h1;refine⟨h3,VL h4 ?_⟩;rw[Vw];omega
def LsAt (l:List (Int×Nat)) (s:Kvs):Prop:=(∀ x∈l,∃ m,gI s x.2=some m/\m<=x.1)/\∀ v m,gI s v=some m->∃ x∈l,x.2=v/\x.1=m
theorem LI:∀ (l l0:List (Int×Nat)){s:Kvs},Wf s->LsAt l0 s->LsAt (l0++l) (l.foldl ls1 s)
 | [],l0,_,_,h=>by rw[WN];exact h
 | x::l,l0,s,wf,h=>by
  obtain⟨w1,_,w3⟩:=LB x wf;have e:l0++x::l=(l0++[x])++l:=by rw[WH];rfl
  rw[e];refine LI l (l0++[x]) w1 ⟨fun y hy=>?_,fun v m hv=>?_⟩
  ·rw[w3]
   by_cases c:y.2=x.2
   ·rw[c,aT]
    refine⟨_,rfl,?_⟩;rcases XW.mp hy with z|z
    ·obtain⟨m,e1,e2⟩:=h.1 y z
     rw[c] at e1;rw[e1];show min x.1 m<=y.1;omega
    ·rw[W7.mp z]
     omega
   ·rw[aG _ _ c]
    rcases XW.mp hy with z|z
    ·exact h.1 y z
    ·rw[W7.mp z] at c
     exact absurd rfl c
  ·rw[w3] at hv
   by_cases c:v=x.2
   ·rw[c,aT] at hv
    have hv:=Option.some.inj hv;cases eg:gI s x.2 with
    | none=>
     rw[eg] at hv;have hv:min x.1 x.1=m:=hv;exact⟨x,Vr _ (W7.mpr rfl),c.symm,by omega⟩
    | some b=>
     rw[eg] at hv;have hv:min x.1 b=m:=hv;by_cases c2:x.1<=b
     ·exact⟨x,Vr _ (W7.mpr rfl),c.symm,by omega⟩
     ·obtain⟨y,y1,y2,y3⟩:=h.2 x.2 b eg
      exact⟨y,VN _ y1,by rw[y2,c],by omega⟩
   ·rw[aG _ _ c] at hv
    obtain⟨y,y1,y2⟩:=h.2 v m hv;exact⟨y,VN _ y1,y2⟩
def frN (pl:List Int) (pt:List Nat):List Int:=(pl.zip pt).map fun x=>x.1 - (gI (lsF pl pt) x.2).getD 0
theorem Lm (pl:List Int) (pt:List Nat):LsAt (pl.zip pt) (lsF pl pt):=by
 have:=LI (pl.zip pt) [] (s:=[]) (fun p hp=>by cases hp) ⟨fun x hx=>(by cases hx),fun v m e=>by cases e⟩;rw[List.nil_append] at this;exact this
theorem TD {pl:List Int}{pt:List Nat} (h:pl.length=pt.length):(frN pl pt).length=pl.length:=by
 unfold frN;rw[Vd,Wm];omega
theorem Bp {pl:List Int}{pt:List Nat} (h:pl.length=pt.length){i:Nat} (hi:i<pl.length):fn (frN pl pt) i=fn pl i - (gI (lsF pl pt) (pt.getD i 0)).getD 0:=by
 unfold fn frN;have e1:pl[i]?=some pl[i]:=Vg hi;have e2:pt[i]?=some (pt[i]'(by omega)):=Vg (by omega);have e3:(pl.zip pt)[i]?=some (pl[i],pt[i]'(by omega)):=by
  rw[VQ];exact⟨e1,e2⟩
 rw[Vf,Vp,e3,Vf,Vf,e1,e2];rfl
theorem Tp {pl:List Int}{pt:List Nat} (h:pl.length=pt.length){i:Nat} (hi:i<pl.length):0<=fn (frN pl pt) i/\∃ j,j<pl.length/\pt.getD j 0=pt.getD i 0/\fn (frN pl pt) j=0:=by
 obtain⟨h1,h2⟩:=Lm pl pt;have mem:∀ k,k<pl.length->(fn pl k,pt.getD k 0)∈pl.zip pt:=fun k hk=>by
  refine Vj (i:=k) ?_;rw[VQ,Vg hk,Vg (show k<pt.length by omega)];unfold fn;rw[Vf,Vf,Vg hk,Vg (show k<pt.length by omega)];exact⟨rfl,rfl⟩
 obtain⟨m,e1,e2⟩:=h1 _ (mem i hi);have e1:gI (lsF pl pt) (pt.getD i 0)=some m:=e1;have e2:m<=fn pl i:=e2;rw[Bp h hi,e1];refine⟨by show 0<=fn pl i - m;omega,?_⟩;obtain⟨x,x1,x2,x3⟩:=h2 _ m e1;obtain⟨j,ej⟩:=List.mem_iff_getElem?.mp x1;rw[VQ] at ej;obtain⟨j1,j2⟩:=ej;have jl:j<pl.length:=(List.getElem?_eq_some_iff.mp j1).1;have k1:fn pl j=x.1:=by unfold fn;rw[Vf,j1];rfl
 have k2:pt.getD j 0=x.2:=by rw[Vf,j2];rfl
 refine⟨j,jl,by rw[k2,x2],?_⟩;rw[Bp h jl,k1,k2,x2,e1];show x.1 - m=0;omega
theorem Q4 {pl:List Int}{pt:List Nat} (h:pl.length=pt.length){i j:Nat} (hi:i<pl.length) (hj:j<pl.length) (e:pt.getD i 0=pt.getD j 0):fn (frN pl pt) j - fn (frN pl pt) i=fn pl j - fn pl i:=by
 rw[Bp h hi,Bp h hj,e];omega
theorem LO {p:List Nat}{i:Nat} (h:i<p.length):atI (aK p) (i:Int)=some (.int (p.getD i 0:Nat)):=by
 unfold aK;rw[jH (by omega),Vn,Vp,Vg h,Vf,Vg h];rfl
section
variable {P:Program}{w:World}{K:PySem.W.Frag}{mg:Str->Option Value}{base:Heap}{a:Adr}
def Ru (K:PySem.W.Frag):Sp:=fun vs H Q _=>∃ l ws,∃ c:Nat,vs=[.int c,.ref l]/\j7 K H l ((ws:List Wt).map wI)/\(∀ x∈ws,x.1<c/\x.2.1<c)/\c<=1000/\∀ g H',ad H H'->H g=none->H' g=some (.lst (aK (ptF ws c)))->Q (.ref g) H'
set_option maxHeartbeats 4000000 in
theorem TU (T:Tx K mg a):Cal P w K mg base CX0 1 "parts_of" ["count","wishes"] [] (Ru K):=T.d_parts_of.cal fun f fd F=>by
 refine F.ok rg (fun vs H Q E h=>?_) (fun aJ A outer s H vs Q E hr h=>?_)
 ·obtain⟨l,ws,c,rfl,_⟩:=h
  rfl
 ·obtain⟨l,ws,c,rfl,⟨xs,hl,hd⟩,hin,hc,k⟩:=h
  have bZ:ws.length=xs.length:=by rw[<- hd.length,Vd,Vd]
  rw[WL] at hd;refine⟨_,(ao (aR (i:=2) rg.nd rfl (by first|exact Or.inl rfl|exact Or.inr rfl) (PQ rfl T.n_list rfl T.n_range (ae (pv 0) ah)))
   (ao (c6 PassesOwn.never rfl (bU (pv 1)) (aB (i:=3) rg.nd rfl (by first|exact Or.inl rfl|exact Or.inr rfl)) (ao (aR (i:=4) rg.nd rfl (by first|exact Or.inl rfl|exact Or.inr rfl) (aL bq (pv 2) (aL eW (pv 3) ak (fun _ _=>rfl)) (fun _ _=>rfl)))
   (ao (aR (i:=5) rg.nd rfl (by first|exact Or.inl rfl|exact Or.inr rfl) (aL bq (pv 2) (aL eW (pv 3) ak (fun _ _=>rfl)) (fun _ _=>rfl)))
   (aA (rE (i:=2) rg.nd rfl rfl (N:=["part","new","old"]) (cap:=[none,some 5,some 4]) rfl (cF (osc:=aq qO) (XN:=["count","wishes","parts","wish","old","new"]) rfl rfl (by decide +kernel)) (bU (pv 2)) (fun cl C s H fp aa=>(aB (i:=0) (show(["part","new","old"]:List Str).Nodup by decide +kernel) rfl (by first|exact Or.inl rfl|exact Or.inr rfl))) (fun cl C s H fp aa=>cZ) (fun cl C s H fp aa=>(Gr (dH qW (pv 0) (pv 2) (bY _)) (pv 1) (pv 0))) (hsw:=rfl))))))
   (aA (bM (pv 2))))),?_⟩
  refine⟨_,rfl,c,rfl,by omega,fun g ng=>?_⟩;have s1:ad H (upd H g (.lst (rng c))):=ad.new ng;have h1:upd H g (.lst (rng c)) g=some (.lst (aK (List.range c))):=af;generalize upd H g (.lst (rng c))=H1 at s1 h1 ⊢;refine⟨_,rfl,l,rfl,⟨_,s1.sqL hl⟩,jC (K:=K) (a:=l) (xs:=xs) (fun i σ G=>∃ g v3 v4 v5,σ=[some (.int (c:Nat)),some (.ref l),some (.ref g),v3,v4,v5]/\ad H G/\H g=none/\G g=some (.lst (aK ((ws.take i).foldl pt1 (List.range c)))))
   ⟨g,none,none,none,rfl,s1,ng,h1⟩ ?_ ?_ ?_⟩
  ·rintro i σ G _ ⟨g,_,_,_,rfl,sg,_⟩
   exact sg.sqL hl
  ·rintro i x σ G hx ⟨g,v3,v4,v5,rfl,sg,ng,hG⟩
   obtain⟨w0,ip,dw⟩:=eX hd hx;obtain⟨t,rfl,ht⟩:=lv (sg.dt dw);obtain⟨i1,i2⟩:=hin w0 (Vj ip);have pl:=AL (ws.take i) (List.range c);rw[We] at pl;have fo:(ws.take (i + 1)).foldl pt1 (List.range c)=pt1 ((ws.take i).foldl pt1 (List.range c)) w0:=by rw[zam ip,Wd];rfl
   rw[fo];generalize (ws.take i).foldl pt1 (List.range c)=now at hG pl ⊢;dsimp only[bJ];refine⟨_,rfl,_,rfl,t,_,_,_,rfl,rfl,ht,rfl,g,_,_,_,rfl,rfl,SqL.of hG,LO (by omega),?_⟩;refine⟨_,rfl,_,rfl,t,_,_,_,rfl,rfl,ht,rfl,g,_,_,_,rfl,rfl,SqL.of hG,LO (by omega),?_⟩;refine⟨_,rfl,g,rfl,⟨_,SqL.of hG⟩,fun D hD=>?_⟩;refine eP (K:=K) (a:=g) (xs:=aK now) (fun j τ G'=>∃ v1,τ=[v1,some (.int (now.getD w0.1 0:Nat)),some (.int (now.getD w0.2.1 0:Nat))]/\ad G G'/\G' D=some (.lst (aK ((now.take j).map fun y=>if y=now.getD w0.2.1 0 then now.getD w0.1 0 else y)))) ⟨none,rfl,ad.new hD,af⟩ ?_ ?_ ?_
   ·rintro j τ G' _ ⟨v1,rfl,dQ,_⟩
    exact SqL.of (dQ _ _ hG)
   ·rintro j y τ G' hy ⟨v1,rfl,dQ,cU⟩
    obtain⟨n,hn,rfl⟩:=yY hy;dsimp only[bJ,c5];rw[if_pos rfl];have ln:(aK ((now.take j).map fun y=>if y=now.getD w0.2.1 0 then now.getD w0.1 0 else y)).length<sizeLine:=by
     unfold aK;rw[Vd,Vd,Vs,Vo];omega
    have Ih:∀ m:Nat,m=(if n=now.getD w0.2.1 0 then now.getD w0.1 0 else n)->aK ((now.take j).map fun y=>if y=now.getD w0.2.1 0 then now.getD w0.1 0 else y)++[V.int (m:Nat)]=aK ((now.take (j + 1)).map fun y=>if y=now.getD w0.2.1 0 then now.getD w0.1 0 else y):=fun m em=>by
     rw[zam hn,Vl,em];unfold aK;rw[Vl];rfl
    refine⟨_,rfl,_,rfl,rfl,_,rfl,?_⟩;refine cS (fun c1=>?_) (fun c1=>?_)
    ·have c2:n=now.getD w0.2.1 0:=by
      have:=VA c1;injection this with z
      exact Int.ofNat.inj z
     refine⟨_,rfl,_,cU,ln,_,rfl,bx hD dQ,?_⟩;rw[af,Ih _ (if_pos c2).symm]
    ·have c2:¬ n=now.getD w0.2.1 0:=fun z=>by
      have:=VY c1;exact this (by rw[<- z])
     refine⟨_,rfl,_,cU,ln,_,rfl,bx hD dQ,?_⟩;rw[af,Ih _ (if_neg c2).symm]
   ·rintro τ G' ⟨v1,rfl,dQ,cU⟩
    rw[VM (by unfold aK;rw[Vd];exact Vh _)] at cU;exact⟨D,_,_,_,rfl,sg.trans dQ,none_of sg hD,cU⟩
  ·rintro σ G ⟨g,v3,v4,v5,rfl,sg,ng,hG⟩
   rw[<- bZ,Vv] at hG;exact⟨_,rfl,k g G sg ng hG⟩
def RU (K:PySem.W.Frag):Sp:=fun vs H Q _=>∃ p t pl pt,vs=[.ref p,.ref t]/\SqL K H p ((pl:List Int).map V.int)/\SqL K H t (aK pt)/\pl.length=pt.length/\pl.length<=1000/\∀ g H',ad H H'->H g=none->H' g=some (.lst ((frN pl pt).map V.int))->Q (.ref g) H'
set_option maxHeartbeats 4000000 in
theorem SB (T:Tx K mg a):Cal P w K mg base CX0 1 "from_nought" ["places","parts"] [] (RU K):=T.d_from_nought.cal fun f fd F=>by
 refine F.ok A5 (fun vs H Q E h=>?_) (fun aJ A outer s H vs Q E hr h=>?_)
 ·obtain⟨p,t,pl,pt,rfl,_⟩:=h
  rfl
 ·obtain⟨p,t,pl,pt,rfl,hp,ht,hl,hk,k⟩:=h
  have ex:(pl.map V.int).length=(aK pt).length:=by unfold aK;rw[Vd,Vd,hl]
  have lz:(pl.zip pt).length=pl.length:=by rw[Wm];omega
  have mi:∀ i x y,(pl.map V.int)[i]?=some x->(aK pt)[i]?=some y->∃ (u:Int) (v:Nat),x=V.int u/\y=V.int (v:Nat)/\(pl.zip pt)[i]?=some (u,v):=fun i x y h1 h2=>by
   obtain⟨u,hu,rfl⟩:=j4 h1;obtain⟨v,hv,rfl⟩:=yY h2;exact⟨u,v,rfl,rfl,by rw[VQ];exact⟨hu,hv⟩⟩
  refine⟨_,(ao (aR (i:=2) A5.nd rfl (by first|exact Or.inl rfl|exact Or.inr rfl) qh)
   (ao (c6 PassesOwn.never rfl (zR rfl T.n_zip (ae (pv 0) (ae (pv 1) ah))) (fE rfl (aU (aB (i:=3) A5.nd rfl (by first|exact Or.inl rfl|exact Or.inr rfl)) (aU (aB (i:=4) A5.nd rfl (by first|exact Or.inl rfl|exact Or.inr rfl)) cM))) (aA (j6 (bu hr) (pv 2) (pv 4) (cC Qy rfl T.n_min Gk (ae (pv 3) (ae (QB (bu hr) (pv 2) (pv 4) (pv 3) ⟨rfl,rfl,rfl,rfl⟩) ah))) rfl)))
   (aA (bM (d7 (N:=["place","part","least"]) (cap:=[none,none,some 2]) rfl (cF (osc:=aq rP) (XN:=["places","parts","least","place","part"]) rfl rfl (by decide +kernel)) (zR rfl T.n_zip (ae (pv 0) (ae (pv 1) ah))) (fun cl C s H fp aa=>(ld (K:=K) (n:=2) rfl rfl (aU (aB (i:=0) (show(["place","part","least"]:List Str).Nodup by decide +kernel) rfl (by first|exact Or.inl rfl|exact Or.inr rfl)) (aU (aB (i:=1) (show(["place","part","least"]:List Str).Nodup by decide +kernel) rfl (by first|exact Or.inl rfl|exact Or.inr rfl)) cM)))) (fun cl C s H fp aa=>cZ) (fun cl C s H fp aa=>(ay iE (pv 0) (cL (bu hr) (pv 2) (pv 1) (fun _ _=>rfl))))))))),?_⟩
  refine fun d nd=>?_
  have s1:ad H (upd H d (.dK [])):=ad.new nd;have h1:upd H d (.dK []) d=some (.dK []):=af;generalize upd H d (.dK [])=H1 at s1 h1 ⊢;have II:Wf ([]:Kvs):=fun p hp=>by cases hp
  refine⟨_,rfl,_,rfl,p,t,rfl,⟨_,s1.sqL hp⟩,⟨_,s1.sqL ht⟩,Ks (K:=K) (l1:=p) (l2:=t) (xs:=pl.map V.int) (ys:=aK pt) ex (fun i σ G=>∃ v3 v4,σ=[some (.ref p),some (.ref t),some (.ref d),v3,v4]/\ad H G/\G d=some (.dK (((pl.zip pt).take i).foldl ls1 [])))
   ⟨none,none,rfl,s1,h1⟩ ?_ ?_ ?_⟩
  ·rintro i σ G _ ⟨_,_,rfl,sg,_⟩
   exact⟨sg.sqL hp,sg.sqL ht⟩
  ·rintro i x y tt σ G hx hy nt ⟨v3,v4,rfl,sg,hG⟩
   obtain⟨u,v,rfl,rfl,hz⟩:=mi i x y hx hy;have s3:ad G (upd G tt (.tup [.int u,.int (v:Nat)])):=ad.new nt;have h3:upd G tt (.tup [.int u,.int (v:Nat)]) tt=some (.tup [.int u,.int (v:Nat)]):=af;generalize upd G tt (.tup [.int u,.int (v:Nat)])=G3 at s3 h3 ⊢;have gE:=s3 _ _ hG;obtain⟨o1,o2⟩:=FS ((pl.zip pt).take i) II;have lt:=Yd i (pl.zip pt);have l2:(((pl.zip pt).take i).foldl ls1 []).length<=1000:=by
    have:=Vs (i:=i) (l:=pl.zip pt);have z:([]:Kvs).length=0:=rfl;omega
   have fo:((pl.zip pt).take (i + 1)).foldl ls1 []=ls1 (((pl.zip pt).take i).foldl ls1 []) (u,v):=by rw[zam hz,Wd];rfl
   rw[fo];generalize ((pl.zip pt).take i).foldl ls1 []=now at gE o1 l2 ⊢;refine⟨tt,_,rfl,SqT.of h3,rfl,_,_,rfl,_,_,rfl,rfl,?_⟩;have gd:=o1.dget (v:=v) gE;refine⟨_,rfl,_,rfl,d,rfl,.inl ⟨now,.inl gE⟩,_,rfl,_,rfl,_,gd,u,(gI now v).getD u,?_,_,rfl,_,rfl,d,_,rfl,.inl ⟨now,Sum.inl ((v:Nat):Int),gE,rfl,by rw[Vo];omega,rfl⟩,_,_,rfl,bx nd (sg.trans s3),?_⟩
   ·cases gI now v <;> rfl
   ·rw[af]
    unfold ls1;have e:(if (gI now v).getD u<u then(gI now v).getD u else u)=min u ((gI now v).getD u):=by
     by_cases c1:(gI now v).getD u<u
     ·rw[if_pos c1]
      omega
     ·rw[if_neg c1]
      omega
    rw[e]
  ·rintro σ G ⟨v3,v4,rfl,sg,hG⟩
   have ez:(pl.map V.int).length=(pl.zip pt).length:=by rw[lz,Vd]
   rw[ez,Vv] at hG;have hG:G d=some (.dK (lsF pl pt)):=hG;have wf:Wf (lsF pl pt):=(FS (pl.zip pt) II).1;obtain⟨at1,_⟩:=Lm pl pt;refine⟨_,rfl,_,rfl,p,t,rfl,⟨_,sg.sqL hp⟩,⟨_,sg.sqL ht⟩,fun D hD=>?_⟩;refine K7 (K:=K) (l1:=p) (l2:=t) (xs:=pl.map V.int) (ys:=aK pt) ex (fun i τ G'=>∃ v1 v2,τ=[v1,v2,some (.ref d)]/\ad G G'/\G' D=some (.lst ((((pl.zip pt).take i).map fun x=>x.1 - (gI (lsF pl pt) x.2).getD 0).map V.int))) ⟨none,none,rfl,ad.new hD,af⟩ ?_ ?_ ?_
   ·rintro i τ G' _ ⟨_,_,rfl,dQ,_⟩
    exact⟨dQ.sqL (sg.sqL hp),dQ.sqL (sg.sqL ht)⟩
   ·rintro i x y tt τ G' hx hy nt ⟨v1,v2,rfl,dQ,cU⟩
    obtain⟨u,v,rfl,rfl,hz⟩:=mi i x y hx hy;have s3:ad G' (upd G' tt (.tup [.int u,.int (v:Nat)])):=ad.new nt;have h3:upd G' tt (.tup [.int u,.int (v:Nat)]) tt=some (.tup [.int u,.int (v:Nat)]):=af;generalize upd G' tt (.tup [.int u,.int (v:Nat)])=G3 at s3 h3 ⊢;obtain⟨m,em,_⟩:=at1 _ (Vj hz);have em:gI (lsF pl pt) v=some m:=em;have gd:=wf.dget (v:=v) (s3 _ _ (dQ _ _ hG));rw[em] at gd;refine⟨tt,_,rfl,SqT.of h3,rfl,_,_,rfl,_,_,rfl,rfl,?_⟩;dsimp only[c5];rw[if_pos rfl];refine⟨_,rfl,_,rfl,_,rfl,d,_,rfl,gd,_,_,rfl,rfl,_,s3 _ _ cU,?_,_,_,rfl,bx hD (dQ.trans s3),?_⟩
    ·rw[Vd,Vd,Vs,Vo]
     omega
    ·rw[af,zam hz,Vl,Vl]
     show _=some (HO.lst (_++[V.int (u - (gI (lsF pl pt) v).getD 0)]));rw[em];rfl
   ·rintro τ G' ⟨v1,v2,rfl,dQ,cU⟩
    rw[ez,Vv] at cU;exact k D G' (sg.trans dQ) (none_of sg hD) cU
end
end K64
namespace K64
open PySem L2
theorem pz_fn (l:List Int) (k:Nat):pz l (k:Int)=fn l k:=by
 unfold pz fn;rw[Vn]
theorem Kc {ws:List Wt}{c:Nat}{am:List Int} (hin:∀ x∈ws,x.1<c/\x.2.1<c) (hl:am.length=ws.length) (v:Nat):∀ i,i<=ws.length->fn ((((ws.map wI).zip am).take i).foldl fH (List.replicate c 0)) v=sm (fun n=>(if (wn ws c).ot n=v then fn am n else 0) - (if (wn ws c).on n=v then fn am n else 0)) i
 | 0,_=>by
  show fn (List.replicate c 0) v=0;rw[AU]
 | i + 1,hi=>by
  have ih:=Kc hin hl v i (by omega);have e1:ws[i]?=some (ws.getD i (0,0,0,0)):=by rw[Vf,Vg (show i<ws.length by omega)];rfl
  have e2:am[i]?=some (fn am i):=by unfold fn;rw[Vf,Vg (show i<am.length by omega)];rfl
  have e3:((ws.map wI).zip am)[i]?=some (wI (ws.getD i (0,0,0,0)),fn am i):=by
   rw[VQ,Vp,e1];exact⟨rfl,e2⟩
  obtain⟨i1,i2⟩:=hin _ (Vj e1);have ln:((((ws.map wI).zip am).take i).foldl fH (List.replicate c 0)).length=c:=by rw[Bs,VS]
  rw[zam e3,Wd];show fn (fH ((((ws.map wI).zip am).take i).foldl fH (List.replicate c 0)) (wI (ws.getD i (0,0,0,0)),fn am i)) v=sm _ i + ((if (ws.getD i (0,0,0,0)).2.1=v then fn am i else 0) - (if (ws.getD i (0,0,0,0)).1=v then fn am i else 0));rw[<- ih];generalize (((ws.map wI).zip am).take i).foldl fH (List.replicate c 0)=ls at ln ⊢;generalize ws.getD i (0,0,0,0)=x at i1 i2 ⊢;have es:fH ls (wI x,fn am i)=(ls.set x.2.1 (fn ls x.2.1 + fn am i)).set x.1 (fn (ls.set x.2.1 (fn ls x.2.1 + fn am i)) x.1 - fn am i):=by
   unfold fH;show(ls.set ((x.2.1:Nat):Int).toNat (pz ls ((x.2.1:Nat):Int) + fn am i)).set ((x.1:Nat):Int).toNat (pz (ls.set ((x.2.1:Nat):Int).toNat (pz ls ((x.2.1:Nat):Int) + fn am i)) ((x.1:Nat):Int) - fn am i)=_;rw[Vn,Vn,pz_fn,pz_fn]
  rw[es,m4 (by rw[VV];omega),m4 (by omega)];by_cases c1:v=x.1
  ·subst c1
   rw[aT,if_pos rfl];by_cases c2:x.1=x.2.1
   ·rw[if_pos c2.symm,c2,aT]
    omega
   ·rw[if_neg (Ne.symm c2),aG _ _ c2]
    omega
  ·rw[aG _ _ c1,if_neg (Ne.symm c1)]
   by_cases c2:v=x.2.1
   ·subst c2
    rw[if_pos rfl,aT];omega
   ·rw[if_neg (Ne.symm c2),aG _ _ c2]
    omega
theorem FA {ws:List Wt}{c:Nat}{am:List Int} (hin:∀ x∈ws,x.1<c/\x.2.1<c) (hl:am.length=ws.length) (v:Nat):fn (cv c (ws.map wI) am) v=bal (wn ws c) (fn am) v:=by
 have h:=Kc hin hl v ws.length (Vh _);rw[VM (by rw[Wm,Vd];omega)] at h;exact h
theorem Bh {ws:List Wt}{c:Nat} (hin:∀ x∈ws,x.1<c/\x.2.1<c):(wn ws c).Ok:=by
 have g:∀ n,n<ws.length->ws.getD n (0,0,0,0)∈ws:=fun n hn=>by
  rw[Vf,Vg hn];exact WI hn
 exact⟨fun n hn=>(hin _ (g n hn)).1,fun n hn=>(hin _ (g n hn)).2⟩
inductive Run (ws:List Wt) (c:Nat):S3->S3->Prop
 | stop (s:S3) (h:∀ v,v<c->¬ 0<fn s.2.2 v):Run ws c s s
 | step (s s' t:S3) (h:∃ v,v<c/\0<fn s.2.2 v) (e:Snd ws c s s') (r:Run ws c s' t):Run ws c s t
def wts (ws:List Wt):List Int:=(ws.map wI).map fun q=>q.2.2.2
def iy (ws:List Wt) (W:Int):List Int:=(wts ws).map fun y=>y / W % 16
def figS (ws:List Wt) (c:Nat) (W:Int) (s:List Int×List Int):S3:=(s.1,s.2.map fun x=>x * 16,cv c (ws.map wI) (iy ws W))
inductive j8 (ws:List Wt) (c:Nat):List Int->List Int×List Int->List Int×List Int->Prop
 | nil (s:List Int×List Int):j8 ws c [] s s
 | cons (W:Int) (r:List Int) (s:List Int×List Int) (t:S3) (u:List Int×List Int) (h:Run ws c (figS ws c W s) t) (e:j8 ws c r (t.1,t.2.1) u):j8 ws c (W::r) s u
def Told (ws:List Wt) (c:Nat) (gY:List Int×List Int):Prop:=∃ m P fl,FigOk (mxL (wts ws)) m/\j8 ws c (pw m) (m8 ws c,List.replicate ws.length 0) (P,fl)/\gY=(frN P (ptF ws c),fl)
structure m9 (ws:List Wt) (c:Nat) (pl fl:List Int):Prop where
 lp:pl.length=c
 lf:fl.length=ws.length
 ti:Ti (wn ws c) (fn pl) (fn fl)
 bl:∀ v,v<c->bal (wn ws c) (fn fl) v=bal (wn ws c) (wtF ws) v
 ls:∀ i,i<c->0<=fn pl i/\∃ j,j<c/\(ptF ws c).getD j 0=(ptF ws c).getD i 0/\fn pl j=0
theorem jY.none {N:Wn}{ring:List Nat} (h:jY N ring){P:Nat->Int} (fit:∀ n,n<N.m->0<=slk N P n):False:=by
 have pos:=h.pos;obtain⟨P0,t,pu,p,k,fi,hp,all,rfl,back,ne⟩:=h.told;have key:∀ j,((rgL N pu p j).map N.le).sum<=P p - P (itr (bk N pu) j p):=fun j=>by
  induction j with
  | zero=>
   show(0:Int)<=P p - P p;omega
  | succ j ih=>
   show N.le (cn pu (itr (bk N pu) j p)) + ((rgL N pu p j).map N.le).sum<=_;obtain⟨m1,ot,_⟩:=fi.a _ _ (iw (all j));have on:itr (bk N pu) (j + 1) p=N.on (cn pu (itr (bk N pu) j p)):=Gb (all j);have s:=fit _ m1;unfold slk at s;rw[ot] at s;rw[on];omega
 have z:=key (k + 1);rw[back] at z;omega
theorem FK:∀ m i,i<=m->(pw m)[i]?=some ((16:Int) ^ (m - i))
 | 0,i,h=>by
  obtain rfl:i=0:=by omega
  rfl
 | m + 1,0,_=>rfl
 | m + 1,i + 1,h=>by
  show(pw m)[i]?=_;rw[FK m i (by omega),show m + 1 - (i + 1)=m - i by omega]
theorem Q9 (m i:Nat) (h:i<=m):(pw m).drop i=(16:Int) ^ (m - i)::(pw m).drop (i + 1):=by
 have l:=AY m;rw[List.drop_eq_getElem_cons (by omega)];have e:=FK m i h;rw[Vg (by omega)] at e;rw[Option.some.inj e]
theorem La {f:Int->Int} (h:f 0=0) (l:List Int) (n:Nat):fn (l.map f) n=f (fn l n):=by
 unfold fn;rw[Vf,Vf,Vp];cases l[n]? with
 | none=>exact h.symm
 | some x=>rfl
theorem nj (ws:List Wt) (n:Nat):fn (wts ws) n=wtF ws n:=by
 unfold fn wts wtF;rw[Vf,Vf,Vp,Vp];cases ws[n]? with
 | none=>rfl
 | some x=>rfl
theorem pD (ws:List Wt):(wts ws).length=ws.length:=by
 unfold wts;rw[Vd,Vd]
theorem J2 (ws:List Wt) (W:Int):(iy ws W).length=ws.length:=by
 unfold iy;rw[Vd,pD]
theorem Sq (ws:List Wt) (W:Int) (n:Nat):fn (iy ws W) n=wtF ws n / W % 16:=by
 unfold iy;rw[La (by rw[Int.zero_ediv];rfl),nj]
theorem pJ {N:Wn}{f g:Nat->Int} (h:∀ n,n<N.m->f n=g n) (v:Nat):bal N f v=bal N g v:=by
 unfold bal;exact cT _ fun n hn=>by rw[h n hn]
theorem R7 {ws:List Wt}{c:Nat}{W:Int}{fl:List Int}{P:Nat->Int} (hW:0<W) (hin:∀ x∈ws,x.1<c/\x.2.1<c) (ti:Ti (wn ws c) P (fn fl)) (hb:∀ v,v<c->bal (wn ws c) (fn fl) v=bal (wn ws c) (fun n=>wtF ws n / (W * 16)) v) :
  Ti (wn ws c) P (fn (fl.map fun x=>x * 16))/\∀ v,v<c->fn (cv c (ws.map wI) (iy ws W)) v=bal (wn ws c) (fun n=>wtF ws n / W) v - bal (wn ws c) (fn (fl.map fun x=>x * 16)) v:=by
 have BM:∀ n,fn (fl.map fun x=>x * 16) n=16 * fn fl n + 0:=fun n=>by
  rw[La (by rfl)];omega
 refine⟨⟨ti.s,fun n hn=>?_,fun n hn f=>?_⟩,fun v hv=>?_⟩
 ·have:=ti.f n hn
  rw[BM];omega
 ·rw[BM] at f
  exact ti.t n hn (by omega)
 ·rw[FA hin (J2 ws W)]
  have b1:bal (wn ws c) (fn (fl.map fun x=>x * 16)) v=16 * bal (wn ws c) (fn fl) v:=by
   rw[pJ (fun n _=>BM n) v,LA,TQ];omega
  have b2:bal (wn ws c) (fun n=>wtF ws n / W) v=16 * bal (wn ws c) (fun n=>wtF ws n / (W * 16)) v + bal (wn ws c) (fn (iy ws W)) v:=by
   rw[<- LA];refine pJ (fun n _=>?_) v;show wtF ws n / W=16 * (wtF ws n / (W * 16)) + fn (iy ws W) n;rw[Sq,<- Int.ediv_ediv_of_nonneg (Xq hW)];omega
  rw[b1,b2,hb v hv];omega
theorem P1 {ws:List Wt}{c:Nat}{eG:Nat->Int}{fl nd:Nat->Int} (ok:(wn ws c).Ok) (hnd:∀ v,v<c->nd v=bal (wn ws c) eG v - bal (wn ws c) fl v) (h:∀ v,v<c->¬ 0<nd v):∀ v,v<c->bal (wn ws c) fl v=bal (wn ws c) eG v:=fun v hv=>by
 have z:=SS (N:=wn ws c) (KU ok hnd) (fun p hp=>by
  have:=h p hp;omega) v hv
 have:=hnd v hv;omega
theorem Q3 {ws:List Wt}{c:Nat}{P fl:List Int} (hin:∀ x∈ws,x.1<c/\x.2.1<c) (hp:P.length=c) (hf:fl.length=ws.length) (ti:Ti (wn ws c) (fn P) (fn fl)) (hb:∀ v,v<c->bal (wn ws c) (fn fl) v=bal (wn ws c) (wtF ws) v):m9 ws c (frN P (ptF ws c)) fl:=by
 have pl:(ptF ws c).length=c:=by
  unfold ptF;rw[AL,We]
 have hl:P.length=(ptF ws c).length:=by omega
 have g:∀ n,n<ws.length->ws.getD n (0,0,0,0)∈ws:=fun n hn=>by
  rw[Vf,Vg hn];exact WI hn
 have sl:∀ n,n<ws.length->slk (wn ws c) (fn (frN P (ptF ws c))) n=slk (wn ws c) (fn P) n:=fun n hn=>by
  obtain⟨i1,i2⟩:=hin _ (g n hn);have e:=(Ko c ws (List.range c) We hin).2 _ (g n hn);have:=Q4 (i:=(ws.getD n (0,0,0,0)).1) (j:=(ws.getD n (0,0,0,0)).2.1) hl (by omega) (by omega) e;show fn (frN P (ptF ws c)) (ws.getD n (0,0,0,0)).2.1 - fn (frN P (ptF ws c)) (ws.getD n (0,0,0,0)).1 - _=fn P (ws.getD n (0,0,0,0)).2.1 - fn P (ws.getD n (0,0,0,0)).1 - _;omega
 refine⟨(TD hl).trans hp,hf,⟨fun n hn=>by rw[sl n hn];exact ti.s n hn,ti.f,fun n hn f=>by rw[sl n hn];exact ti.t n hn f⟩,hb,fun i hi=>?_⟩;have:=Tp hl (i:=i) (by omega);rw[hp] at this;exact this
end K64
namespace K64
open PySem L2
theorem R9 {r:LR}{d:Addr}:bw "flow" (.ref d) (bN r)=bN { r with f:=d }:=by
 have h1:¬ (("ones":Str)="flow"):=by decide +kernel
 have h2:¬ (("others":Str)="flow"):=by decide +kernel
 have h3:¬ (("leasts":Str)="flow"):=by decide +kernel
 have h4:¬ (("places":Str)="flow"):=by decide +kernel
 simp only[bN,bw,h1,h2,h3,h4,if_false,if_true]
theorem Rs {r:LR}{d:Addr}:bw "needs" (.ref d) (bN r)=bN { r with n:=d }:=by
 have h1:¬ (("ones":Str)="needs"):=by decide +kernel
 have h2:¬ (("others":Str)="needs"):=by decide +kernel
 have h3:¬ (("leasts":Str)="needs"):=by decide +kernel
 have h4:¬ (("places":Str)="needs"):=by decide +kernel
 have h5:¬ (("flow":Str)="needs"):=by decide +kernel
 simp only[bN,bw,h1,h2,h3,h4,h5,if_false,if_true]
theorem bH.reF {C:Addr}{G G1:Hp}{q d dx:Addr}{r:LR}{ws:List Wt}{cnt:Nat}{o1 o2:HO} (h:bH C G q r ws cnt) (s:ad G G1) (nd:G d=none) (hp:G r.p=some o1) (hn:G r.n=some o2) (cf:∃ x,o1=.lst x) (bQ:∃ x,o2=.lst x):bH C (upd G1 q (.ins C dx (bN { r with f:=d }))) q { r with f:=d } ws cnt:=by
 have kp:∀ a xs,G a=some (.lst xs)->upd G1 q (.ins C dx (bN { r with f:=d })) a=some (.lst xs):=fun a xs e=>by
  obtain⟨dy,ey⟩:=h.ex;rw[aj (pS e ey (by intro z;cases z))];exact s _ _ e
 have nq:∀ a xs,G a=some (.lst xs)->Nq r a->Nq { r with f:=d } a:=fun a xs e n=>⟨n.1,ap e nd,n.2.2⟩
 obtain⟨dy,ey⟩:=h.ex;obtain⟨gs,g1,g2,g3⟩:=h.hg;obtain⟨cs,c1,c2,c3⟩:=h.hc;exact⟨⟨dx,af⟩,kp _ _ h.ho,kp _ _ h.ht,kp _ _ h.hl,⟨gs,kp _ _ g1,g2,fun i a e=>⟨kp _ _ (g3 i a e).1,nq _ _ (g3 i a e).1 (g3 i a e).2⟩⟩,⟨cs,kp _ _ c1,c2,fun i a e=>⟨kp _ _ (c3 i a e).1,nq _ _ (c3 i a e).1 (c3 i a e).2⟩⟩,
  nq _ _ h.ho h.no,nq _ _ h.ht h.nt,nq _ _ h.hl h.nl,nq _ _ g1 h.ng,nq _ _ c1 h.nc,⟨h.nq.1,ap ey nd,h.nq.2.2⟩,ap hp nd,h.pn,Ne.symm (ap hn nd)⟩
theorem bH.reN {C:Addr}{G G1:Hp}{q d dx:Addr}{r:LR}{ws:List Wt}{cnt:Nat}{o1 o2:HO} (h:bH C G q r ws cnt) (s:ad G G1) (nd:G d=none) (hp:G r.p=some o1) (hf:G r.f=some o2) (cf:∃ x,o1=.lst x) (bQ:∃ x,o2=.lst x):bH C (upd G1 q (.ins C dx (bN { r with n:=d }))) q { r with n:=d } ws cnt:=by
 have kp:∀ a xs,G a=some (.lst xs)->upd G1 q (.ins C dx (bN { r with n:=d })) a=some (.lst xs):=fun a xs e=>by
  obtain⟨dy,ey⟩:=h.ex;rw[aj (pS e ey (by intro z;cases z))];exact s _ _ e
 have nq:∀ a xs,G a=some (.lst xs)->Nq r a->Nq { r with n:=d } a:=fun a xs e n=>⟨n.1,n.2.1,ap e nd⟩
 obtain⟨dy,ey⟩:=h.ex;obtain⟨gs,g1,g2,g3⟩:=h.hg;obtain⟨cs,c1,c2,c3⟩:=h.hc;exact⟨⟨dx,af⟩,kp _ _ h.ho,kp _ _ h.ht,kp _ _ h.hl,⟨gs,kp _ _ g1,g2,fun i a e=>⟨kp _ _ (g3 i a e).1,nq _ _ (g3 i a e).1 (g3 i a e).2⟩⟩,⟨cs,kp _ _ c1,c2,fun i a e=>⟨kp _ _ (c3 i a e).1,nq _ _ (c3 i a e).1 (c3 i a e).2⟩⟩,
  nq _ _ h.ho h.no,nq _ _ h.ht h.nt,nq _ _ h.hl h.nl,nq _ _ g1 h.ng,nq _ _ c1 h.nc,⟨h.nq.1,h.nq.2.1,ap ey nd⟩,h.pf,ap hp nd,ap hf nd⟩
structure Lp (C:Addr) (HB:Hp) (q:Addr) (r0 r:LR) (ws:List Wt) (c:Nat) (G:Hp) (P fl:List Int):Prop where
 lay:bH C G q r ws c
 kx:Kx [q,r0.p,r0.f,r0.n] HB G
 ep:r.p=r0.p
 ef:∀ b o,HB b=some o->b∉[q,r0.p,r0.f,r0.n]->b≠r.f
 en:∀ b o,HB b=some o->b∉[q,r0.p,r0.f,r0.n]->b≠r.n
 hp:G r.p=some (.lst (P.map V.int))
 hf:G r.f=some (.lst (fl.map V.int))
 hn:∃ nd,G r.n=some (.lst nd)
 lp:P.length=c
 lf:fl.length=ws.length
 ti:Ti (wn ws c) (fn P) (fn fl)
theorem wI_inR {ws:List Wt}{c:Nat} (hin:∀ x∈ws,x.1<c/\x.2.1<c):∀ q∈ws.map wI,InR c q:=fun q hq=>by
 obtain⟨x,hx,rfl⟩:=List.mem_map.mp hq;obtain⟨i1,i2⟩:=hin x hx;exact⟨⟨by show(0:Int)<=(x.1:Nat);omega,by show((x.1:Nat):Int)<c;omega⟩,by show(0:Int)<=(x.2.1:Nat);omega,by show((x.2.1:Nat):Int)<c;omega⟩
section
variable {P:Program}{w:World}{K:PySem.W.Frag}{mg:Str->Option Value}{base:Heap}{a:Adr}
def spLaid (K:PySem.W.Frag) (t:Adr):Sp:=fun vs H Q E=>∃ l ws,∃ c:Nat,vs=[.int c,.ref l]/\j7 K H l ((ws:List Wt).map wI)/\(∀ x∈ws,x.1<c/\x.2.1<c)/\(∀ x∈ws,0<=x.2.2.2/\x.2.2.2<2 ^ 61)/\ws.length<=200/\c<=200/\H t.tb_search=some (.tbl p7 pK) /\
 (∀ pl fl g pA fA H',ad H H'->H g=none->H' g=some (.tup [.ref pA,.ref fA])->H pA=none->H fA=none->pA≠fA->H' pA=some (.lst ((pl:List Int).map V.int))->H' fA=some (.lst ((fl:List Int).map V.int))->Told ws c (pl,fl)->m9 ws c pl fl->Q (.ref g) H') /\
 ∀ ring lr dx H',ad H H'->H' dx=some (.xd [("ring",.ref lr)])->H' lr=some (.lst (aK ring))->jY (wn ws c) ring->ring.length<=c + 1->E (.ref t.Ring) (some dx) H'
set_option maxHeartbeats 8000000 in
theorem PY (T:Tx K mg a):Cal P w K mg base (CXe P w) 6 "laid" ["count","wishes"] [] (spLaid K a):=T.d_laid.cal fun f fd F=>by
 have i_Layout:=S6 (P:=P) (w:=w) (base:=base) T;have uE:=ok_fit (P:=P) (w:=w) (base:=base) T;have bj:=Kt (P:=P) (w:=w) (base:=base) T;have cB:=Qt (P:=P) (w:=w) (base:=base) T;have aD:=KA (P:=P) (w:=w) (base:=base) T;have eB:=RW (P:=P) (w:=w) (base:=base) T;have dh:=SB (P:=P) (w:=w) (base:=base) T;have fU:=TU (P:=P) (w:=w) (base:=base) T;refine F.okX AX (fun vs H Q E h=>?_) (fun aJ A outer s H vs Q E hr h=>?_)
 ·obtain⟨l,ws,c,rfl,_⟩:=h
  rfl
 ·obtain⟨l,ws,c,rfl,Aj,hin,mw,hw,hc,iV,k1,k2⟩:=h
  have ok:=Bh hin;refine⟨_,(ao (aR (i:=2) AX.nd rfl (by first|exact Or.inl rfl|exact Or.inr rfl) (S9 i_Layout (hr.mono (by decide)) rfl (ae (pv 0) (ae (pv 1) ah))))
   (ao (fw (pV uE pT (hr.mono (by decide)) rfl (ae (pv 2) ah)))
   (ao (aR (i:=3) AX.nd rfl (by first|exact Or.inl rfl|exact Or.inr rfl) (aZ bj (hr.mono (by decide)) rfl (ae (pv 1) ah)))
   (ao (c6 PassesOwn.leaving rfl (bU (aZ cB (hr.mono (by decide)) rfl (ae (pv 3) ah))) (aB (i:=4) AX.nd rfl (by first|exact Or.inl rfl|exact Or.inr rfl)) (ao (jX (pv 2) (d7 (N:=["amount"]) (cap:=[none]) rfl (cF (osc:=aq nH) (XN:=["count","wishes","layout","weights","worth"]) rfl rfl (by decide +kernel)) (bU (bI (pv 2) rfl)) (fun cl C s H fp aa=>(aB (i:=0) (show(["amount"]:List Str).Nodup by decide +kernel) rfl (by first|exact Or.inl rfl|exact Or.inr rfl))) (fun cl C s H fp aa=>cZ) (fun cl C s H fp aa=>(ay jG (pv 0) (rH rfl T.k_BASE)))) rfl)
   (ao (jX (pv 2) (aZ aD (hr.mono (by decide)) rfl (ae (pv 0) (ae (pv 1) (ae (d7 (N:=["weight","worth"]) (cap:=[none,some 4]) rfl (cF (osc:=aq nH) (XN:=["count","wishes","layout","weights","worth"]) rfl rfl (by decide +kernel)) (bU (pv 3)) (fun cl C s H fp aa=>(aB (i:=0) (show(["weight","worth"]:List Str).Nodup by decide +kernel) rfl (by first|exact Or.inl rfl|exact Or.inr rfl))) (fun cl C s H fp aa=>cZ) (fun cl C s H fp aa=>(ay cE (ay RH (pv 0) (pv 1)) (rH rfl T.k_BASE)))) ah)))) rfl)
   (aA (y8 PassesOwn.leaving (zr (cC JX rfl T.n_any LW (ae (d7 (N:=["need"]) (cap:=[none]) rfl (cF (osc:=aq nH) (XN:=["count","wishes","layout","weights","worth"]) rfl rfl (by decide +kernel)) (bU (bI (pv 2) rfl)) (fun cl C s H fp aa=>(aB (i:=0) (show(["need"]:List Str).Nodup by decide +kernel) rfl (by first|exact Or.inl rfl|exact Or.inr rfl))) (fun cl C s H fp aa=>cZ) (fun cl C s H fp aa=>(qk mY (pv 0) ak (bY _)))) ah))) (aA (fw (aZ eB (hr.mono (by decide)) rfl (ae (pv 2) ah)))))))))
   (aA (bM (gZ (ae (aZ dh (hr.mono (by decide)) rfl (ae (bI (pv 2) rfl) (ae (aZ fU (hr.mono (by decide)) rfl (ae (pv 0) (ae (pv 1) ah))) ah))) (ae (bI (pv 2) rfl) ah))))))))),?_⟩
  refine⟨_,rfl,_,rfl,fun q dx nq nd ne=>?_⟩;have Pj:upd H dx (.own q) q=none:=by rw[aj (Ne.symm ne)];exact nq
  have sa:ad H (upd (upd H dx (.own q)) q (.ins a.Layout dx [])):=(ad.new nd).trans (ad.new Pj);have qa:upd (upd H dx (.own q)) q (.ins a.Layout dx []) q=some (.ins a.Layout dx []):=af;generalize upd (upd H dx (.own q)) q (.ins a.Layout dx [])=Ha at sa qa ⊢;refine⟨q,dx,l,ws,c,rfl,qa,Aj.same sa,hin,by omega,by omega,fun r0 Hb Hm Lb IM IY Az np nf nn=>⟨rfl,?_⟩⟩;have sb:ad H Hb:=fun b o e=>Hm b o (sa b o e) fun y=>by
   rw[W7.mp y,nq] at e;cases e
  have Hw:=none_of sa np;have UE:=none_of sa nf;have Uy:=none_of sa nn;refine⟨_,rfl,q,r0,ws,c,rfl,Lb,IM,ok,hw,hc,fun DO BP Hc o8 jN=>?_,fun ring lr Ox Hc o8 DQ NA told len=>?_⟩
  rotate_left
  ·refine k2 ring lr Ox Hc (fun b o e=>o8 b o (sb b o e) fun y=>?_) DQ NA told len
   rw[W7.mp y,Hw] at e;cases e
  have sc:ad H Hc:=fun b o e=>o8 b o (sb b o e) fun y=>by
   rw[W7.mp y,Hw] at e;cases e
  have Lc:bH a.Layout Hc q r0 ws c:=Lb.kx o8 fun y hy=>.inl (W7.mp hy)
  have Ib:Hc r0.f=some (.lst ((List.replicate ws.length (0:Int)).map V.int)):=o8 _ _ IY (by simp[Ne.symm Lb.pf]);have c8:Hc r0.n=some (.lst ((List.replicate c (0:Int)).map V.int)):=o8 _ _ Az (by simp[Ne.symm Lb.pn]);clear Hm o8 IM IY Az;refine⟨_,rfl,l,ws.map wI,rfl,Aj.same sc,by rw[Vd];omega,fun wl Hd sd Oy bZ=>?_⟩;have bZ:Hd wl=some (.lst ((wts ws).map V.int)):=bZ;have gz:∀ x∈wts ws,0<=x/\x<2 ^ 61:=fun x hx=>by
   obtain⟨y,hy,rfl⟩:=List.mem_map.mp hx;obtain⟨z,hz,rfl⟩:=List.mem_map.mp hy;exact mw z hz
  refine⟨_,rfl,wl,wts ws,rfl,SqL.of bZ,gz,fun m g He se ng hg CN Fd=>?_⟩;have iG:=sd.trans se;have IH:ad H He:=sc.trans iG;have DX:=se _ _ bZ;have fr:∀ b∈[q,r0.p,r0.f,r0.n],H b=none:=fun b hb=>by
   simp only[VH,VC,or_false] at hb
   rcases hb with z|z|z|z <;> rw[z] <;> assumption
  have stay:∀ b o,H b=some o->∀ G,Kx [q,r0.p,r0.f,r0.n] He G->G b=some o:=fun b o e G kx=>kx b o (IH b o e) fun y=>by
   rw[fr b y] at e;cases e
  have sG:∀ G,Kx [q,r0.p,r0.f,r0.n] He G->ad H G:=fun G kx b o e=>stay b o e G kx
  have al:∀ b∈[q,r0.p,r0.f,r0.n],∃ o,Hc b=some o:=fun b hb=>by
   obtain⟨UP,Pm⟩:=Lc.ex;simp only[VH,VC,or_false] at hb
   rcases hb with z|z|z|z <;> rw[z]
   ·exact⟨_,Pm⟩
   ·exact⟨_,jN⟩
   ·exact⟨_,Ib⟩
   ·exact⟨_,c8⟩
  have O8:wl∉[q,r0.p,r0.f,r0.n]:=fun y=>by
   obtain⟨o,e⟩:=al wl y;rw[Oy] at e;cases e
  have gS:g∉[q,r0.p,r0.f,r0.n]:=fun y=>by
   obtain⟨o,e⟩:=al g y;rw[sd _ _ e] at ng;cases ng
  have Jb:∀ G,Kx [q,r0.p,r0.f,r0.n] He G->G wl=some (.lst ((wts ws).map V.int)):=fun G kx=>kx _ _ DX O8
  have kg:∀ G,Kx [q,r0.p,r0.f,r0.n] He G->G g=some (.lst ((pw m).map V.int)):=fun G kx=>kx _ _ hg gS
  have Pi:=Fn (wts ws);have MY:∀ i,i<=m->(16:Int) ^ (m - i)<2 ^ 62:=fun i hi=>by
   rcases Xz m with z|z
   ·rw[z,Nat.zero_sub]
    decide
   ·have e1:=CN.1 (m - 1) (by omega)
    have e2:(16:Int) ^ m=16 ^ (m - 1) * 16:=by rw[<- rR,show m - 1 + 1=m by omega]
    have e3:=Br (m:=2 ^ 61 - 1) (wts ws) (by decide) fun x hx=>by
     have:=(gz x hx).2;omega
    have e4:(16:Int) ^ (m - i)<=16 ^ m:=by
     have h:=Xo (n:=16) (by decide) (show m - i<=m by omega)
     exact_mod_cast h
    omega
  have pl:=AY m;refine⟨g,rfl,⟨_,SqL.of hg⟩,jC (K:=K) (a:=g) (xs:=(pw m).map V.int) (fun i σ G=>∃ r P fl v4,σ=[some (.int (c:Nat)),some (.ref l),some (.ref q),some (.ref wl),v4]/\Lp a.Layout He q r0 r ws c G P fl/\(∀ v,v<c->bal (wn ws c) (fn fl) v=bal (wn ws c) (fun n=>wtF ws n / (16:Int) ^ (m + 1 - i)) v) /\
    ∀ gY,j8 ws c ((pw m).drop i) (P,fl) gY->j8 ws c (pw m) (m8 ws c,List.replicate ws.length 0) gY)
   ⟨r0,m8 ws c,List.replicate ws.length 0,none,rfl,⟨Lc.same iG,Kx.of (ad.refl _),rfl,fun b o e z y=>z (by rw[y];simp),fun b o e z y=>z (by rw[y];simp),iG _ _ jN,iG _ _ Ib,⟨_,iG _ _ c8⟩,BP,VS,?_⟩,?_,fun gY h=>h⟩ ?_ ?_ ?_⟩
  ·rw[AU]
   exact⟨DO,fun n _=>V1 _,fun n _ z=>absurd z (Int.lt_irrefl _)⟩
  ·intro v hv
   rw[AU];refine pJ (fun n hn=>?_) v;have hn:n<ws.length:=hn;have wm:wtF ws n∈wts ws:=by
    rw[<- nj];unfold fn;rw[Vf,Vg (by rw[pD];exact hn)];exact WI _
   have e1:=Pi.2 _ wm;have e2:=(gz _ wm).1;have e3:=CN.2;rw[<- rR] at e3;show(0:Int)=wtF ws n / 16 ^ (m + 1 - 0);rw[Nat.sub_zero];exact(Int.ediv_eq_zero_of_lt e2 (by omega)).symm
  ·rintro i σ G _ ⟨r,P,fl,v4,rfl,lp,_⟩
   exact SqL.of (kg G lp.kx)
  ·rintro i x σ G hx ⟨r,P,fl,v4,rfl,lp,hb,yc⟩
   have hi:i<=m:=by
    have:=(List.getElem?_eq_some_iff.mp hx).1;rw[Vd,pl] at this;omega
   have ex:x=.int ((16:Int) ^ (m - i)):=by
    rw[Vp,FK m i hi] at hx;exact(Option.some.inj hx).symm
   subst ex;have w0:=JA (m - i);have w1:=MY i hi;have lO:(16:Int) ^ (m + 1 - i)=16 ^ (m - i) * 16:=by rw[<- rR,show m + 1 - i=m - i + 1 by omega]
   rw[lO] at hb;have aO:∀ P' fl' bv,Run ws c (figS ws c ((16:Int) ^ (m - i)) (P,fl)) (P',fl',bv)->∀ gY,j8 ws c ((pw m).drop (i + 1)) (P',fl') gY->j8 ws c (pw m) (m8 ws c,List.replicate ws.length 0) gY:=fun P' fl' bv hr gY ho=>by
    refine yc gY ?_;rw[Q9 m i hi];exact j8.cons _ _ _ _ _ hr ho
   rw[show m + 1 - (i + 1)=m - i by omega];generalize hW:(16:Int) ^ (m - i)=W at *;clear yc lO hx;obtain⟨NW,M4⟩:=R7 w0 hin lp.ti hb;obtain⟨cw,gj⟩:=lp.lay.ex;obtain⟨Uz,sZ⟩:=lp.hn;dsimp only[bJ];refine⟨_,rfl,q,a.Layout,cw,_,_,rfl,gj,T.c_Layout,T.na_Layout_flow,zA,r.f,rfl,⟨_,SqL.of lp.hf⟩,fun D hD=>?_⟩;refine eP (K:=K) (a:=r.f) (xs:=fl.map V.int) (fun j τ G'=>∃ v1,τ=[v1]/\ad G G'/\G' D=some (.lst (((fl.take j).map fun x=>x * 16).map V.int))) ⟨none,rfl,ad.new hD,af⟩ ?_ ?_ ?_
   ·rintro j τ G' _ ⟨v1,rfl,sg,_⟩
    exact SqL.of (sg _ _ lp.hf)
   ·rintro j y τ G' hy ⟨v1,rfl,sg,va⟩
    obtain⟨z,hz,rfl⟩:=j4 hy;dsimp only[bJ,c5];rw[if_pos rfl];refine⟨_,rfl,_,_,rfl,rfl,.inr ⟨by decide,by decide⟩,_,va,?_,_,rfl,bx hD sg,?_⟩
    ·have:=lp.lf
     rw[Vd,Vd,Vs,Vo];omega
    ·rw[af,zam hz,Vl,Vl]
     rfl
   rintro τ G1 ⟨v1,rfl,s1,jJ⟩
   rw[Vd,Vv] at jJ;refine⟨_,rfl,q,a.Layout,cw,_,rfl,s1 _ _ gj,T.c_Layout,T.na_Layout_flow,(by show 8<1000;decide),?_⟩;rw[R9];have L2:=lp.lay.reF (dx:=cw) s1 hD lp.hp sZ ⟨_,rfl⟩ ⟨_,rfl⟩;have Am:=af (H:=G1) (a:=q) (o:=HO.ins a.Layout cw (bN { r with f:=D }));have gy:Kx [q,r0.p,r0.f,r0.n] He (upd G1 q (.ins a.Layout cw (bN { r with f:=D }))):=(lp.kx.trans (Kx.of s1)).trans (Kx.upd (by simp));have EE:D≠q:=Ne.symm (ap gj hD);have mK:upd G1 q (.ins a.Layout cw (bN { r with f:=D })) r.p=some (.lst (P.map V.int)):=by rw[aj (Ne.symm lp.lay.nq.1)];exact s1 _ _ lp.hp
   have At:upd G1 q (.ins a.Layout cw (bN { r with f:=D })) D=some (.lst ((fl.map fun x=>x * 16).map V.int)):=by rw[aj EE];exact jJ
   have GC:∀ b o,He b=some o->b∉[q,r0.p,r0.f,r0.n]->b≠D:=fun b o e z=>ap (lp.kx b o e z) hD
   generalize upd G1 q (.ins a.Layout cw (bN { r with f:=D }))=G2 at L2 Am gy mK At ⊢;refine⟨_,rfl,_,rfl,_,rfl,wl,rfl,⟨_,SqL.of (Jb G2 gy)⟩,fun Z hZ=>?_⟩;refine eP (K:=K) (a:=wl) (xs:=(wts ws).map V.int) (fun j τ G'=>∃ v1,τ=[v1,some (.int W)]/\ad G2 G'/\G' Z=some (.lst ((((wts ws).take j).map fun y=>y / W % 16).map V.int))) ⟨none,rfl,ad.new hZ,af⟩ ?_ ?_ ?_
   ·rintro j τ G' _ ⟨v1,rfl,sg,_⟩
    exact SqL.of (sg _ _ (Jb G2 gy))
   ·rintro j y τ G' hy ⟨v1,rfl,sg,va⟩
    obtain⟨z,hz,rfl⟩:=j4 hy;dsimp only[bJ,c5];rw[if_pos rfl];refine⟨_,rfl,_,rfl,_,_,rfl,rfl,⟨w0,w1⟩,_,_,rfl,rfl,(by show(0:Int)<16;decide),_,va,?_,_,rfl,bx hZ sg,?_⟩
    ·have:=pD ws
     rw[Vd,Vd,Vs,Vo];omega
    ·rw[af,zam hz,Vl,Vl]
     rfl
   rintro τ G3 ⟨v2,rfl,s3,lV⟩
   rw[Vd,Vv] at lV;have lV:G3 Z=some (.lst ((iy ws W).map V.int)):=lV;refine⟨(c:Int),l,ws.map wI,Z,iy ws W,rfl,Aj.same ((sG G2 gy).trans s3),SqL.of lV,by rw[J2,Vd],by omega,by omega,by rw[Vn];exact wI_inR hin,fun nA G4 s4 HC h4=>?_⟩;rw[Vn] at h4;have qA:=s3.trans s4;refine⟨_,rfl,q,a.Layout,cw,_,rfl,qA _ _ Am,T.c_Layout,T.na_Layout_needs,(by show 8<1000;decide),?_⟩;rw[Rs];have kL:G2 nA=none:=none_of s3 HC;have L5:=L2.reN (dx:=cw) qA kL mK At ⟨_,rfl⟩ ⟨_,rfl⟩;have ig:Kx [q,r0.p,r0.f,r0.n] He (upd G4 q (.ins a.Layout cw (bN { { r with f:=D } with n:=nA }))):=(gy.trans (Kx.of qA)).trans (Kx.upd (by simp));have IG:nA≠q:=Ne.symm (ap Am kL);have Bv:upd G4 q (.ins a.Layout cw (bN { { r with f:=D } with n:=nA })) r.p=some (.lst (P.map V.int)):=by rw[aj (Ne.symm lp.lay.nq.1)];exact qA _ _ mK
   have D0:upd G4 q (.ins a.Layout cw (bN { { r with f:=D } with n:=nA })) D=some (.lst ((fl.map fun x=>x * 16).map V.int)):=by rw[aj EE];exact qA _ _ At
   have qp:upd G4 q (.ins a.Layout cw (bN { { r with f:=D } with n:=nA })) nA=some (.lst ((cv c (ws.map wI) (iy ws W)).map V.int)):=by rw[aj IG];exact h4
   have kX:∀ b o,He b=some o->b∉[q,r0.p,r0.f,r0.n]->b≠nA:=fun b o e z=>ap (gy b o e z) kL
   generalize upd G4 q (.ins a.Layout cw (bN { { r with f:=D } with n:=nA }))=G5 at L5 ig Bv D0 qp ⊢;obtain⟨r',er'⟩:∃ r':LR,r'={ { r with f:=D } with n:=nA }:=⟨_,rfl⟩;rw[<- er'] at L5;have rp:r'.p=r.p:=by rw[er']
   have rf:r'.f=D:=by rw[er']
   have rn:r'.n=nA:=by rw[er']
   rw[<- rp] at Bv;rw[<- rf] at D0 GC;rw[<- rn] at qp kX;have O3:r'.p=r0.p:=rp.trans lp.ep;have N3:(fl.map fun x=>x * 16).length=ws.length:=by rw[Vd];exact lp.lf
   have Mu:=lp.lp;have tK:∀ n,n<ws.length->0<=wtF ws n / W:=fun n hn=>by
    have wm:wtF ws n∈wts ws:=by
     rw[<- nj];unfold fn;rw[Vf,Vg (by rw[pD];exact hn)];exact WI _
    exact Int.ediv_nonneg (gz _ wm).1 (Xq w0)
   clear hb L2 Am gy mK At HC kL qA s3 s4 h4 lV hZ hD jJ s1 gj sZ er' rp rf rn IG EE;refine⟨fun mm σ G=>∃ P' fl' bv,mm=nE (wn ws c) (fn bv)/\σ=[some (.int (c:Nat)),some (.ref l),some (.ref q),some (.ref wl),some (.int W)]/\Lp a.Layout He q r0 r' ws c G P' fl'/\G r'.n=some (.lst ((bv:List Int).map V.int))/\bv.length=c/\(∀ v,v<c->fn bv v=bal (wn ws c) (fun n=>wtF ws n / W) v - bal (wn ws c) (fn fl') v) /\
     ∀ t,Run ws c (P',fl',bv) t->Run ws c (figS ws c W (P,fl)) t,
    ⟨_,P,fl.map (fun x=>x * 16),cv c (ws.map wI) (iy ws W),rfl,rfl,⟨L5,ig,O3,GC,kX,Bv,D0,⟨_,qp⟩,Mu,N3,NW⟩,qp,Fq _ _ _,M4,fun t h=>h⟩,?_⟩
   rintro mm σ G6 ⟨P',fl',bv,rfl,rfl,iX,Ag,Pt,Ac,wd⟩
   obtain⟨Oe,Nx⟩:=iX.lay.ex;refine⟨_,rfl,q,a.Layout,Oe,_,_,rfl,Nx,T.c_Layout,T.na_Layout_needs,p5,r'.n,rfl,⟨_,SqL.of Ag⟩,fun Y hY=>?_⟩;refine eP (K:=K) (a:=r'.n) (xs:=bv.map V.int) (fun j τ G'=>∃ v1,τ=[v1]/\ad G6 G'/\G' Y=some (.lst (((bv.take j).map fun x=>decide (0<x)).map V.bl))) ⟨none,rfl,ad.new hY,af⟩ ?_ ?_ ?_
   ·rintro j τ G' _ ⟨v1,rfl,sg,_⟩
    exact SqL.of (sg _ _ Ag)
   ·rintro j y τ G' hy ⟨v1,rfl,sg,va⟩
    obtain⟨z,hz,rfl⟩:=j4 hy;dsimp only[bJ,c5];rw[if_pos rfl];refine⟨_,rfl,_,_,rfl,rfl,_,va,?_,_,rfl,bx hY sg,?_⟩
    ·rw[Vd,Vd,Vs,Vo]
     omega
    ·rw[af,zam hz,Vl,Vl]
     rfl
   rintro τ G7 ⟨v3,rfl,s7,IV⟩
   rw[Vd,Vv] at IV;have fe:Lp a.Layout He q r0 r' ws c G7 P' fl':=⟨iX.lay.same s7,iX.kx.trans (Kx.of s7),iX.ep,iX.ef,iX.en,s7 _ _ iX.hp,s7 _ _ iX.hf,⟨_,s7 _ _ Ag⟩,iX.lp,iX.lf,iX.ti⟩;have MQ:=s7 _ _ Ag;refine⟨Y,_,rfl,SqL.of IV,_,rfl,?_⟩;refine cS (fun c1=>?_) (fun c1=>?_)
   ·-- some point needs some
    obtain⟨k0,Ic,GP⟩:∃ v,v<c/\0<fn bv v:=by
     rw[XQ] at c1;obtain⟨x,hx,o0⟩:=List.any_eq_true.mp c1;obtain⟨j,hj⟩:=List.mem_iff_getElem?.mp hx;have jl:=(List.getElem?_eq_some_iff.mp hj).1;refine⟨j,by omega,?_⟩;unfold fn;rw[Vf,hj];exact VA o0
    refine⟨_,fun σ' H' h=>h,?_⟩;refine⟨_,rfl,q,r',ws,c,P',fl',bv,fun n=>wtF ws n / W,k0,rfl,fe.lay,fe.hp,fe.lp,fe.hf,fe.lf,MQ,Pt,ok,hw,hc,fe.ti,tK,Ac,Ic,GP,stay _ _ iV G7 fe.kx,fun P2 NF kA G8 qD p8 f8 n8 snd l1 l2 l3 NX OC less=>?_⟩;have Nh:Kx [q,r0.p,r0.f,r0.n] He G8:=fun b o e z=>qD b o (fe.kx b o e z) fun y=>by
     simp only[VH,VC,or_false] at y
     rcases y with y|y|y
     ·exact z (by rw[y,fe.ep];simp)
     ·exact fe.ef b o e z y
     ·exact fe.en b o e z y
    have L8:bH a.Layout G8 q r' ws c:=fe.lay.kx qD fun y hy=>by
     simp only[VH,VC,or_false] at hy
     rcases hy with z|z|z
     ·exact .inl z
     ·exact .inr (.inl z)
     ·exact .inr (.inr (.inl z))
    exact⟨_,less,P2,NF,kA,rfl,rfl,⟨L8,Nh,fe.ep,fe.ef,fe.en,p8,f8,⟨_,n8⟩,l1,l2,NX⟩,n8,l3,OC,fun t h=>wd t (Run.step _ _ _ ⟨k0,Ic,GP⟩ snd h)⟩
   ·have non:∀ v,v<c->¬ 0<fn bv v:=fun v hv z=>by
     rw[XQ] at c1;have:=List.any_eq_false.mp c1 (fn bv v) (by
      unfold fn;rw[Vf,Vg (show v<bv.length by omega)];exact WI _)
     exact this (VG z)
    exact⟨r',P',fl',_,rfl,fe,P1 ok Ac non,aO P' fl' bv (wd _ (Run.stop _ non))⟩
  ·rintro σ G ⟨r,P,fl,v4,rfl,lp,hb,yc⟩
   rw[Vd,pl] at hb yc;have fg:=yc _ (by rw[Xd (by omega)];exact j8.nil _);have hb:∀ v,v<c->bal (wn ws c) (fn fl) v=bal (wn ws c) (wtF ws) v:=fun v hv=>by
    rw[hb v hv];refine pJ (fun n _=>?_) v;show wtF ws n / 16 ^ (m + 1 - (m + 1))=_;rw[Nat.sub_self,Int.pow_zero,Int.ediv_one]
   obtain⟨cw,gj⟩:=lp.lay.ex;have UO:(ptF ws c).length=c:=by
    unfold ptF;rw[AL,We]
   have U5:=lp.lp;have Eh:=lp.hp;have xa:=lp.hf;have Au:=sG G lp.kx;refine⟨_,rfl,q,a.Layout,cw,_,_,rfl,gj,T.c_Layout,T.na_Layout_places,pE,_,rfl,_,rfl,l,ws,c,rfl,Aj.same Au,hin,by omega,fun gp G1 s1 n1 h1=>?_⟩;refine⟨r.p,gp,P,ptF ws c,rfl,SqL.of (s1 _ _ Eh),SqL.of h1,by omega,by omega,fun gn G2 s2 n2 h2=>?_⟩;have Ay:=s1.trans s2;have Hk:G gn=none:=none_of s1 n2;refine⟨_,rfl,q,a.Layout,cw,_,_,rfl,Ay _ _ gj,T.c_Layout,T.na_Layout_flow,zA,(by show 2<=sizeLine;decide),fun gt DH=>?_⟩;have s3:ad G2 (upd G2 gt (.tup [.ref gn,.ref r.f])):=ad.new DH;have CL:=Au.trans (Ay.trans s3);have O9:H r.f=none:=by
    cases e:H r.f with
    | none=>rfl
    | some o=>exact absurd rfl (lp.ef r.f o (IH _ _ e) fun y=>by rw[fr _ y] at e;cases e)
   exact k1 _ _ gt gn r.f _ CL (none_of (Au.trans Ay) DH) af (none_of Au Hk) O9 (Ne.symm (ap xa Hk)) (s3 _ _ h2) (s3 _ _ (Ay _ _ xa)) ⟨m,P,fl,CN,fg,rfl⟩ (Q3 hin lp.lp lp.lf lp.ti hb)
end
end K64
namespace K64
theorem pickM (P:Nat->Int){q c:Nat} (hq:q<c) (x:Int):sm (fun v=>P v * (if q=v then x else 0)) c=P q * x:=by
 have e:sm (fun v=>P v * (if q=v then x else 0)) c=sm (fun v=>if v=q then P q * x else 0) c:=cT c fun v _=>by
  by_cases h:v=q
  ·subst h
   rw[if_pos rfl,if_pos rfl]
  ·rw[if_neg (Ne.symm h),if_neg h,Int.mul_zero]
 rw[e,rq,if_pos hq]
theorem Jq {N:Wn} (ok:N.Ok) (a P:Nat->Int):sm (fun n=>a n * (P (N.ot n) - P (N.on n))) N.m=sm (fun v=>P v * bal N a v) N.c:=by
 have e:sm (fun v=>P v * bal N a v) N.c=sm (fun v=>sm (fun n=>P v * ((if N.ot n=v then a n else 0) - (if N.on n=v then a n else 0))) N.m) N.c:=cT _ fun v _=>by
  unfold bal;rw[Ft]
 rw[e,FH];refine cT _ fun n hn=>?_
 have e2:sm (fun v=>P v * ((if N.ot n=v then a n else 0) - (if N.on n=v then a n else 0))) N.c=sm (fun v=>P v * (if N.ot n=v then a n else 0) - P v * (if N.on n=v then a n else 0)) N.c:=cT _ fun v _=>Int.mul_sub _ _ _
 rw[e2,lu,pickM P (ok.ot n hn),pickM P (ok.on n hn),Int.mul_sub,Int.mul_comm (a n),Int.mul_comm (a n)]
theorem KR {N:Wn} (ok:N.Ok){a b P:Nat->Int} (h:∀ v,v<N.c->bal N a v=bal N b v):sm (fun n=>a n * (P (N.ot n) - P (N.on n))) N.m=sm (fun n=>b n * (P (N.ot n) - P (N.on n))) N.m:=by
 rw[Jq ok,Jq ok];exact cT _ fun v hv=>by rw[h v hv]
theorem sm_le {f g:Nat->Int}:∀ n,(∀ i,i<n->f i<=g i)->sm f n<=sm g n
 | 0,_=>V1 _
 | n + 1,h=>by
  have:=sm_le n fun i hi=>h i (by omega)
  have:=h n (by omega);show sm f n + f n<=sm g n + g n;omega
theorem weak {N:Wn} (ok:N.Ok){a w P:Nat->Int} (h:∀ v,v<N.c->bal N a v=bal N w v) (a0:∀ n,n<N.m->0<=a n) (fit:∀ n,n<N.m->0<=slk N P n):sm (fun n=>a n * N.le n) N.m<=sm (fun n=>w n * (P (N.ot n) - P (N.on n))) N.m:=by
 rw[<- KR ok h];refine sm_le _ fun n hn=>?_
 have:=fit n hn;unfold slk at this;exact Xt (by omega) (a0 n hn)
theorem LJ {N:Wn} (ok:N.Ok){a w P:Nat->Int} (h:∀ v,v<N.c->bal N a v=bal N w v) (ti:Ti N P a):sm (fun n=>a n * N.le n) N.m=sm (fun n=>w n * (P (N.ot n) - P (N.on n))) N.m:=by
 rw[<- KR ok h];refine cT _ fun n hn=>?_
 by_cases c:0<a n
 ·have:=ti.t n hn c
  unfold slk at this;rw[show P (N.ot n) - P (N.on n)=N.le n by omega]
 ·have:=ti.f n hn
  rw[show a n=0 by omega,Yk,Yk]
end K64
namespace K64
def du (l:List Wt) (Q:Nat->Int):Int:=(l.map fun x=>x.2.2.2 * (Q x.2.1 - Q x.1)).sum
def mX (l:List Wt) (Q:Nat->Int):Prop:=∀ x∈l,x.2.2.1<=Q x.2.1 - Q x.1
theorem Gq {α:Type} (l:List α) (d:α) (f:α->Int):∀ i,i<=l.length->((l.take i).map f).sum=sm (fun n=>f (l.getD n d)) i
 | 0,_=>rfl
 | i + 1,h=>by
  have ih:=Gq l d f i (by omega);have e:l[i]?=some (l.getD i d):=by rw[Vf,Vg (show i<l.length by omega)];rfl
  rw[L2.zam e,Vl,List.sum_append,ih];show sm (fun n=>f (l.getD n d)) i + (f (l.getD i d) + 0)=sm (fun n=>f (l.getD n d)) i + f (l.getD i d);omega
theorem A6 (ws:List Wt) (c:Nat) (Q:Nat->Int):du ws Q=sm (fun n=>wtF ws n * (Q ((wn ws c).ot n) - Q ((wn ws c).on n))) ws.length:=by
 have h:=Gq ws (0,0,0,0) (fun x=>x.2.2.2 * (Q x.2.1 - Q x.1)) ws.length (Vh _);rw[Vv] at h;exact h
theorem mX.slk {ws:List Wt}{c:Nat}{Q:Nat->Int} (h:mX ws Q):∀ n,n<ws.length->0<=slk (wn ws c) Q n:=fun n hn=>by
 have e:ws[n]?=some (ws.getD n (0,0,0,0)):=by rw[Vf,Vg hn];rfl
 have:=h _ (Vj e);show 0<=Q (ws.getD n (0,0,0,0)).2.1 - Q (ws.getD n (0,0,0,0)).1 - (ws.getD n (0,0,0,0)).2.2.1;omega
theorem m9.fit {ws:List Wt}{c:Nat}{pl fl:List Int} (h:m9 ws c pl fl):mX ws (fn pl):=fun x hx=>by
 obtain⟨n,e⟩:=List.mem_iff_getElem?.mp hx;have hn:=(List.getElem?_eq_some_iff.mp e).1;have s:=h.ti.s n hn;have s:0<=fn pl (ws.getD n (0,0,0,0)).2.1 - fn pl (ws.getD n (0,0,0,0)).1 - (ws.getD n (0,0,0,0)).2.2.1:=s;rw[Vf,e] at s;have s:0<=fn pl x.2.1 - fn pl x.1 - x.2.2.1:=s;omega
theorem m9.opt {ws:List Wt}{c:Nat}{pl fl:List Int} (hin:∀ x∈ws,x.1<c/\x.2.1<c) (h:m9 ws c pl fl){Q:Nat->Int} (hq:mX ws Q):du ws (fn pl)<=du ws Q:=by
 have s:=LJ (N:=wn ws c) (Bh hin) h.bl h.ti;have w:=weak (N:=wn ws c) (Bh hin) h.bl h.ti.f hq.slk;rw[A6 ws c,A6 ws c];exact Int.le_trans (Int.le_of_eq s.symm) w
theorem jY.nofit {ws:List Wt}{c:Nat}{ring:List Nat} (h:jY (wn ws c) ring){Q:Nat->Int} (hq:mX ws Q):False:=h.none (P:=Q) hq.slk
structure Oth (ws ol:List Wt) (rn:Nat->Nat):Prop where
 of_:∀ y∈ol,∃ x∈ws,y.1=rn x.1/\y.2.1=rn x.2.1/\y.2.2.1=x.2.2.1
 all:∀ x∈ws,∃ y∈ol,y.1=rn x.1/\y.2.1=rn x.2.1/\y.2.2.1=x.2.2.1
 wt:∀ y∈ol,0<=y.2.2.2/\y.2.2.2<2 ^ 61
 sum:∀ Q,du ol Q=du ws fun v=>Q (rn v)
end K64
namespace K64.Sd
open PySem L2
abbrev Kvs:=List (Key×V)
abbrev Row:=List Str
abbrev Ln:=Str×Str
def lnD (q:Ln):Dt:=.tup [.str q.1,.str q.2]
def Rw (H:Hp):List Addr->List Row->Prop
 | [],[]=>True
 | r::rs,row::rows=>H r=some (.lst (row.map V.str))/\Rw H rs rows
 | _,_=>False
theorem Rw.mono {H H':Hp} (s:∀ (r:Addr) (row:Row),H r=some (.lst (row.map V.str))->H' r=some (.lst (row.map V.str))):∀ {rs:List Addr}{rows:List Row},Rw H rs rows->Rw H' rs rows
 | [],[],_=>trivial
 | r::rs,row::rows,h=>⟨s _ _ h.1,Rw.mono s h.2⟩
 | [],_::_,h=>h.elim
 | _::_,[],h=>h.elim
theorem Rw.same {H H':Hp} (s:ad H H'){rs:List Addr}{rows:List Row} (h:Rw H rs rows):Rw H' rs rows:=h.mono fun _ _ e=>s _ _ e
theorem Rw.len {H:Hp}:∀ {rs:List Addr}{rows:List Row},Rw H rs rows->rs.length=rows.length
 | [],[],_=>rfl
 | r::rs,row::rows,h=>by rw[Vw,Vw,Rw.len h.2]
 | [],_::_,h=>h.elim
 | _::_,[],h=>h.elim
theorem Rw.at {H:Hp}:∀ {rs:List Addr}{rows:List Row}{i:Nat}{r:Addr},Rw H rs rows->rs[i]?=some r->∃ row,rows[i]?=some row/\H r=some (.lst (row.map V.str))
 | [],[],_,_,_,e=>by simp at e
 | r::rs,row::rows,0,_,h,e=>by
  cases e
  exact⟨row,rfl,h.1⟩
 | r::rs,row::rows,i + 1,_,h,e=>Rw.at (i:=i) h.2 (by simpa using e)
 | [],_::_,_,_,h,_=>h.elim
 | _::_,[],_,_,h,_=>h.elim
theorem Rw.snoc {H:Hp}{r:Addr}{row:Row} (e:H r=some (.lst (row.map V.str))):∀ {rs:List Addr}{rows:List Row},Rw H rs rows->Rw H (rs++[r]) (rows++[row])
 | [],[],_=>⟨e,trivial⟩
 | _::_,_::_,h=>⟨h.1,Rw.snoc e h.2⟩
 | [],_::_,h=>h.elim
 | _::_,[],h=>h.elim
theorem Rw.upd {H:Hp}{l:Addr}{o:HO}:∀ {rs:List Addr}{rows:List Row},Rw H rs rows->(∀ r∈rs,r≠l)->Rw (L2.upd H l o) rs rows
 | [],[],_,_=>trivial
 | r::rs,row::rows,h,n=>⟨by rw[aj (n r Vz)];exact h.1,Rw.upd h.2 fun x hx=>n x (Vt _ hx)⟩
 | [],_::_,h,_=>h.elim
 | _::_,[],h,_=>h.elim
theorem Rw.put {H:Hp}{r:Addr}{row:Row}:∀ {rs:List Addr}{rows:List Row}{i:Nat},Rw H rs rows->rs.Nodup->rs[i]?=some r->Rw (L2.upd H r (.lst (row.map V.str))) rs (rows.set i row)
 | [],[],_,_,_,e=>by simp at e
 | x::rs,_::rows,0,h,n,e=>by
  have e':x=r:=by simpa using e
  subst e';rw[Xp] at n;refine⟨af,?_⟩;have go:∀ {rs:List Addr}{rows:List Row},x∉rs->Rw H rs rows->Rw (L2.upd H x (.lst (row.map V.str))) rs rows:=by
   intro rs
   induction rs with
   | nil=>intro rows _ h;cases rows with
    | nil=>trivial
    | cons=>exact h.elim
   | cons y rs ih=>intro rows m h;cases rows with
    | nil=>exact h.elim
    | cons=>exact⟨by rw[aj (fun z=>m (by rw[<- z];exact Vz))];exact h.1,ih (fun z=>m (Vt _ z)) h.2⟩
  exact go n.1 h.2
 | x::rs,_::rows,i + 1,h,n,e=>by
  rw[Xp] at n;have e':rs[i]?=some r:=by simpa using e
  have ne:x≠r:=fun z=>n.1 (by rw[z];exact Vj e')
  exact⟨by rw[aj ne];exact h.1,Rw.put h.2 n.2 e'⟩
 | [],_::_,_,h,_,_=>h.elim
 | _::_,[],_,h,_,_=>h.elim
def Has (kvs:Kvs) (s:Str):Prop:=∃ i:Int,a9 kvs (Sum.inr s)=some (.int i)
def gv (kvs:Kvs) (s:Str):Int:=match a9 kvs (Sum.inr s) with
 | some (.int i)=>i
 | _=>0
theorem Has.gv {kvs:Kvs}{s:Str} (h:Has kvs s):a9 kvs (Sum.inr s)=some (.int (gv kvs s)):=by
 obtain⟨i,e⟩:=h;unfold K64.Sd.gv;rw[e]
theorem gv_put (kvs:Kvs) (s t:Str) (i:Int):gv (aF kvs (Sum.inr s) (.int i)) t=if t=s then i else gv kvs t:=by
 unfold gv;rw[ni];by_cases e:t=s
 ·rw[if_pos e,if_pos (by rw[e])]
 ·rw[if_neg e,if_neg (fun z=>e (Sum.inr.inj z))]
theorem Has.put {kvs:Kvs}{s t:Str}{i:Int} (h:Has kvs t):Has (aF kvs (Sum.inr s) (.int i)) t:=by
 obtain⟨j,e⟩:=h;unfold Has;rw[ni];by_cases z:t=s
 ·rw[if_pos (by rw[z])]
  exact⟨i,rfl⟩
 ·rw[if_neg (fun y=>z (Sum.inr.inj y))]
  exact⟨j,e⟩
theorem Has.new {kvs:Kvs}{s:Str}{i:Int}:Has (aF kvs (Sum.inr s) (.int i)) s:=by
 unfold Has;rw[ni,if_pos rfl];exact⟨i,rfl⟩
def nb (row:Row):List Ln:=row.zip (row.drop 1)
def nbs (rows:List Row):List Ln:=(rows.map nb).flatten
theorem nb_get {row:Row}{i:Nat}{x y:Str} (h1:row[i]?=some x) (h2:row[i + 1]?=some y):(nb row)[i]?=some (x,y):=by
 unfold nb;rw[VQ];exact⟨h1,by rw[WX,XJ];exact h2⟩
theorem nb_len (row:Row):(nb row).length=row.length - 1:=by
 unfold nb;rw[Wm,Wv];omega
theorem nb_mem {row:Row}{q:Ln} (h:q∈nb row):q.1∈row/\q.2∈row:=by
 unfold nb at h;have:=Xk (a:=q.1) (b:=q.2) h;exact⟨this.1,Xr this.2⟩
theorem nbs_mem {rows:List Row}{q:Ln} (h:q∈nbs rows):∃ row∈rows,q.1∈row/\q.2∈row:=by
 unfold nbs at h;obtain⟨l,hl,hq⟩:=List.mem_flatten.mp h;obtain⟨row,hr,rfl⟩:=List.mem_map.mp hl;exact⟨row,hr,nb_mem hq⟩
theorem Ta {rows:List Row}{i:Nat}{row:Row} (h:rows[i]?=some row):nbs (rows.take (i + 1))=nbs (rows.take i)++nb row:=by
 unfold nbs;rw[zam h,Vl,WT];simp
def kp1 (hv qv:Kvs) (g:Int) (q:Ln):Bool:=decide (gv qv q.2 - gv qv q.1 >= gv hv q.1 + gv hv q.2 + g)
section
variable {P:Program}{w:World}{K:PySem.W.Frag}{mg:Str->Option Value}{base:Heap}{a:Adr}
theorem un_ln {H:Hp}{x:V}{q:Ln} (h:DtV K H (lnD q) x):∃ t,x=.ref t/\SqT K H t [.str q.1,.str q.2]:=by
 obtain⟨t,xs,rfl,h1,y1,IF,rfl,rfl,y2,E2,rfl,rfl,h2⟩:=h;rw[show E2=[] from h2] at h1;exact⟨t,rfl,h1⟩
def RA:Sp:=fun vs H Q _=>∃ h g l r kvs,vs=[.ref h,.int g,.str l,.str r]/\H h=some (.dK kvs)/\Has kvs l/\Has kvs r/\Q (.int (gv kvs l + gv kvs r + g)) H
theorem LN (T:Tx K mg a):Cal P w K mg base CX0 1 "apart" ["halves","gap","left","right"] [] RA:=T.d_apart.cal fun f fd F=>by
 refine F.ok Sr (fun vs H Q E h=>?_) (fun aJ A outer s H vs Q E hr h=>?_)
 ·obtain⟨h,g,l,r,kvs,rfl,_⟩:=h
  rfl
 ·obtain⟨h,g,l,r,kvs,rfl,hh,h1,h2,k⟩:=h
  refine⟨_,(aA (bM (ay cu (ay cu (cL (bu hr) (pv 0) (pv 2) (fun _ _=>rfl)) (cL (bu hr) (pv 0) (pv 3) (fun _ _=>rfl))) (pv 1)))),?_⟩;exact⟨_,rfl,_,rfl,h,_,rfl,gM (k:=Sum.inr l) hh h1.gv,_,rfl,_,rfl,h,_,rfl,gM (k:=Sum.inr r) hh h2.gv,_,_,rfl,rfl,_,rfl,_,_,rfl,rfl,k⟩
def LsAt (K:PySem.W.Frag) (H:Hp) (l:Addr) (ls:List Ln):Prop:=∃ xs,H l=some (.lst xs)/\aN K H (ls.map lnD) xs
def spNbs (K:PySem.W.Frag):Sp:=fun vs H Q _=>∃ l rs rows,vs=[.ref l]/\H l=some (.lst ((rs:List Addr).map V.ref))/\Rw H rs rows/\rows.length<=30/\(∀ row∈rows,row.length<=60)/\∀ d H',ad H H'->LsAt K H' d (nbs rows)->(nbs rows).length<=1800->Q (.ref d) H'
set_option maxHeartbeats 4000000 in
theorem KD (T:Tx K mg a):Cal P w K mg base CX0 1 "neighbours" ["rows"] [] (spNbs K):=T.d_neighbours.cal fun f fd F=>by
 refine F.ok Gc (fun vs H Q E h=>?_) (fun aJ A outer s H vs Q E hr h=>?_)
 ·obtain⟨l,rs,rows,rfl,_⟩:=h
  rfl
 ·obtain⟨l,rs,rows,rfl,hl,gP,hk,hm,k⟩:=h
  have ai:=gP.len;refine⟨_,(ao (aR (i:=1) Gc.nd rfl (.inl rfl) (c7 ah))
   (ao (c6 PassesOwn.never rfl (bU (pv 0)) (aB (i:=2) Gc.nd rfl (.inl rfl)) (aA (fw (iF PySem.F.plainAttrs_list PySem.F.slot_list_extend PySem.F.type_list_extend Fh (pv 1) (ae (d7 (N:=["left","right"]) (cap:=[none,none]) rfl (cF (osc:=aq rj) (XN:=["rows","found","row"]) rfl rfl (by decide +kernel)) (zR rfl T.n_zip (ae (pv 2) (ae (q9 rB (pv 2) (nJ ak) AN) ah))) (fun cl C s H fp aa=>(ld (K:=K) (n:=2) rfl rfl (aU (aB (i:=0) (show(["left","right"]:List Str).Nodup by decide +kernel) rfl (.inl rfl)) (aU (aB (i:=1) (show(["left","right"]:List Str).Nodup by decide +kernel) rfl (.inl rfl)) cM)))) (fun cl C s H fp aa=>cZ) (fun cl C s H fp aa=>(gZ (ae (pv 0) (ae (pv 1) ah))))) ah)))))
   (aA (bM (pv 1))))),?_⟩
  refine⟨(by show 0<=sizeLine;decide),fun g ng=>?_⟩;have s1:ad H (upd H g (.lst [])):=ad.new ng;have h1:upd H g (.lst []) g=some (.lst []):=af;generalize upd H g (.lst [])=H1 at s1 h1 ⊢;refine⟨_,rfl,l,rfl,⟨_,SqL.of (s1 _ _ hl)⟩,jC (K:=K) (a:=l) (xs:=rs.map V.ref) (fun i σ H'=>∃ v2 xs,σ=[some (.ref l),some (.ref g),v2]/\ad H H'/\H' g=some (.lst xs)/\aN K H' ((nbs (rows.take i)).map lnD) xs/\xs.length<=60 * i)
   ⟨none,[],rfl,s1,h1,rfl,VU _⟩ ?_ ?_ ?_⟩
  ·rintro i σ H' _ ⟨_,_,rfl,sm,_⟩
   exact SqL.of (sm _ _ hl)
  ·rintro i x σ H' hx ⟨v2,xs,rfl,sm,hg,bp,kx⟩
   obtain⟨r,io,rfl⟩:=Go hx;obtain⟨row,aX,gB⟩:=gP.at io;have Pa:=hm row (Vj aX);have hi:i<rows.length:=(List.getElem?_eq_some_iff.mp aX).1;dsimp only[bJ];refine⟨_,rfl,.inl ⟨rfl,_,SqL.of hg⟩,_,rfl,_,rfl,_,rfl,r,_,rfl,SqL.of (sm _ _ gB),fun z nz=>?_⟩;rw[Tz];have s2:ad H' (upd H' z (.lst ((row.map V.str).drop 1))):=ad.new nz;have h2:upd H' z (.lst ((row.map V.str).drop 1)) z=some (.lst ((row.map V.str).drop 1)):=af;generalize upd H' z (.lst ((row.map V.str).drop 1))=H2 at s2 h2 ⊢;have t2:=sm.trans s2;refine⟨r,z,rfl,⟨_,SqL.of (t2 _ _ gB)⟩,⟨_,SqL.of h2⟩,fun D hD=>?_⟩;refine RZ (K:=K) (l1:=r) (l2:=z) (xs:=row.map V.str) (ys:=(row.map V.str).drop 1) (n:=row.length - 1) (by rw[Vd];omega) (by rw[Wv,Vd];omega) (.inr (by rw[Wv,Vd]))
    (fun j τ H3=>∃ v1 v2 zs,τ=[v1,v2]/\ad H2 H3/\H3 D=some (.lst zs)/\aN K H3 (((nb row).take j).map lnD) zs) ⟨none,none,[],rfl,ad.new hD,af,rfl⟩ ?_ ?_ ?_
   ·rintro j τ H3 _ ⟨_,_,_,rfl,s3,_⟩
    exact⟨SqL.of (s3 _ _ (t2 _ _ gB)),SqL.of (s3 _ _ h2)⟩
   ·rintro j x y tt τ H3 hj hx hy nt ⟨v1,v2,zs,rfl,s3,hz,ic⟩
    obtain⟨a1,e1,rfl⟩:=qc hx;rw[WX,XJ] at hy;obtain⟨a2,e2,rfl⟩:=qc hy;have kz:zs.length<=60:=by
     have e:=ic.length;rw[Vd,Vs,nb_len] at e;omega
    have s4:ad H3 (upd H3 tt (.tup [.str a1,.str a2])):=ad.new nt;have h4:upd H3 tt (.tup [.str a1,.str a2]) tt=some (.tup [.str a1,.str a2]):=af;generalize upd H3 tt (.tup [.str a1,.str a2])=H4 at s4 h4 ⊢;dsimp only[c5];refine⟨tt,_,rfl,SqT.of h4,rfl,_,_,rfl,_,_,rfl,rfl,?_⟩;refine gb ?_;refine⟨_,rfl,_,rfl,(by show 2<=sizeLine;decide),fun q nq=>?_⟩;have s5:ad H4 (upd H4 q (.tup [.str a1,.str a2])):=ad.new nq;have h5:upd H4 q (.tup [.str a1,.str a2]) q=some (.tup [.str a1,.str a2]):=af;generalize upd H4 q (.tup [.str a1,.str a2])=H5 at s5 h5 ⊢;have u5:=s4.trans s5;refine⟨_,u5 _ _ hz,by rw[Vo];omega,_,_,_,rfl,bx hD (s3.trans u5),af,?_⟩;rw[zam (nb_get e1 e2),Vl];have kp:Tk H5 (upd H5 D (.lst (zs++[.ref q]))):=Tk.upd (u5 _ _ hz) rfl;exact aN.snoc (d:=lnD (a1,a2)) (kp.dt rfl ⟨q,_,rfl,SqT.of h5,_,_,rfl,rfl,_,_,rfl,rfl,rfl⟩) (kp.dts (dz (fun _=>rfl) _) (u5.dts ic))
   rintro τ H3 ⟨v1,v2,zs,rfl,s3,hz,ic⟩
   rw[<- nb_len,Vv] at ic;have kz:zs.length<=60:=by
    have e:=ic.length;rw[Vd,nb_len] at e;omega
   have u3:=s2.trans s3;refine⟨g,D,xs,zs,rfl,rfl,u3 _ _ hg,hz,by rw[Vo];omega,?_⟩;have kp:Tk H3 (upd H3 g (.lst (xs++zs))):=Tk.upd (u3 _ _ hg) rfl;refine⟨_,_,rfl,bx ng (sm.trans u3),af,?_,by rw[VD];omega⟩;rw[Ta aX,Vl];exact aN.append (kp.dts (dz (fun _=>rfl) _) ic) (kp.dts (dz (fun _=>rfl) _) (u3.dts bp))
  ·rintro σ H2 ⟨v2,xs,rfl,sm,hg,bp,kx⟩
   rw[Vd,ai,Vv] at bp;have e:=bp.length;rw[Vd] at e;rw[Vd] at kx;exact⟨_,rfl,k g H2 sm ⟨xs,hg,bp⟩ (by omega)⟩
def Tq (K:PySem.W.Frag):Sp:=fun vs H Q _=>∃ l rs rows h g p hv qv,vs=[.ref l,.ref h,.int g,.ref p]/\H l=some (.lst ((rs:List Addr).map V.ref))/\Rw H rs rows/\rows.length<=30/\(∀ row∈rows,row.length<=60)/\H h=some (.dK hv)/\H p=some (.dK qv)/\(∀ row∈rows,∀ s∈row,Has hv s/\Has qv s) /\
 ∀ H',ad H H'->Q (.bl ((nbs rows).all (kp1 hv qv g))) H'
set_option maxHeartbeats 4000000 in
theorem ok_keeps_gap (T:Tx K mg a):Cal P w K mg base CX0 2 "keeps_gap" ["rows","halves","gap","places"] [] (Tq K):=T.d_keeps_gap.cal fun f fd F=>by
 have dS:=LN (P:=P) (w:=w) (base:=base) T;have bh:=KD (P:=P) (w:=w) (base:=base) T;refine F.ok QJ (fun vs H Q E h=>?_) (fun aJ A outer s H vs Q E hr h=>?_)
 ·obtain⟨l,rs,rows,h,g,p,hv,qv,rfl,_⟩:=h
  rfl
 ·obtain⟨l,rs,rows,h,g,p,hv,qv,rfl,hl,gP,hk,hm,hh,hp,has,k⟩:=h
  refine⟨_,(aA (bM (cC QF rfl T.n_all bt_all (ae (d7 (N:=["left","right","halves","gap","places"]) (cap:=[none,none,some 1,some 2,some 3]) rfl (cF (osc:=aq rc) (XN:=["rows","halves","gap","places"]) rfl rfl (by decide +kernel)) (bU (aZ bh (hr.mono (by decide)) rfl (ae (pv 0) ah))) (fun cl C s H fp aa=>(ld (K:=K) (n:=2) rfl rfl (aU (aB (i:=0) (show(["left","right","halves","gap","places"]:List Str).Nodup by decide +kernel) rfl (by first|exact Or.inl rfl|exact Or.inr rfl)) (aU (aB (i:=1) (show(["left","right","halves","gap","places"]:List Str).Nodup by decide +kernel) rfl (by first|exact Or.inl rfl|exact Or.inr rfl)) cM)))) (fun cl C s H fp aa=>cZ) (fun cl C s H fp aa=>(qk op_ge (ay iE (cL (bu hr) (pv 4) (pv 1) (fun _ _=>rfl)) (cL (bu hr) (pv 4) (pv 0) (fun _ _=>rfl))) (aZ dS (hr.mono (by decide)) rfl (ae (pv 2) (ae (pv 3) (ae (pv 0) (ae (pv 1) ah))))) (bY _)))) ah)))),?_⟩;refine⟨_,rfl,l,rs,rows,rfl,hl,gP,hk,hm,fun d H1 s1 d4 GU=>?_⟩;obtain⟨xs,hd,bp⟩:=d4;have hx:∀ q∈nbs rows,(Has hv q.1/\Has qv q.1)/\Has hv q.2/\Has qv q.2:=fun q hq=>by
   obtain⟨row,hr,m1,m2⟩:=nbs_mem hq;exact⟨has row hr _ m1,has row hr _ m2⟩
  have lZ:(nbs rows).length=xs.length:=by rw[<- bp.length,Vd]
  generalize nbs rows=ls at bp hx lZ GU k;refine⟨d,rfl,⟨_,SqL.of hd⟩,fun D hD=>?_⟩;have sz:xs.length<=sizeLine:=by rw[Vo];omega
  refine eP (K:=K) (a:=d) (xs:=xs) (fun i τ H'=>∃ v1 v2,τ=[v1,v2,some (.ref h),some (.int g),some (.ref p)]/\ad H1 H'/\H' D=some (.lst (((ls.take i).map (kp1 hv qv g)).map V.bl))) ⟨none,none,rfl,ad.new hD,af⟩ ?_ ?_ ?_
  ·rintro i τ H' _ ⟨_,_,rfl,sm,_⟩
   exact SqL.of (sm _ _ hd)
  ·rintro i x τ H' d5 ⟨v1,v2,rfl,sm,hy⟩
   have hi:i<xs.length:=(List.getElem?_eq_some_iff.mp d5).1;obtain⟨q,hq,dq⟩:=eX bp d5;obtain⟨t,rfl,ht⟩:=un_ln (sm.dt dq);obtain⟨⟨a1,a2⟩,a3,a4⟩:=hx q (Vj hq);have t1:=s1.trans sm;dsimp only[c5];refine⟨t,_,rfl,ht,rfl,_,_,rfl,_,_,rfl,rfl,?_⟩;refine gb ?_;refine⟨_,rfl,_,rfl,p,_,rfl,gM (k:=Sum.inr q.2) (t1 _ _ hp) a4.gv,_,rfl,_,rfl,p,_,rfl,gM (k:=Sum.inr q.1) (t1 _ _ hp) a2.gv,_,_,rfl,rfl,_,rfl,_,rfl,_,rfl,_,rfl,h,g,q.1,q.2,hv,rfl,t1 _ _ hh,a1,a3,_,_,rfl,rfl,?_⟩;refine⟨_,hy,by rw[Vd,Vd,Vs];omega,_,_,rfl,bx hD sm,?_⟩;rw[af,zam hq,Vl,Vl];rfl
  rintro τ H2 ⟨v1,v2,rfl,sm,hy⟩
  rw[<- lZ,Vv] at hy;refine⟨D,ls.map (kp1 hv qv g),rfl,SqL.of hy,?_⟩;have e:(ls.map (kp1 hv qv g)).all id=ls.all (kp1 hv qv g):=by rw[Yg];rfl
  rw[e];exact k H2 (s1.trans sm)
abbrev L3:=Str×Str×Int
def l3D (q:L3):Dt:=.tup [.str q.1,.str q.2.1,.int q.2.2]
theorem un_l3 {H:Hp}{x:V}{q:L3} (h:DtV K H (l3D q) x):∃ t,x=.ref t/\SqT K H t [.str q.1,.str q.2.1,.int q.2.2]:=by
 obtain⟨t,xs,rfl,h1,y1,IF,rfl,rfl,y2,E2,rfl,rfl,y3,Hh,rfl,rfl,h2⟩:=h;rw[show Hh=[] from h2] at h1;exact⟨t,rfl,h1⟩
def far (qv:Kvs) (q:L3):Int:=if gv qv q.2.1 - gv qv q.1<0 then -(gv qv q.2.1 - gv qv q.1) else gv qv q.2.1 - gv qv q.1
def costL (qv:Kvs) (ls:List L3):Int:=(ls.map fun q=>q.2.2 * far qv q).sum
def L3At (K:PySem.W.Frag) (H:Hp) (l:Addr) (ls:List L3):Prop:=∃ xs,H l=some (.lst xs)/\aN K H (ls.map l3D) xs
def spCost (K:PySem.W.Frag):Sp:=fun vs H Q _=>∃ l p ls qv,vs=[.ref l,.ref p]/\L3At K H l ls/\H p=some (.dK qv)/\(∀ q∈ls,Has qv q.1/\Has qv q.2.1/\0<q.2.2/\q.2.2<2 ^ 64)/\ls.length<=300/\∀ H',ad H H'->Q (.int (costL qv ls)) H'
set_option maxHeartbeats 4000000 in
theorem ok_cost_of (T:Tx K mg a):Cal P w K mg base CX0 1 "cost_of" ["lines","places"] [] (spCost K):=T.d_cost_of.cal fun f fd F=>by
 refine F.ok ST (fun vs H Q E h=>?_) (fun aJ A outer s H vs Q E hr h=>?_)
 ·obtain⟨l,p,ls,qv,rfl,_⟩:=h
  rfl
 ·obtain⟨l,p,ls,qv,rfl,⟨xs,hl,bp⟩,hp,has,hk,k⟩:=h
  have lZ:ls.length=xs.length:=by rw[<- bp.length,Vd]
  refine⟨_,(aA (bM (cC Kg rfl T.n_sum JR (ae (d7 (N:=["one","other","weight","places"]) (cap:=[none,none,none,some 1]) rfl (cF (osc:=aq qS) (XN:=["lines","places"]) rfl rfl (by decide +kernel)) (bU (pv 0)) (fun cl C s H fp aa=>(ld (K:=K) (n:=3) rfl rfl (aU (aB (i:=0) (show(["one","other","weight","places"]:List Str).Nodup by decide +kernel) rfl (by first|exact Or.inl rfl|exact Or.inr rfl)) (aU (aB (i:=1) (show(["one","other","weight","places"]:List Str).Nodup by decide +kernel) rfl (by first|exact Or.inl rfl|exact Or.inr rfl)) (aU (aB (i:=2) (show(["one","other","weight","places"]:List Str).Nodup by decide +kernel) rfl (by first|exact Or.inl rfl|exact Or.inr rfl)) cM))))) (fun cl C s H fp aa=>cZ) (fun cl C s H fp aa=>(ay jG (pv 2) (cC QO rfl T.n_abs bt_abs (ae (ay iE (cL (bu hr) (pv 3) (pv 1) (fun _ _=>rfl)) (cL (bu hr) (pv 3) (pv 0) (fun _ _=>rfl))) ah))))) ah)))),?_⟩;refine⟨_,rfl,l,rfl,⟨_,SqL.of hl⟩,fun D hD=>?_⟩;refine eP (K:=K) (a:=l) (xs:=xs) (fun i τ H'=>∃ v1 v2 v3,τ=[v1,v2,v3,some (.ref p)]/\ad H H'/\H' D=some (.lst (((ls.take i).map fun q=>q.2.2 * far qv q).map V.int))) ⟨none,none,none,rfl,ad.new hD,af⟩ ?_ ?_ ?_
  ·rintro i τ H' _ ⟨_,_,_,rfl,sm,_⟩
   exact SqL.of (sm _ _ hl)
  ·rintro i x τ H' hx ⟨v1,v2,v3,rfl,sm,hy⟩
   have hi:i<xs.length:=(List.getElem?_eq_some_iff.mp hx).1;obtain⟨q,hq,dq⟩:=eX bp hx;obtain⟨t,rfl,ht⟩:=un_l3 (sm.dt dq);obtain⟨a1,a2,a3,a4⟩:=has q (Vj hq);dsimp only[c5];refine⟨t,_,rfl,ht,rfl,_,_,rfl,_,_,rfl,_,_,rfl,rfl,?_⟩;refine gb ?_;refine⟨_,rfl,_,rfl,_,rfl,p,_,rfl,gM (k:=Sum.inr q.2.1) (sm _ _ hp) a2.gv,_,rfl,_,rfl,p,_,rfl,gM (k:=Sum.inr q.1) (sm _ _ hp) a1.gv,_,_,rfl,rfl,_,rfl,_,_,rfl,rfl,.inl ⟨by omega,a4⟩,?_⟩;refine⟨_,hy,by rw[Vd,Vd,Vs,Vo];omega,_,_,_,rfl,bx hD sm,?_⟩;rw[af,zam hq,Vl,Vl];rfl
  rintro τ H2 ⟨v1,v2,v3,rfl,sm,hy⟩
  rw[<- lZ,Vv] at hy;exact⟨D,_,rfl,SqL.of hy,k H2 sm⟩
end
end K64.Sd
namespace K64.Sd
open PySem L2
theorem Le {k:Key}:∀ (kvs m:List (Key×V)),(∀ kv∈kvs,kv.1≠k)->a9 (kvs.foldl eR m) k=a9 m k
 | [],_,_=>rfl
 | kv::r,m,h=>by
  show a9 (r.foldl eR (eR m kv)) k=_;rw[Le r _ fun x hx=>h x (Vt _ hx)];unfold eR;rw[ni,if_neg (Ne.symm (h kv Vz))]
theorem split_at {α:Type}{x:α}:∀ {l:List α}{i:Nat},l[i]?=some x->l=l.take i++x::l.drop (i + 1)
 | y::l,0,h=>by
  obtain rfl:y=x:=Option.some.inj h;rfl
 | y::l,i + 1,h=>by
  show y::l=y::(l.take i++x::l.drop (i + 1));rw[<- split_at (show l[i]?=some x from h)]
theorem val_mkD {kvs:List (Key×V)}{i:Nat}{kv:Key×V} (nd:(kvs.map (·.1)).Nodup) (h:kvs[i]?=some kv):a9 (mkD kvs) kv.1=some kv.2:=by
 have es:=split_at h;generalize kvs.take i=l at es;generalize kvs.drop (i + 1)=r at es;subst es;unfold mkD;rw[Wd];show a9 (r.foldl eR (eR (l.foldl eR []) kv)) kv.1=_;rw[Vl,Wg,Xa,Xp] at nd;rw[Le r _ fun x hx e=>nd.2.1.1 (List.mem_map.mpr ⟨x,hx,e⟩)];unfold eR;rw[ni,if_pos rfl]
def ix (ws:List Str) (n:Str):Int:=(ws.idxOf n:Nat)
theorem ix_at {ws:List Str}{n:Str} (h:n∈ws):ws[ws.idxOf n]?=some n:=by
 have:=WY h;rw[Vg this,List.getElem_idxOf]
def d6:Nat->List Str->List (Key×V)
 | _,[]=>[]
 | i,n::r=>(Sum.inr n,.int (i:Int))::d6 (i + 1) r
theorem FY:∀ (ws:List Str) (i:Nat),(d6 i ws).length=ws.length
 | [],_=>rfl
 | n::r,i=>by show(d6 (i + 1) r).length + 1=_;rw[FY r];rfl
theorem Kw:∀ (ws:List Str) (i:Nat),(d6 i ws).map (·.1)=ws.map Sum.inr
 | [],_=>rfl
 | n::r,i=>by show Sum.inr n::(d6 (i + 1) r).map (·.1)=_;rw[Kw r];rfl
theorem JJ:∀ (ws:List Str) (i j:Nat) (n:Str),ws[j]?=some n->(d6 i ws)[j]?=some (Sum.inr n,.int ((i + j:Nat):Int))
 | x::r,i,0,n,h=>by
  obtain rfl:x=n:=Option.some.inj h;rfl
 | x::r,i,j + 1,n,h=>by
  show(d6 (i + 1) r)[j]?=_;rw[JJ r (i + 1) j n h];congr 3;omega
theorem Kv:∀ (ws:List Str) (i:Nat) (n:Str),d6 i (ws++[n])=d6 i ws++[(Sum.inr n,.int ((i + ws.length:Nat):Int))]
 | [],i,n=>rfl
 | x::r,i,n=>by
  show _::d6 (i + 1) (r++[n])=_::(d6 (i + 1) r++_);rw[Kv r (i + 1) n,Vw,show i + 1 + r.length=i + (r.length + 1) by omega]
def p9 (ws:List Str):List (Key×V):=mkD (d6 0 ws)
theorem TH {ws:List Str} (nd:ws.Nodup){n:Str} (h:n∈ws):a9 (p9 ws) (Sum.inr n)=some (.int (ix ws n)):=by
 have h1:=JJ ws 0 _ n (ix_at h);have bv:((d6 0 ws).map (·.1)).Nodup:=by
  rw[Kw,WO,Yt];rw[WO] at nd;exact nd.imp fun z e=>z (Sum.inr.inj e)
 have:=val_mkD bv h1;rw[XR] at this;exact this
section
variable {P:Program}{w:World}{K:PySem.W.Frag}{mg:Str->Option Value}{base:Heap}{a:Adr}
theorem d9.tk {H H':Hp} (t:Tk H H'):∀ {kvs:List (Key×V)}{ys:List V},d9 K H kvs ys->d9 K H' kvs ys
 | [],_,h=>h
 | _::_,_,h=>by
  obtain⟨q,mQ,e,h1,h2⟩:=h;exact⟨q,mQ,e,t.sqT h1,d9.tk t h2⟩
theorem d9.snoc {H:Hp}{kv:Key×V}{t:Addr} (ht:SqT K H t [kV kv.1,kv.2]):∀ {kvs:List (Key×V)}{ys:List V},d9 K H kvs ys->d9 K H (kvs++[kv]) (ys++[.ref t])
 | [],_,h=>by
  obtain rfl:_=[]:=h;exact⟨t,[],rfl,ht,rfl⟩
 | _::_,_,h=>by
  obtain⟨q,mQ,rfl,h1,h2⟩:=h;exact⟨q,_,rfl,h1,d9.snoc ht h2⟩
theorem d9.len {H:Hp}:∀ {kvs:List (Key×V)}{ys:List V},d9 K H kvs ys->kvs.length=ys.length
 | [],_,h=>by rw[show _=[] from h];rfl
 | _::_,_,h=>by
  obtain⟨q,mQ,rfl,h1,h2⟩:=h;rw[Vw,Vw,d9.len h2]
end
end K64.Sd
namespace K64.Sd
open PySem L2
abbrev Wi:=Int×Int×Int×Int
def wD (q:Wi):Dt:=.tup [.int q.1,.int q.2.1,.int q.2.2.1,.int q.2.2.2]
def wN (hv:Kvs) (mk:Row) (g:Int) (q:Ln):Wi:=(ix mk q.1,ix mk q.2,gv hv q.1 + gv hv q.2 + g,0)
def wL (mk:Row) (n:Nat):Nat->List L3->List Wi
 | _,[]=>[]
 | k,q::r=>(((n + k:Nat):Int),ix mk q.1,(0:Int),q.2.2)::(((n + k:Nat):Int),ix mk q.2.1,(0:Int),q.2.2)::wL mk n (k + 1) r
def wAll (hv:Kvs) (rows:List Row) (ls:List L3) (g:Int):List Wi:=(nbs rows).map (wN hv rows.flatten g)++wL rows.flatten rows.flatten.length 0 ls
theorem Jn (mk:Row) (n:Nat) (q:L3):∀ (k:Nat) (r:List L3),wL mk n k (r++[q])=wL mk n k r++[(((n + (k + r.length):Nat):Int),ix mk q.1,(0:Int),q.2.2),(((n + (k + r.length):Nat):Int),ix mk q.2.1,(0:Int),q.2.2)]
 | k,[]=>rfl
 | k,x::r=>by
  show _::_::wL mk n (k + 1) (r++[q])=_;rw[Jn mk n q (k + 1) r,show k + 1 + r.length=k + (x::r).length by rw[Vw];omega];rfl
theorem J9 (mk:Row) (n:Nat):∀ (k:Nat) (r:List L3),(wL mk n k r).length=2 * r.length
 | _,[]=>rfl
 | k,x::r=>by
  show(wL mk n (k + 1) r).length + 1 + 1=_;rw[J9 mk n (k + 1) r,Vw];omega
section
variable {P:Program}{w:World}{K:PySem.W.Frag}{mg:Str->Option Value}{base:Heap}{a:Adr}
def Tps (H:Hp) (xs:List V):Prop:=∀ y∈xs,∃ t zs,y=.ref t/\H t=some (.tup zs)
theorem Tps.tk {H H':Hp} (k:Tk H H'){xs:List V} (h:Tps H xs):Tps H' xs:=fun y hy=>by
 obtain⟨t,zs,e1,e2⟩:=h y hy;exact⟨t,zs,e1,k _ _ e2 rfl⟩
theorem Tps.snoc {H:Hp}{xs:List V} (h:Tps H xs){t:Addr}{zs:List V} (e:H t=some (.tup zs)):Tps H (xs++[.ref t]):=fun y hy=>by
 rcases XW.mp hy with hy|hy
 ·exact h y hy
 ·exact⟨t,zs,W7.mp hy,e⟩
def WTp (K:PySem.W.Frag) (H:Hp) (l:Addr) (ws:List Wi):Prop:=∃ xs,H l=some (.lst xs)/\aN K H (ws.map wD) xs/\Tps H xs
def QQ:Sp:=fun vs H Q _=>∃ l rs rows,vs=[.ref l]/\H l=some (.lst ((rs:List Addr).map V.ref))/\Rw H rs rows/\rows.flatten.length<=300/\∀ d H',ad H H'->H d=none->H' d=some (.lst (rows.flatten.map V.str))->Q (.ref d) H'
theorem JG {rows:List Row}{i:Nat}{row:Row} (h:rows[i]?=some row):(rows.take (i + 1)).flatten=(rows.take i).flatten++row:=by
 rw[zam h,WT];simp
theorem Si (rows:List Row) (i:Nat):(rows.take i).flatten.length<=rows.flatten.length:=by
 have:rows.flatten=(rows.take i).flatten++(rows.drop i).flatten:=by rw[<- WT,List.take_append_drop]
 rw[this,VD];omega
set_option maxHeartbeats 4000000 in
theorem ok_marks_in_line (T:Tx K mg a):Cal P w K mg base CX0 1 "marks_in_line" ["rows"] [] QQ:=T.d_marks_in_line.cal fun f fd F=>by
 refine F.ok FX (fun vs H Q E h=>?_) (fun aJ A outer s H vs Q E hr h=>?_)
 ·obtain⟨l,rs,rows,rfl,_⟩:=h
  rfl
 ·obtain⟨l,rs,rows,rfl,hl,hw,tP,k⟩:=h
  refine⟨_,(ao (aR (i:=1) FX.nd rfl (.inl rfl) (c7 ah))
   (ao (c6 PassesOwn.never rfl (bU (pv 0)) (aB (i:=2) FX.nd rfl (.inl rfl)) (aA (fw (iF PySem.F.plainAttrs_list PySem.F.slot_list_extend PySem.F.type_list_extend Fh (pv 1) (ae (pv 2) ah)))))
   (aA (bM (pv 1))))),?_⟩
  refine⟨(by show 0<=sizeLine;decide),fun g ng=>?_⟩;have s1:ad H (upd H g (.lst [])):=ad.new ng;have h1:upd H g (.lst []) g=some (.lst []):=af;generalize upd H g (.lst [])=H1 at s1 h1 ⊢;refine⟨_,rfl,l,rfl,⟨_,SqL.of (s1 _ _ hl)⟩,jC (K:=K) (a:=l) (xs:=rs.map V.ref) (fun i σ H'=>∃ v2,σ=[some (.ref l),some (.ref g),v2]/\ad H H'/\H' g=some (.lst ((rows.take i).flatten.map V.str)))
   ⟨none,rfl,s1,h1⟩ ?_ ?_ ?_⟩
  ·rintro i σ H' _ ⟨_,rfl,sm,_⟩
   exact SqL.of (sm _ _ hl)
  ·rintro i x σ H' hx ⟨v2,rfl,sm,hg⟩
   obtain⟨r,io,rfl⟩:=Go hx;obtain⟨row,aX,gB⟩:=hw.at io;have f1:=Si rows (i + 1);rw[JG aX,VD] at f1;dsimp only[bJ];refine⟨_,rfl,.inl ⟨rfl,_,SqL.of hg⟩,_,rfl,g,r,_,_,rfl,rfl,hg,sm _ _ gB,by rw[Vd,Vd,Vo];omega,?_⟩;refine⟨_,rfl,bx ng sm,?_⟩;rw[af,JG aX,Vl]
  ·rintro σ H' ⟨v2,rfl,sm,hg⟩
   rw[Vd,hw.len,Vv] at hg;exact⟨_,rfl,k g H' sm ng hg⟩
def S7 (K:PySem.W.Frag) (a:Adr):Sp:=fun vs H Q E=>∃ l rs rows h hv m ls g,vs=[.ref l,.ref h,.ref m,.int g]/\H l=some (.lst ((rs:List Addr).map V.ref))/\Rw H rs rows/\rows.length<=30/\rows.flatten.length<=60/\rows.flatten.Nodup/\H h=some (.dK hv)/\(∀ s∈rows.flatten,Has hv s)/\L3At K H m ls/\ls.length<=60/\(∀ q∈ls,q.1∈rows.flatten/\q.2.1∈rows.flatten) /\
 (rows.flatten.length<=40/\ls.length<=40->∀ t x H',ad H H'->H t=none->H x=none->H' t=some (.tup [.int ((rows.flatten.length:Int) + ls.length),.ref x])->WTp K H' x (wAll hv rows ls g)->Q (.ref t) H') /\
 (40<rows.flatten.length\/40<ls.length->∀ H',ad H H'->E (.ref a.TooMany) none H')
set_option maxHeartbeats 8000000 in
theorem ok_asked (T:Tx K mg a):Cal P w K mg base (CXe P w) 2 "asked" ["rows","halves","lines","gap"] [] (S7 K a):=T.d_asked.cal fun f fd F=>by
 have aV:=ok_marks_in_line (P:=P) (w:=w) (base:=base) T;have bh:=KD (P:=P) (w:=w) (base:=base) T;have dS:=LN (P:=P) (w:=w) (base:=base) T;refine F.okX qN (fun vs H Q E h=>?_) (fun aJ A outer s H vs Q E hr h=>?_)
 ·obtain⟨l,rs,rows,h,hv,m,ls,g,rfl,_⟩:=h
  rfl
 ·obtain⟨l,rs,rows,h,hv,m,ls,g,rfl,hl,hw,w5,DZ,nd,hh,has,⟨xl,hm,my⟩,d4,hin,k1,k2⟩:=h
  have lZ:ls.length=xl.length:=by rw[<- my.length,Vd]
  refine⟨_,(ao (aR (i:=4) qN.nd rfl (by first|exact Or.inl rfl|exact Or.inr rfl) (aZ aV (hr.mono (by decide)) rfl (ae (pv 0) ah)))
   (ao (fu (PW.pt (Fv (dH mY (cC eQ rfl T.n_len eS (ae (pv 4) ah)) (rH rfl T.k_MOST_MARKS) (bY _)) (FN (dH mY (cC eQ rfl T.n_len eS (ae (pv 2) ah)) (rH rfl T.k_MOST_LINES) (bY _))))) (aA (FT pT T.x_TooMany rfl T.g_TooMany)) fZ)
   (ao (aR (i:=5) qN.nd rfl (by first|exact Or.inl rfl|exact Or.inr rfl) (Gh SY rfl T.n_dict Fo (ae (d7 (N:=["number","mark"]) (cap:=[none,none]) rfl (cF (osc:=aq pP) (XN:=["rows","halves","lines","gap","marks","numbers","wishes","helper","line"]) rfl rfl (by decide +kernel)) (pO rfl T.n_enumerate (ae (pv 4) ah)) (fun cl C s H fp aa=>(ld (K:=K) (n:=2) rfl rfl (aU (aB (i:=0) (show(["number","mark"]:List Str).Nodup by decide +kernel) rfl (by first|exact Or.inl rfl|exact Or.inr rfl)) (aU (aB (i:=1) (show(["number","mark"]:List Str).Nodup by decide +kernel) rfl (by first|exact Or.inl rfl|exact Or.inr rfl)) cM)))) (fun cl C s H fp aa=>cZ) (fun cl C s H fp aa=>(gZ (ae (pv 1) (ae (pv 0) ah))))) ah)))
   (ao (rE (i:=6) qN.nd rfl rfl (N:=["left","right","numbers","halves","gap"]) (cap:=[none,none,some 5,some 1,some 3]) rfl (cF (osc:=aq pP) (XN:=["rows","halves","lines","gap","marks","numbers","wishes","helper","line"]) rfl rfl (by decide +kernel)) (bU (aZ bh (hr.mono (by decide)) rfl (ae (pv 0) ah))) (fun cl C s H fp aa=>(ld (K:=K) (n:=2) rfl rfl (aU (aB (i:=0) (show(["left","right","numbers","halves","gap"]:List Str).Nodup by decide +kernel) rfl (by first|exact Or.inl rfl|exact Or.inr rfl)) (aU (aB (i:=1) (show(["left","right","numbers","halves","gap"]:List Str).Nodup by decide +kernel) rfl (by first|exact Or.inl rfl|exact Or.inr rfl)) cM)))) (fun cl C s H fp aa=>cZ) (fun cl C s H fp aa=>(gZ (ae (cL (bu hr) (pv 2) (pv 0) (fun _ _=>rfl)) (ae (cL (bu hr) (pv 2) (pv 1) (fun _ _=>rfl)) (ae (aZ dS (hr.mono (by decide)) rfl (ae (pv 3) (ae (pv 4) (ae (pv 0) (ae (pv 1) ah))))) (ae ak ah)))))) (hsw:=rfl))
   (ao (c6 PassesOwn.leaving rfl (Rq rfl T.n_enumerate (ae (pv 2) ah) (cC eQ rfl T.n_len eS (ae (pv 4) ah))) (fE rfl (aU (aB (i:=7) qN.nd rfl (by first|exact Or.inl rfl|exact Or.inr rfl)) (aU (aB (i:=8) qN.nd rfl (by first|exact Or.inl rfl|exact Or.inr rfl)) cM))) (ao (fw (iF PySem.F.plainAttrs_list PySem.F.slot_list_append PySem.F.type_list_append nv (pv 6) (ae (gZ (ae (pv 7) (ae (cL (bu hr) (pv 5) (aL eW (pv 8) ak (fun _ _=>rfl)) (fun _ _=>rfl)) (ae ak (ae (aL eW (pv 8) ak (fun _ _=>rfl)) ah))))) ah)))
   (aA (fw (iF PySem.F.plainAttrs_list PySem.F.slot_list_append PySem.F.type_list_append nv (pv 6) (ae (gZ (ae (pv 7) (ae (cL (bu hr) (pv 5) (aL eW (pv 8) ak (fun _ _=>rfl)) (fun _ _=>rfl)) (ae ak (ae (aL eW (pv 8) ak (fun _ _=>rfl)) ah))))) ah))))))
   (aA (bM (gZ (ae (ay cu (cC eQ rfl T.n_len eS (ae (pv 4) ah)) (cC eQ rfl T.n_len eS (ae (pv 2) ah))) (ae (pv 6) ah)))))))))),?_⟩
  refine⟨_,rfl,l,rs,rows,rfl,hl,hw,by omega,fun mA H1 s1 Of mO=>?_⟩;refine⟨_,rfl,mA,_,rfl,.inl (SqL.of mO),_,_,rfl,rfl,_,rfl,?_⟩;refine cS (fun c1=>?_) (fun c1=>?_)
  ·have b1:40<rows.flatten.length:=by
    have:=VA c1;rw[Vd] at this;omega
   exact gb ⟨by show 0<=sizeLine;decide,k2 (.inl b1) H1 s1⟩
  have b1:rows.flatten.length<=40:=by
   have:=VY c1;rw[Vd] at this;omega
  refine⟨_,rfl,m,_,rfl,.inl (SqL.of (s1 _ _ hm)),_,_,rfl,rfl,_,rfl,?_⟩;refine cS (fun c2=>?_) (fun c2=>?_)
  ·have b2:40<ls.length:=by
    have:=VA c2;omega
   exact⟨by show 0<=sizeLine;decide,k2 (.inr b2) H1 s1⟩
  have b2:ls.length<=40:=by
   have:=VY c2;omega
  have k:=k1 ⟨b1,b2⟩;generalize hmk:rows.flatten=mk at mO nd has hin b1 k DZ;refine⟨_,rfl,mA,rfl,⟨_,SqL.of mO⟩,fun D hD=>?_⟩;refine Qs (K:=K) (l:=mA) (xs:=mk.map V.str) (fun j τ H'=>∃ v1 v2 us,τ=[v1,v2]/\ad H1 H'/\H' D=some (.lst us)/\d9 K H' (d6 0 (mk.take j)) us) ⟨none,none,[],rfl,ad.new hD,af,by rw[W8];rfl⟩ ?_ ?_ ?_
  ·rintro j τ H' _ ⟨_,_,_,rfl,sm,_⟩
   exact SqL.of (sm _ _ mO)
  ·rintro j y tt τ H' hy nt ⟨v1,v2,us,rfl,sm,Pr,IL⟩
   obtain⟨n,hn,rfl⟩:=qc hy;have hj:j<mk.length:=(List.getElem?_eq_some_iff.mp hn).1;have ul:us.length<=j:=by
    rw[<- d9.len IL,FY,Vs];omega
   have s3:ad H' (upd H' tt (.tup [.int j,.str n])):=ad.new nt;have GG:upd H' tt (.tup [.int j,.str n]) tt=some (.tup [.int j,.str n]):=af;generalize upd H' tt (.tup [.int j,.str n])=H3 at s3 GG ⊢;refine⟨tt,_,rfl,SqT.of GG,rfl,_,_,rfl,_,_,rfl,rfl,?_⟩;refine⟨_,rfl,_,rfl,(by show 2<=sizeLine;decide),fun z nz=>?_⟩;have s4:ad H3 (upd H3 z (.tup [.str n,.int j])):=ad.new nz;have IT:upd H3 z (.tup [.str n,.int j]) z=some (.tup [.str n,.int j]):=af;generalize upd H3 z (.tup [.str n,.int j])=H4 at s4 IT ⊢;have t4:=s3.trans s4;have Ix:=t4 _ _ Pr;have tk:Tk H4 (upd H4 D (.lst (us++[.ref z]))):=Tk.upd Ix rfl;refine⟨_,Ix,by rw[Vo];omega,_,_,_,rfl,bx hD (sm.trans t4),af,?_⟩;rw[zam hn,Kv,Vs,XV (Xg hj),XR];exact d9.snoc (kv:=(Sum.inr n,.int (j:Int))) (tk.sqT (SqT.of IT)) (((Tk.of t4).trans tk |> fun t=>d9.tk t IL))
  rintro τ H2 ⟨v1,v2,us,rfl,s2,Nj,p2⟩
  rw[Vd,Vv] at p2;refine⟨D,us,d6 0 mk,rfl,SqL.of Nj,p2,by rw[FY];omega,fun d bv=>?_⟩;have s3:ad H2 (upd H2 d (.dK (p9 mk))):=ad.new bv;have Ea:upd H2 d (.dK (p9 mk)) d=some (.dK (p9 mk)):=af
  change upd H2 d (.dK (mkD (d6 0 mk))) d=_ at Ea
  change ad H2 (upd H2 d (.dK (mkD (d6 0 mk)))) at s3
  generalize upd H2 d (.dK (mkD (d6 0 mk)))=H3 at s3 Ea ⊢;have t3:=s1.trans (s2.trans s3);have num:∀ n∈mk,a9 (p9 mk) (Sum.inr n)=some (.int (ix mk n)):=fun n hn=>TH nd hn
  dsimp only[bJ];have gR:∀ row∈rows,row.length<=60:=fun row hr=>by
   have:row.length<=rows.flatten.length:=(WZ hr).length_le;rw[hmk] at this;omega
  refine⟨_,rfl,l,rs,rows,rfl,t3 _ _ hl,hw.same t3,w5,gR,fun nA H4 s4 OP GU=>?_⟩;obtain⟨xn,mz,HP⟩:=OP;have NN:(nbs rows).length=xn.length:=by rw[<- HP.length,Vd]
  have lP:∀ q∈nbs rows,q.1∈mk/\q.2∈mk:=fun q hq=>by
   obtain⟨row,hr,m1,m2⟩:=nbs_mem hq;rw[<- hmk];exact⟨List.mem_flatten.mpr ⟨row,hr,m1⟩,List.mem_flatten.mpr ⟨row,hr,m2⟩⟩
  have t4:=t3.trans s4;have wH:=s4 _ _ Ea;refine⟨nA,rfl,⟨_,SqL.of mz⟩,fun x nx=>?_⟩;have DI:=none_of t4 nx;refine eP (K:=K) (a:=nA) (xs:=xn) (fun i τ G=>∃ v1 v2 ys,τ=[v1,v2,some (.ref d),some (.ref h),some (.int g)]/\ad H4 G/\G x=some (.lst ys)/\aN K G ((((nbs rows).take i).map (wN hv mk g)).map wD) ys/\Tps G ys) ⟨none,none,[],rfl,ad.new nx,af,rfl,fun y hy=>by cases hy⟩ ?_ ?_ ?_
  ·rintro i τ G _ ⟨_,_,_,rfl,sg,_⟩
   exact SqL.of (sg _ _ mz)
  ·rintro i y τ G hy ⟨v1,v2,ys,rfl,sg,hg,o9,Oz⟩
   have hi:i<xn.length:=(List.getElem?_eq_some_iff.mp hy).1;obtain⟨q,hq,dq⟩:=eX HP hy;obtain⟨tq,rfl,DY⟩:=un_ln (sg.dt dq);obtain⟨q1,q2⟩:=lP q (Vj hq);have ky:ys.length<=1800:=by
    have e:=o9.length;rw[Vd,Vd,Vs] at e;omega
   dsimp only[c5];refine⟨tq,_,rfl,DY,rfl,_,_,rfl,_,_,rfl,rfl,?_⟩;refine gb ?_;refine⟨_,rfl,_,rfl,d,_,rfl,gM (k:=Sum.inr q.1) (sg _ _ wH) (num _ q1),_,rfl,_,rfl,d,_,rfl,gM (k:=Sum.inr q.2) (sg _ _ wH) (num _ q2),_,rfl,_,rfl,_,rfl,_,rfl,h,g,q.1,q.2,hv,rfl,sg _ _ (t4 _ _ hh),has _ q1,has _ q2,(by show 4<=sizeLine;decide),fun z nz=>?_⟩;have s5:ad G (upd G z (.tup [.int (ix mk q.1),.int (ix mk q.2),.int (gv hv q.1 + gv hv q.2 + g),.int 0])):=ad.new nz;have h5:upd G z (.tup [.int (ix mk q.1),.int (ix mk q.2),.int (gv hv q.1 + gv hv q.2 + g),.int 0]) z=some (.tup [.int (ix mk q.1),.int (ix mk q.2),.int (gv hv q.1 + gv hv q.2 + g),.int 0]):=af;generalize upd G z (.tup [.int (ix mk q.1),.int (ix mk q.2),.int (gv hv q.1 + gv hv q.2 + g),.int 0])=G5 at s5 h5 ⊢;refine⟨_,s5 _ _ hg,by rw[Vo];omega,_,_,_,rfl,bx nx (sg.trans s5),af,?_,(((Oz.tk (Tk.of s5)).tk (Tk.upd (s5 _ _ hg) rfl)).snoc ((Tk.upd (s5 _ _ hg) rfl) _ _ h5 rfl))⟩;rw[zam hq,Vl,Vl];have kp:Tk G5 (upd G5 x (.lst (ys++[.ref z]))):=Tk.upd (s5 _ _ hg) rfl;exact aN.snoc (d:=wD (wN hv mk g q)) (kp.dt rfl ⟨z,_,rfl,SqT.of h5,_,_,rfl,rfl,_,_,rfl,rfl,_,_,rfl,rfl,_,_,rfl,rfl,rfl⟩) (kp.dts (dz (fun _=>rfl) _) (s5.dts o9))
  rintro τ H5 ⟨UG,Us,ys,rfl,s5,h5,o9,Di⟩
  rw[<- NN,Vv] at o9;have t5:=t4.trans s5;have wx:=s5 _ _ wH;have wB:=s5 _ _ (s4 _ _ (s3 _ _ (s2 _ _ mO)));have UH:ys.length<=1800:=by
   have e:=o9.length;rw[Vd,Vd] at e;omega
  refine⟨_,rfl,_,rfl,mA,_,rfl,.inl (SqL.of wB),m,mk.length,rfl,by rw[Vd],by omega,⟨_,SqL.of (t5 _ _ hm)⟩,R8 (K:=K) (l:=m) (xs:=xl) (fun i σ G=>∃ v7 v8 zs,σ=[some (.ref l),some (.ref h),some (.ref m),some (.int g),some (.ref mA),some (.ref d),some (.ref x),v7,v8]/\ad H G/\G mA=some (.lst (mk.map V.str))/\G d=some (.dK (p9 mk))/\G x=some (.lst zs)/\aN K G (((nbs rows).map (wN hv mk g)++wL mk mk.length 0 (ls.take i)).map wD) zs/\Tps G zs)
   ⟨none,none,ys,rfl,t5,wB,wx,h5,by rw[W8];show aN K H5 (((nbs rows).map (wN hv mk g)++[]).map wD) ys;rw[WN];exact o9,Di⟩ ?_ ?_ ?_⟩
  ·rintro i σ G _ ⟨_,_,_,rfl,sg,_⟩
   exact SqL.of (sg _ _ hm)
  ·rintro i y tt σ G hy nt ⟨v7,v8,zs,rfl,sg,gm,gd,gx,ic,CU⟩
   have hi:i<xl.length:=(List.getElem?_eq_some_iff.mp hy).1;obtain⟨q,hq,dq⟩:=eX my hy;obtain⟨tq,rfl,DY⟩:=un_l3 (sg.dt dq);obtain⟨q1,q2⟩:=hin q (Vj hq);have kz:zs.length<=1800 + 2 * i:=by
    have e:=ic.length;have e2:=o9.length;rw[Vd,VD,Vd,J9,Vs] at e;rw[Vd,Vd] at e2;omega
   have s6:ad G (upd G tt (.tup [.int ((mk.length:Int) + i),.ref tq])):=ad.new nt;have h6:upd G tt (.tup [.int ((mk.length:Int) + i),.ref tq]) tt=some (.tup [.int ((mk.length:Int) + i),.ref tq]):=af;generalize upd G tt (.tup [.int ((mk.length:Int) + i),.ref tq])=G6 at s6 h6 ⊢;refine⟨tt,_,rfl,SqT.of h6,rfl,_,_,rfl,_,_,rfl,rfl,?_⟩;have e0:((mk.length:Int) + i)=((mk.length + (0 + (ls.take i).length):Nat):Int):=by
    rw[Vs];omega
   have IB:=s6 _ _ gx;have Nt:=s6.dts ic;have qq:=s6 _ _ gd;have Nz:=s6 _ _ gm;have CH:=s6.sqT DY;refine⟨_,rfl,.inl ⟨rfl,_,SqL.of IB⟩,_,rfl,_,rfl,_,rfl,tq,_,0,_,rfl,rfl,CH,Kl,d,_,rfl,gM (k:=Sum.inr q.1) qq (num _ q1),_,rfl,tq,_,2,_,rfl,rfl,CH,rfl,(by show 4<=sizeLine;decide),fun z nz=>?_⟩;have s7:ad G6 (upd G6 z (.tup [.int ((mk.length:Int) + i),.int (ix mk q.1),.int 0,.int q.2.2])):=ad.new nz;have h7:upd G6 z (.tup [.int ((mk.length:Int) + i),.int (ix mk q.1),.int 0,.int q.2.2]) z=some (.tup [.int ((mk.length:Int) + i),.int (ix mk q.1),.int 0,.int q.2.2]):=af;generalize upd G6 z (.tup [.int ((mk.length:Int) + i),.int (ix mk q.1),.int 0,.int q.2.2])=G7 at s7 h7 ⊢;have Ds:=s7 _ _ IB;refine⟨x,_,_,rfl,rfl,Ds,by rw[Vo];omega,?_⟩;have kp:Tk G7 (upd G7 x (.lst (zs++[.ref z]))):=Tk.upd Ds rfl;have IP:d≠x:=pS (s7 _ _ qq) Ds (by intro e;cases e);have Jc:mA≠x:=(ap (s4 _ _ (s3 _ _ (s2 _ _ mO))) nx);have s8:ad H (upd G7 x (.lst (zs++[.ref z]))):=bx DI (sg.trans (s6.trans s7));have d8:aN K (upd G7 x (.lst (zs++[.ref z]))) (((nbs rows).map (wN hv mk g)++wL mk mk.length 0 (ls.take i)++[(((mk.length + (0 + (ls.take i).length):Nat):Int),ix mk q.1,(0:Int),q.2.2)]).map wD) (zs++[.ref z]):=by
    rw[Vl];refine aN.snoc (d:=wD (((mk.length + (0 + (ls.take i).length):Nat):Int),ix mk q.1,(0:Int),q.2.2)) (kp.dt rfl ⟨z,_,rfl,SqT.of h7,_,_,rfl,?_,_,_,rfl,rfl,_,_,rfl,rfl,_,_,rfl,rfl,rfl⟩) (kp.dts (dz (fun _=>rfl) _) (s7.dts Nt));show V.int _=V.int _;rw[e0]
   have Fb:upd G7 x (.lst (zs++[.ref z])) d=some (.dK (p9 mk)):=by rw[aj IP];exact s7 _ _ qq
   have Gs:upd G7 x (.lst (zs++[.ref z])) mA=some (.lst (mk.map V.str)):=by rw[aj Jc];exact s7 _ _ Nz
   have Jf:Tps (upd G7 x (.lst (zs++[.ref z]))) (zs++[.ref z]):=((CU.tk (Tk.of (s6.trans s7))).tk kp).snoc (kp _ _ h7 rfl);have Ct:upd G7 x (.lst (zs++[.ref z])) x=some (.lst (zs++[.ref z])):=af;have Fc:SqT K (upd G7 x (.lst (zs++[.ref z]))) tq [.str q.1,.str q.2.1,.int q.2.2]:=kp.sqT (s7.sqT CH);generalize upd G7 x (.lst (zs++[.ref z]))=G8 at s8 d8 Fb Gs Ct Fc Jf ⊢;refine⟨_,rfl,.inl ⟨rfl,_,SqL.of Ct⟩,_,rfl,_,rfl,_,rfl,tq,_,1,_,rfl,rfl,Fc,LX,d,_,rfl,gM (k:=Sum.inr q.2.1) Fb (num _ q2),_,rfl,tq,_,2,_,rfl,rfl,Fc,rfl,(by show 4<=sizeLine;decide),fun z' Nu=>?_⟩;have s9:ad G8 (upd G8 z' (.tup [.int ((mk.length:Int) + i),.int (ix mk q.2.1),.int 0,.int q.2.2])):=ad.new Nu;have h9:upd G8 z' (.tup [.int ((mk.length:Int) + i),.int (ix mk q.2.1),.int 0,.int q.2.2]) z'=some (.tup [.int ((mk.length:Int) + i),.int (ix mk q.2.1),.int 0,.int q.2.2]):=af;generalize upd G8 z' (.tup [.int ((mk.length:Int) + i),.int (ix mk q.2.1),.int 0,.int q.2.2])=G9 at s9 h9 ⊢;have GR:=s9 _ _ Ct;refine⟨x,_,_,rfl,rfl,GR,by rw[VD,Vo];show _ + 1<_;omega,?_⟩;have Ah:Tk G9 (upd G9 x (.lst (zs++[.ref z]++[.ref z']))):=Tk.upd GR rfl;refine⟨_,_,_,rfl,bx DI (s8.trans s9),by rw[aj Jc];exact s9 _ _ Gs,by rw[aj IP];exact s9 _ _ Fb,af,?_,((Jf.tk (Tk.of s9)).tk Ah).snoc (Ah _ _ h9 rfl)⟩;rw[zam hq,Jn,<- WH];have e3:∀ (u:List Wi) (p1 p2:Wi),u++[p1,p2]=u++[p1]++[p2]:=fun u p1 p2=>by rw[WH];rfl
   rw[e3,Vl];refine aN.snoc (d:=wD (((mk.length + (0 + (ls.take i).length):Nat):Int),ix mk q.2.1,(0:Int),q.2.2)) (Ah.dt rfl ⟨z',_,rfl,SqT.of h9,_,_,rfl,?_,_,_,rfl,rfl,_,_,rfl,rfl,_,_,rfl,rfl,rfl⟩) (Ah.dts (dz (fun _=>rfl) _) (s9.dts d8));show V.int _=V.int _;rw[e0]
  ·rintro σ G ⟨v7,v8,zs,rfl,sg,gm,gd,gx,ic,CU⟩
   rw[<- lZ,Vv] at ic;refine⟨_,rfl,mA,_,rfl,.inl (SqL.of gm),_,rfl,m,_,rfl,.inl (SqL.of (sg _ _ hm)),_,_,rfl,rfl,_,rfl,(by show 2<=sizeLine;decide),fun t nt=>?_⟩;rw[Vd,<- lZ];have s9:ad G (upd G t (.tup [.int ((mk.length:Int) + ls.length),.ref x])):=ad.new nt;refine k t x _ (sg.trans s9) (none_of sg nt) DI af ?_;refine⟨zs,s9 _ _ gx,?_,CU.tk (Tk.of s9)⟩;unfold wAll;rw[hmk];exact s9.dts ic
end
end K64.Sd
namespace K64.Sd
open PySem L2
section
variable {P:Program}{w:World}{K:PySem.W.Frag}{mg:Str->Option Value}{base:Heap}{a:Adr}
def num (c k:Int):Int:=(c + 7919 * k + 1) * 48271 % 2147483647
def mixed (c k:Int):Int:=num c k * (num c k / 1009 + 69621) % 2147483647
theorem num_lo (c k:Int):0<=num c k:=VW _ (by decide)
theorem num_hi (c k:Int):num c k<2147483647:=V4 _ (by decide)
def RC:Sp:=fun vs H Q _=>∃ c k,vs=[.int c,.int k]/\Q (.int (mixed c k)) H
theorem ok_mixed (T:Tx K mg a):Cal P w K mg base CX0 1 "_law_mixed" ["_law_cell","_law_k"] [] RC:=T.d__law_mixed.cal fun f fd F=>by
 refine F.ok JQ (fun vs H Q E h=>?_) (fun aJ A outer s H vs Q E hr h=>?_)
 ·obtain⟨c,k,rfl,_⟩:=h
  rfl
 ·obtain⟨c,k,rfl,q⟩:=h
  refine⟨_,(ao (aR (i:=2) JQ.nd rfl (.inl rfl) (ay cE (ay jG (ay cu (ay cu (pv 0) (ay jG ak (pv 1))) ak) ak) ak))
   (aA (bM (ay cE (ay jG (pv 2) (ay cu (ay AR (pv 2) ak) ak)) ak)))),?_⟩
  refine⟨_,rfl,_,rfl,_,_,rfl,rfl,.inl ⟨by decide,by decide⟩,_,_,rfl,rfl,_,_,rfl,rfl,_,_,rfl,rfl,.inr ⟨by decide,by decide⟩,_,_,rfl,rfl,(by show(0:Int)<2147483647;decide),?_⟩;have h1:=num_lo c k;have h2:=num_hi c k;refine⟨_,rfl,_,rfl,_,_,rfl,rfl,⟨by decide,by decide⟩,_,_,rfl,rfl,_,_,rfl,rfl,.inl ⟨?_,?_⟩,_,_,rfl,rfl,(by show(0:Int)<2147483647;decide),q⟩
  ·show -(2 ^ 64)<num c k
   omega
  ·show num c k<2 ^ 64
   omega
def Rz (K:PySem.W.Frag):Sp:=fun vs H Q _=>∃ p,∃ ns:List Int,∃ k,vs=[.ref p,.int k]/\SqL K H p (ns.map V.int)/\0<=k/\∀ c,Q (.int c) H
theorem ok_cell_at (T:Tx K mg a):Cal P w K mg base CX0 1 "_law_cell_at" ["_law_script","_law_k"] [] (Rz K):=T.d__law_cell_at.cal fun f fd F=>by
 refine F.ok TK (fun vs H Q E h=>?_) (fun aJ A outer s H vs Q E hr h=>?_)
 ·obtain⟨p,ns,k,rfl,_⟩:=h
  rfl
 ·obtain⟨p,ns,k,rfl,hS,h0,q⟩:=h
  refine⟨_,(ao (fu (dH zM (pv 1) (cC eQ rfl T.n_len eS (ae (pv 0) ah)) (bY _)) (aA (bM (aL bq (pv 0) (pv 1) (fun _ _=>rfl)))) fZ)
   (aA (bM ak))),?_⟩
  refine⟨_,rfl,_,rfl,p,_,rfl,.inl hS,_,_,rfl,rfl,_,rfl,?_⟩;refine cS (fun c=>?_) (fun c=>?_)
  ·have h1:k<ns.length:=by
    have:=VA c
    rwa [Vd] at this
   obtain⟨z,hz⟩:=at_int h0 h1;exact⟨_,rfl,_,rfl,p,_,_,_,rfl,rfl,hS,hz,q z⟩
  ·exact q 0
theorem at_ref {rs:List Addr}{k:Int} (h0:0<=k) (h1:k<rs.length):∃ r,rs[k.toNat]?=some r/\atI (rs.map V.ref) k=some (.ref r):=by
 obtain⟨r,hr⟩:=gJ (l:=rs) (j:=k.toNat) (by omega);refine⟨r,hr,?_⟩;rw[jH h0,Vp,hr];rfl
def m12:Row:=["a","b","ab","3.1","c","10.2","d","ba","e","0.1","f","g"]
def AllS (kvs:Kvs):Prop:=∀ p∈kvs,∃ s i,p=(Sum.inr s,V.int i)
theorem Ky {kvs:Kvs}{s:Str}{v:V} (h:a9 kvs (Sum.inr s)=none):aF kvs (Sum.inr s) v=kvs++[(Sum.inr s,v)]:=by
 unfold aF;rw[rS,h];rfl
structure rC (mk:Row) (rows:List Row) (hv:Kvs):Prop where
 k:rows.length<=4
 k0:0<rows.length
 pm:rows.flatten.Perm mk
 nd:mk.Nodup
 has:∀ s∈mk,Has hv s
 no:∀ s,s∉mk->a9 hv (Sum.inr s)=none
 len:hv.length=mk.length
 flat:AllS hv
 rng:∀ s,0<=gv hv s/\gv hv s<=50
theorem Rc {x k:Int} (h0:0<=x) (h1:x<=50):∃ z,atI [V.int 0,V.int x] (k % 2)=some (.int z)/\0<=z/\z<=50:=by
 rcases Int.emod_two_eq k with e|e <;> rw[e]
 ·exact⟨0,rfl,by decide,by decide⟩
 ·exact⟨x,rfl,h0,h1⟩
theorem KB:∀ {rows:List Row}{i:Nat}{row:Row}{s:Str},rows[i]?=some row->(rows.set i (row++[s])).flatten.Perm (rows.flatten++[s])
 | x::rows,0,row,s,h=>by
  obtain rfl:x=row:=Option.some.inj h;show(x++[s]++rows.flatten).Perm (x++rows.flatten++[s]);rw[WH,WH];exact X7 _ List.perm_append_comm
 | x::rows,i + 1,row,s,h=>by
  show(x++(rows.set i (row++[s])).flatten).Perm (x++rows.flatten++[s]);rw[WH];exact X7 _ (KB (by simpa using h))
theorem rC.put {mk:Row}{rows:List Row}{hv:Kvs} (h:rC mk rows hv){i:Nat}{row:Row}{s:Str}{z:Int} (hr:rows[i]?=some row) (hs:s∉mk) (hz:0<=z/\z<=50):rC (mk++[s]) (rows.set i (row++[s])) (aF hv (Sum.inr s) (.int z)) where
 k:=by rw[VV];exact h.k
 k0:=by rw[VV];exact h.k0
 pm:=(KB hr).trans (h.pm.append_right _)
 nd:=Xa.mpr ⟨h.nd,Xp.mpr ⟨(by simp),Wr⟩,fun x hx y hy e=>hs (by rw[<- W7.mp hy,<- e];exact hx)⟩
 has:=fun t ht=>by
  rcases XW.mp ht with ht|ht
  ·exact(h.has t ht).put
  ·rw[W7.mp ht]
   exact Has.new
 no:=fun t ht=>by
  rw[XW,not_or,W7] at ht;rw[ni,if_neg (fun q=>ht.2 (Sum.inr.inj q))];exact h.no t ht.1
 len:=by rw[Ky (h.no s hs),VD,VD,h.len];rfl
 flat:=fun p hp=>by
  rw[Ky (h.no s hs)] at hp;rcases XW.mp hp with hp|hp
  ·exact h.flat p hp
  ·exact⟨s,z,W7.mp hp⟩
 rng:=fun t=>by
  rw[gv_put];split
  ·exact hz
  ·exact h.rng t
def spRows (K:PySem.W.Frag):Sp:=fun vs H Q _=>∃ p,∃ ns:List Int,vs=[.ref p]/\SqL K H p (ns.map V.int)/\∀ t m l h rs mk rows hv H',ad H H'->H' t=some (.tup [.ref m,.ref l,.ref h])->H' m=some (.lst ((mk:Row).map V.str))->H' l=some (.lst ((rs:List Addr).map V.ref))->Rw H' rs rows->H' h=some (.dK hv)->rC mk rows hv->mk.length<=12->(∀ s∈mk,s∈m12)->rs.Nodup->(∀ r∈rs,r≠l/\r≠m/\r≠h/\H r=none)->l≠m->H l=none->H h=none->H m=none->Q (.ref t) H'
theorem cut_take (xs:List V) (k:Nat):dW xs none (some (k:Int))=xs.take k:=by
 unfold dW;rw[HT.zeI,List.drop_zero,Nat.sub_zero];have e:HT.sIx xs.length xs.length (some (k:Int))=min k xs.length:=by
  unfold HT.sIx;dsimp only;rw[if_neg (by omega),Vn]
 rw[e,<- List.take_eq_take_min]
theorem nd12:m12.Nodup:=by decide +kernel
theorem JO {rs:List Addr}{rows:List Row}{H:Hp} (h:Rw H rs rows){r:Addr} (hr:r∈rs):∃ o,H r=some o:=by
 obtain⟨j,hj⟩:=List.mem_iff_getElem?.mp hr;obtain⟨row,_,e⟩:=h.at hj;exact⟨_,e⟩
set_option maxHeartbeats 4000000 in
theorem ok_rows (T:Tx K mg a):Cal P w K mg base CX0 2 "_law_rows" ["_law_script"] [] (spRows K):=T.d__law_rows.cal fun f fd F=>by
 have ag:=ok_mixed (P:=P) (w:=w) (base:=base) T;have aC:=ok_cell_at (P:=P) (w:=w) (base:=base) T;refine F.ok pG (fun vs H Q E h=>?_) (fun aJ A outer s H vs Q E hr h=>?_)
 ·obtain⟨p,ns,rfl,_⟩:=h
  rfl
 ·obtain⟨p,ns,rfl,hS,k⟩:=h
  refine'⟨_,ao ?s0 ?r0,?sg⟩
  case s0=>exact(aR (i:=1) pG.nd rfl (.inl rfl) (aZ aC (hr.mono (by decide)) rfl (ae (pv 0) (ae ak ah))))
  case r0=>
   refine' ao ?s1 ?r1
   case s1=>
    rw[Ty (i:=2) (xs:=m12)];exact trivial
    case hxs=>rfl
    case hy=>exact pv 1
    case hN=>exact pG.nd
    case hi=>rfl
    case hx=>exact Or.inl rfl
    case hs=>rfl
    case hf=>exact .inr rfl
   case r1=>
    refine' ao ?s2 ?r2
    case s2=>exact(rE (i:=3) pG.nd rfl rfl (N:=["_law_k"]) (cap:=[none]) rfl (cF (osc:=aq rT) (XN:=["_law_script","_law_first","_law_marks","_law_rows_here","_law_halves","_law_k","_law_mark"]) rfl rfl (by decide +kernel)) (AQ rfl T.n_range (ae (ay cu ak (ay cE (ay AR (pv 1) ak) ak)) ah)) (fun cl C s H fp aa=>(aB (i:=0) (show(["_law_k"]:List Str).Nodup by decide +kernel) rfl (.inl rfl))) (fun cl C s H fp aa=>cZ) (fun cl C s H fp aa=>(c7 ah)) (hsw:=rfl))
    case r2=>
     refine' ao ?s3 ?r3
     case s3=>exact(aR (i:=4) pG.nd rfl (.inl rfl) qh)
     case r3=>
      refine' ao ?s4 ?r4
      case s4=>exact(c6 PassesOwn.never rfl (pO rfl T.n_enumerate (ae (pv 2) ah)) (fE rfl (aU (aB (i:=5) pG.nd rfl (.inl rfl)) (aU (aB (i:=6) pG.nd rfl (.inl rfl)) cM))) (ao (fw (iF PySem.F.plainAttrs_list PySem.F.slot_list_append PySem.F.type_list_append nv (aL bq (pv 3) (ay cE (aZ ag (hr.mono (by decide)) rfl (ae (pv 1) (ae (pv 5) ah))) (cC eQ rfl T.n_len eS (ae (pv 3) ah))) (fun _ _=>rfl)) (ae (pv 6) ah)))
   (aA (j6 (bu hr) (pv 4) (pv 6) (aL bq (c7 (ae ak (ae (ay cE (aZ ag (hr.mono (by decide)) rfl (ae (pv 1) (ae (ay cu ak (pv 5)) ah))) ak) ah))) (ay cE (aZ ag (hr.mono (by decide)) rfl (ae (pv 1) (ae (ay cu ak (pv 5)) ah))) ak) (fun _ _=>rfl)) rfl))))
      case r4=>
       exact aA (bM (gZ (ae (pv 2) (ae (pv 3) (ae (pv 4) ah)))))
  case sg=>
  refine⟨_,rfl,p,ns,0,rfl,hS,by decide,fun c=>?_⟩;obtain⟨cj,hcj⟩:∃ j:Nat,c % 13=(j:Int):=⟨(c % 13).toNat,by have:=VW c (show(13:Int)≠0 by decide);omega⟩;obtain⟨mk,hmk,hml12,nd12',in12⟩:∃ mk:Row,dW (m12.map V.str) none (some (c % 13))=mk.map V.str/\mk.length<=12/\mk.Nodup/\∀ s∈mk,s∈m12:=by
   refine⟨m12.take cj,by rw[hcj,cut_take,Yb],?_,nd12.sublist (XC _ _),fun s hs=>W1 hs⟩;rw[Vs];exact Nat.min_le_right _ _
  refine⟨(by show 12<=sizeLine;decide),fun z nz=>?_⟩;have s1:ad H (upd H z (.lst (m12.map V.str))):=ad.new nz;have h1:upd H z (.lst (m12.map V.str)) z=some (.lst (m12.map V.str)):=af;generalize upd H z (.lst (m12.map V.str))=H1 at s1 h1 ⊢;refine⟨_,rfl,_,_,rfl,rfl,(by show(0:Int)<13;decide),_,rfl,z,_,rfl,SqL.of h1,fun m nm=>?_⟩;rw[hmk];have s2:ad H1 (upd H1 m (.lst (mk.map V.str))):=ad.new nm;have h2:upd H1 m (.lst (mk.map V.str)) m=some (.lst (mk.map V.str)):=af;generalize upd H1 m (.lst (mk.map V.str))=H2 at s2 h2 ⊢;have t2:=s1.trans s2;have f0:0<=c / 13 % 4:=VW _ (by decide);have f1:c / 13 % 4<4:=V4 _ (by decide);refine⟨_,rfl,_,_,rfl,rfl,⟨by decide,by decide⟩,_,_,rfl,rfl,(by show(0:Int)<4;decide),_,_,rfl,rfl,_,rfl,by omega,by omega,fun D hD=>?_⟩;refine Ge (n:=(1 + c / 13 % 4).toNat) (fun i τ H'=>∃ v1,∃ rs:List Addr,τ=[v1]/\ad H2 H'/\H' D=some (.lst (rs.map V.ref))/\Rw H' rs (List.replicate i [])/\rs.Nodup/\(∀ r∈rs,H2 r=none/\r≠D)) ⟨none,[],rfl,ad.new hD,af,trivial,Wr,fun r hr=>by cases hr⟩ ?_ ?_
  ·rintro i τ H' hi ⟨v1,rs,rfl,sm,hy,hw,nd,hn⟩
   dsimp only[bJ,c5];rw[if_pos rfl];refine⟨(by show 0<=sizeLine;decide),fun y ny=>?_⟩;have s3:ad H' (upd H' y (.lst [])):=ad.new ny;have h3:upd H' y (.lst []) y=some (.lst (([]:Row).map V.str)):=af;have PN:y≠D:=(ap hy ny).symm;have yn:y∉rs:=fun hz=>by
    obtain⟨o,e⟩:=JO hw hz;rw[ny] at e;cases e
   generalize upd H' y (.lst [])=H3 at s3 h3 ⊢;have e1:(rs.map V.ref).length<=4:=by
    rw[Vd,hw.len,VS];omega
   have all:∀ x∈rs++[y],H2 x=none/\x≠D:=fun x hx=>by
    rcases XW.mp hx with hx|hx
    ·exact hn x hx
    ·rw[W7.mp hx]
     exact⟨none_of sm ny,PN⟩
   refine⟨_,s3 _ _ hy,by rw[Vo];omega,_,rs++[y],rfl,bx hD (sm.trans s3),by rw[af,Vl];rfl,?_,?_,all⟩
   ·rw[show List.replicate (i + 1) ([]:Row)=List.replicate i []++[[]] from List.replicate_succ']
    exact Rw.upd (Rw.snoc h3 (hw.same s3)) fun x hx=>(all x hx).2
   ·exact Xa.mpr ⟨nd,Xp.mpr ⟨(by simp),Wr⟩,fun x hx y' cU e=>yn (by rw[<- W7.mp cU,<- e];exact hx)⟩
  rintro τ H3 ⟨v1,rs,rfl,s3,Im,hw,nd,hn⟩
  have t3:=t2.trans s3;intro hh nh;have s4:ad H3 (upd H3 hh (.dK [])):=ad.new nh;have h4:upd H3 hh (.dK []) hh=some (.dK []):=af;have PH:D≠hh:=ap Im nh;have OL:m≠hh:=ap (s3 _ _ h2) nh;have OE:m≠D:=ap h2 hD;have nr:∀ r∈rs,r≠D/\r≠m/\r≠hh/\H r=none:=fun r hr=>by
   obtain⟨n1,n2⟩:=hn r hr;obtain⟨o,e⟩:=JO hw hr;exact⟨n2,(ap h2 n1).symm,ap e nh,none_of t2 n1⟩
  have hH:H hh=none:=none_of t3 nh;have Nb:H D=none:=none_of t2 hD;generalize upd H3 hh (.dK [])=H4 at s4 h4 ⊢;have ai:=hw.len;rw[VS] at ai;have BC:rC (mk.take 0) (List.replicate (1 + c / 13 % 4).toNat []) []:=⟨by rw[VS];omega,by rw[VS];omega,by rw[W8,List.flatten_replicate_nil],by rw[W8];exact Wr,(fun s hs=>by simp at hs),fun s _=>rfl,by simp,(fun p hp=>by cases hp),fun s=>⟨V1 _,by show(0:Int)<=50;decide⟩⟩;refine⟨_,rfl,m,rfl,⟨_,SqL.of (s4 _ _ (s3 _ _ h2))⟩,rJ (K:=K) (l:=m) (xs:=mk.map V.str) (fun i σ H'=>∃ v5 v6,∃ (rows:List Row) (hv:Kvs),σ=[some (.ref p),some (.int c),some (.ref m),some (.ref D),some (.ref hh),v5,v6]/\ad H H'/\H' m=some (.lst (mk.map V.str))/\H' D=some (.lst (rs.map V.ref))/\Rw H' rs rows/\H' hh=some (.dK hv)/\rC (mk.take i) rows hv)
   ⟨none,none,_,[],rfl,t3.trans s4,s4 _ _ (s3 _ _ h2),s4 _ _ Im,hw.same s4,h4,BC⟩ ?_ ?_ ?_⟩
  ·rintro i σ H' _ ⟨_,_,_,_,rfl,_,vE,_⟩
   exact SqL.of vE
  ·rintro i y tt σ H' hy nt ⟨v5,v6,rows,hv,rfl,sm,vE,ku,An,ET,qm⟩
   obtain⟨s,hs,rfl⟩:=qc hy;have hi:i<mk.length:=(List.getElem?_eq_some_iff.mp hs).1;have s5:ad H' (upd H' tt (.tup [.int i,.str s])):=ad.new nt;have h5:upd H' tt (.tup [.int i,.str s]) tt=some (.tup [.int i,.str s]):=af;generalize upd H' tt (.tup [.int i,.str s])=H5 at s5 h5 ⊢;have Pa:0<rs.length:=by omega
   have j0:0<=mixed c (i:Int) % ((rs.map V.ref).length:Int):=VW _ (by rw[Vd];omega);have j1:mixed c (i:Int) % ((rs.map V.ref).length:Int)<rs.length:=by
    have:=V4 (mixed c (i:Int)) (b:=((rs.map V.ref).length:Int)) (by rw[Vd];omega);rw[Vd] at this ⊢;exact this
   obtain⟨r,nO,fW⟩:=at_ref j0 j1;generalize (mixed c (i:Int) % ((rs.map V.ref).length:Int)).toNat=ix at nO;have Ot:=Vj nO;obtain⟨Mj,PB,NV,Nn⟩:=nr r Ot;obtain⟨row,aX,gB⟩:=(An.same s5).at nO;have U9:ix<rows.length:=(List.getElem?_eq_some_iff.mp aX).1;have tI:row.length<=12:=by
    have:=(WZ (Vj aX)).length_le;rw[qm.pm.length_eq,Vs] at this;omega
   have kh:hv.length<=12:=by rw[qm.len,Vs];omega
   have Oa:s∉mk.take i:=fun z=>by
    obtain⟨j,hj⟩:=List.mem_iff_getElem?.mp z;rw[WE] at hj;by_cases cj:j<i
    ·rw[if_pos cj] at hj
     obtain⟨l1,e1⟩:=List.getElem?_eq_some_iff.mp hj;obtain⟨l2,e2⟩:=List.getElem?_eq_some_iff.mp hs;exact List.pairwise_iff_getElem.mp nd12' j i l1 l2 cj (e1.trans e2.symm)
    ·rw[if_neg cj] at hj
     cases hj
   refine⟨tt,_,rfl,SqT.of h5,rfl,_,_,rfl,_,_,rfl,rfl,?_⟩;refine⟨_,rfl,_,rfl,_,rfl,c,_,rfl,_,rfl,D,_,rfl,.inl (SqL.of (s5 _ _ ku)),_,_,rfl,rfl,(by show(0:Int)<((rs.map V.ref).length:Int);rw[Vd];omega),D,_,_,_,rfl,rfl,SqL.of (s5 _ _ ku),fW,.inl ⟨rfl,_,SqL.of gB⟩,_,rfl,r,_,_,rfl,rfl,gB,by rw[Vd,Vo];omega,?_⟩;have w6:Rw (upd H5 r (.lst (row.map V.str++[.str s]))) rs (rows.set ix (row++[s])):=by
    have:=Rw.put (row:=row++[s]) (An.same s5) nd nO;rw[Vl] at this;exact this
   have s6:ad H (upd H5 r (.lst (row.map V.str++[.str s]))):=bx Nn (sm.trans s5);have Ji:upd H5 r (.lst (row.map V.str++[.str s])) m=some (.lst (mk.map V.str)):=by rw[aj (Ne.symm PB)];exact s5 _ _ vE
   have Id:upd H5 r (.lst (row.map V.str++[.str s])) D=some (.lst (rs.map V.ref)):=by rw[aj (Ne.symm Mj)];exact s5 _ _ ku
   have Jd:upd H5 r (.lst (row.map V.str++[.str s])) hh=some (.dK hv):=by rw[aj (Ne.symm NV)];exact s5 _ _ ET
   generalize upd H5 r (.lst (row.map V.str++[.str s]))=H6 at w6 s6 Ji Id Jd ⊢;obtain⟨y2,Od,y0,PL⟩:=Rc (x:=mixed c (20 + (i:Int)) % 51) (k:=mixed c (40 + (i:Int))) (VW _ (by decide)) (by have:=V4 (mixed c (20 + (i:Int))) (b:=51) (by decide);omega);refine⟨_,rfl,_,rfl,_,_,rfl,rfl,c,_,rfl,_,_,rfl,rfl,(by show(0:Int)<51;decide),(by show 2<=sizeLine;decide),fun q nq=>⟨_,rfl,_,rfl,_,_,rfl,rfl,c,_,rfl,_,_,rfl,rfl,(by show(0:Int)<2;decide),q,_,_,_,rfl,rfl,SqL.of af,Od,_,rfl,_,rfl,hh,_,rfl,nK.k (k:=Sum.inr s) (ad.new nq _ _ Jd) (by rw[Vo];omega),?_⟩⟩;have s7:ad H6 (upd H6 q (.lst [V.int 0,V.int (mixed c (20 + (i:Int)) % 51)])):=ad.new nq;generalize upd H6 q (.lst [V.int 0,V.int (mixed c (20 + (i:Int)) % 51)])=H7 at s7 ⊢;refine⟨_,_,rows.set ix (row++[s]),aF hv (Sum.inr s) (.int y2),rfl,bx hH (s6.trans s7),by rw[aj OL];exact s7 _ _ Ji,by rw[aj PH];exact s7 _ _ Id,?_,af,?_⟩
   ·exact Rw.upd (w6.same s7) fun x hx=>(nr x hx).2.2.1
   ·rw[zam hs]
    exact qm.put aX Oa ⟨y0,PL⟩
  ·rintro σ H' ⟨v5,v6,rows,hv,rfl,sm,vE,ku,An,ET,qm⟩
   rw[Vd,Vv] at qm;refine⟨_,rfl,_,rfl,_,rfl,(by show 3<=sizeLine;decide),fun t nt=>?_⟩;have s8:ad H' (upd H' t (.tup [.ref m,.ref D,.ref hh])):=ad.new nt;exact k t m D hh rs mk rows hv _ (sm.trans s8) af (s8 _ _ vE) (s8 _ _ ku) (An.same s8) (s8 _ _ ET) qm hml12 in12 nd (fun r hr=>⟨(nr r hr).1,(nr r hr).2.1,(nr r hr).2.2.1,(nr r hr).2.2.2⟩) OE.symm Nb hH (none_of s1 nm)
end
end K64.Sd
namespace K64.Sd
open PySem L2
section
variable {P:Program}{w:World}{K:PySem.W.Frag}{mg:Str->Option Value}{base:Heap}{a:Adr}
theorem j4 {am:List Int}{i:Nat}{x:V} (h:(am.map V.int)[i]?=some x):∃ z,am[i]?=some z/\x=.int z:=by
 rw[Vp] at h;cases e:am[i]? with
 | none=>rw[e] at h;cases h
 | some n=>rw[e] at h;exact⟨n,rfl,(Option.some.inj h).symm⟩
theorem at_two {x y c:Int} (hx:0<x) (hy:0<y):∃ z,atI [V.int x,V.int y] (c % 2)=some (.int z)/\0<z/\(z=x\/z=y):=by
 have h0:0<=c % 2:=VW _ (by decide);have h1:c % 2<2:=V4 _ (by decide);rcases(by omega:c % 2=0\/c % 2=1) with e|e
 ·rw[e];exact⟨x,Kl,hx,.inl rfl⟩
 ·rw[e];exact⟨y,LX,hy,.inr rfl⟩
def RJ (K:PySem.W.Frag):Sp:=fun vs H Q _=>∃ p m mk,∃ ns:List Int,vs=[.ref p,.ref m]/\SqL K H p (ns.map V.int)/\ns.length<=63/\H m=some (.lst ((mk:Row).map V.str)) /\
 ∀ r ls H',ad H H'->H r=none->L3At K H' r ls->(∀ q∈ls,q.1∈mk/\q.2.1∈mk/\0<q.2.2/\q.2.2<2 ^ 61)->ls.length<=ns.length->Q (.ref r) H'
set_option maxHeartbeats 4000000 in
theorem ok_lines (T:Tx K mg a):Cal P w K mg base CX0 2 "_law_lines" ["_law_cells","_law_marks"] [] (RJ K):=T.d__law_lines.cal fun f fd F=>by
 have ag:=ok_mixed (P:=P) (w:=w) (base:=base) T;refine F.ok qZ (fun vs H Q E h=>?_) (fun aJ A outer s H vs Q E hr h=>?_)
 ·obtain⟨p,m,mk,ns,rfl,_⟩:=h
  rfl
 ·obtain⟨p,m,mk,ns,rfl,hp,hn,hm,k⟩:=h
  refine⟨_,(ao (aR (i:=2) qZ.nd rfl (.inl rfl) (c7 ah))
   (ao (c6 PassesOwn.never rfl (bU (pv 0)) (aB (i:=3) qZ.nd rfl (.inl rfl)) (aA (fu (dH mY (cC eQ rfl T.n_len eS (ae (pv 1) ah)) ak (bY _)) (ao (aR (i:=4) qZ.nd rfl (.inl rfl) (ay cE (aZ ag (hr.mono (by decide)) rfl (ae (pv 3) (ae ak ah))) (cC eQ rfl T.n_len eS (ae (pv 1) ah))))
   (ao (aR (i:=5) qZ.nd rfl (.inl rfl) (ay cE (ay cu (ay cu (pv 4) ak) (ay cE (aZ ag (hr.mono (by decide)) rfl (ae (pv 3) (ae ak ah))) (ay iE (cC eQ rfl T.n_len eS (ae (pv 1) ah)) ak))) (cC eQ rfl T.n_len eS (ae (pv 1) ah))))
   (ao (aR (i:=6) qZ.nd rfl (.inl rfl) (aL bq (c7 (ae (ay cu ak (ay cE (aZ ag (hr.mono (by decide)) rfl (ae (pv 3) (ae ak ah))) ak)) (ae (ay cu ak (ay cE (pv 3) (ay LZ ak ak))) ah))) (ay cE (aZ ag (hr.mono (by decide)) rfl (ae (pv 3) (ae ak ah))) ak) (fun _ _=>rfl)))
   (aA (fw (iF PySem.F.plainAttrs_list PySem.F.slot_list_append PySem.F.type_list_append nv (pv 2) (ae (gZ (ae (aL bq (pv 1) (pv 4) (fun _ _=>rfl)) (ae (aL bq (pv 1) (pv 5) (fun _ _=>rfl)) (ae (pv 6) ah)))) ah))))))) fZ)))
   (aA (bM (pv 2))))),?_⟩
  refine⟨(by show 0<=sizeLine;decide),fun g ng=>?_⟩;have s1:ad H (upd H g (.lst [])):=ad.new ng;have h1:upd H g (.lst []) g=some (.lst []):=af;generalize upd H g (.lst [])=H1 at s1 h1 ⊢;refine⟨_,rfl,p,rfl,⟨_,s1.sqL hp⟩,jC (K:=K) (a:=p) (xs:=ns.map V.int) (fun i σ H'=>∃ v3 v4 v5 v6 xs,∃ ls:List L3,σ=[some (.ref p),some (.ref m),some (.ref g),v3,v4,v5,v6]/\ad H H'/\H' g=some (.lst xs)/\aN K H' (ls.map l3D) xs/\ls.length<=i/\∀ q∈ls,q.1∈mk/\q.2.1∈mk/\0<q.2.2/\q.2.2<2 ^ 61)
   ⟨none,none,none,none,[],[],rfl,s1,h1,rfl,Vh _,fun q hq=>by cases hq⟩ ?_ ?_ ?_⟩
  ·rintro i σ H' _ ⟨_,_,_,_,_,_,rfl,sm,_⟩
   exact sm.sqL hp
  ·rintro i x σ H' hx ⟨v3,v4,v5,v6,xs,ls,rfl,sm,hg,bp,Eu,hok⟩
   obtain⟨c,hc,rfl⟩:=j4 hx;have hi:i<ns.length:=(List.getElem?_eq_some_iff.mp hc).1;have lx:xs.length<=63:=by
    have:=bp.length;rw[Vd] at this;omega
   dsimp only[bJ];refine⟨_,rfl,m,_,rfl,.inl (SqL.of (sm _ _ hm)),_,_,rfl,rfl,_,rfl,?_⟩;refine cS (fun c1=>?_) (fun c1=>⟨_,_,_,_,xs,ls,rfl,sm,hg,bp,by omega,hok⟩);have CQ:1<mk.length:=by
    have:=VA c1;rw[Vd] at this;omega
   have UT:((mk.map V.str).length:Int)=mk.length:=by rw[Vd]
   refine⟨_,rfl,c,1,rfl,_,rfl,m,_,rfl,.inl (SqL.of (sm _ _ hm)),_,_,rfl,rfl,(by show(0:Int)<((mk.map V.str).length:Int);omega),?_⟩;refine⟨_,rfl,_,_,rfl,rfl,_,rfl,c,2,rfl,_,rfl,m,_,rfl,.inl (SqL.of (sm _ _ hm)),_,_,rfl,rfl,_,_,rfl,rfl,(by show(0:Int)<((mk.map V.str).length:Int) - 1;omega),_,_,rfl,rfl,_,rfl,m,_,rfl,.inl (SqL.of (sm _ _ hm)),_,_,rfl,rfl,(by show(0:Int)<((mk.map V.str).length:Int);omega),?_⟩;have y1:0<1 + mixed c 3 % 9:=by have:=VW (mixed c 3) (show(9:Int)≠0 by decide);omega
   have y2:0<1 + c % 10 ^ Int.toNat 7:=by have:=VW c (show(10 ^ Int.toNat 7:Int)≠0 by decide);omega
   have y3:1 + mixed c 3 % 9<2 ^ 61:=by have:=V4 (mixed c 3) (show(0:Int)<9 by decide);omega
   have y4:1 + c % 10 ^ Int.toNat 7<2 ^ 61:=by
    have:=V4 c (show(0:Int)<10 ^ Int.toNat 7 by decide);have e:(10:Int) ^ Int.toNat 7=10000000:=by decide
    omega
   obtain⟨wt,mw,w0,ww⟩:=at_two (x:=1 + mixed c 3 % 9) (y:=1 + c % 10 ^ Int.toNat 7) (c:=mixed c 4) y1 y2;have w1:wt<2 ^ 61:=by rcases ww with e|e <;> rw[e] <;> assumption
   refine⟨_,rfl,c,3,rfl,_,_,rfl,rfl,(by show(0:Int)<9;decide),_,_,rfl,rfl,_,rfl,_,_,rfl,rfl,⟨by decide,by decide,by decide⟩,_,_,rfl,rfl,(by show(0:Int)<10 ^ Int.toNat 7;decide),_,_,rfl,rfl,(by show 2<=sizeLine;decide),fun z nz=>⟨_,rfl,c,4,rfl,_,_,rfl,rfl,(by show(0:Int)<2;decide),z,_,_,_,rfl,rfl,SqL.of af,mw,?_⟩⟩;have s2:ad H' (upd H' z (.lst [V.int (1 + mixed c 3 % 9),V.int (1 + c % 10 ^ Int.toNat 7)])):=ad.new nz;generalize upd H' z (.lst [V.int (1 + mixed c 3 % 9),V.int (1 + c % 10 ^ Int.toNat 7)])=H2 at s2 ⊢;have t2:=sm.trans s2;have m1:mixed c 1 % ((mk.map V.str).length:Int)<mk.length:=by
    have:=V4 (mixed c 1) (b:=((mk.map V.str).length:Int)) (by omega);omega
   have m0:0<=mixed c 1 % ((mk.map V.str).length:Int):=VW _ (by omega);have n1:(mixed c 1 % ((mk.map V.str).length:Int) + 1 + mixed c 2 % (((mk.map V.str).length:Int) - 1)) % ((mk.map V.str).length:Int)<mk.length:=by
    have:=V4 (mixed c 1 % ((mk.map V.str).length:Int) + 1 + mixed c 2 % (((mk.map V.str).length:Int) - 1)) (b:=((mk.map V.str).length:Int)) (by omega);omega
   have n0:0<=(mixed c 1 % ((mk.map V.str).length:Int) + 1 + mixed c 2 % (((mk.map V.str).length:Int) - 1)) % ((mk.map V.str).length:Int):=VW _ (by omega);obtain⟨su,u1,Pw⟩:=Lv (ss:=mk) m0 m1;obtain⟨sl,u2,MO⟩:=Lv (ss:=mk) n0 n1;refine⟨_,rfl,.inl ⟨rfl,_,SqL.of (s2 _ _ hg)⟩,_,rfl,_,rfl,m,_,_,_,rfl,rfl,SqL.of (t2 _ _ hm),Pw,_,rfl,_,rfl,m,_,_,_,rfl,rfl,SqL.of (t2 _ _ hm),MO,_,rfl,(by show 3<=sizeLine;decide),fun t nt=>?_⟩;have s3:ad H2 (upd H2 t (.tup [.str su,.str sl,.int wt])):=ad.new nt;have h3:upd H2 t (.tup [.str su,.str sl,.int wt]) t=some (.tup [.str su,.str sl,.int wt]):=af;generalize upd H2 t (.tup [.str su,.str sl,.int wt])=H3 at s3 h3 ⊢;have u3:=s2.trans s3;refine⟨g,_,_,rfl,rfl,u3 _ _ hg,by rw[Vo];omega,?_⟩;have kp:Tk H3 (upd H3 g (.lst (xs++[.ref t]))):=Tk.upd (u3 _ _ hg) rfl;refine⟨_,_,_,_,_,ls++[(su,sl,wt)],rfl,bx ng (sm.trans u3),af,?_,by rw[VD];exact Nat.succ_le_succ Eu,fun q hq=>?_⟩
   ·rw[Vl]
    exact aN.snoc (d:=l3D (su,sl,wt)) (kp.dt rfl ⟨t,_,rfl,SqT.of h3,_,_,rfl,rfl,_,_,rfl,rfl,_,_,rfl,rfl,rfl⟩) (kp.dts (dz (fun _=>rfl) _) (u3.dts bp))
   ·rcases XW.mp hq with hq|hq
    ·exact hok q hq
    ·rw[W7.mp hq]
     exact⟨u1,u2,w0,w1⟩
  ·rintro σ H3 ⟨v3,v4,v5,v6,xs,ls,rfl,sm,hg,bp,Eu,hok⟩
   rw[Vd] at Eu;exact⟨_,rfl,k g ls H3 sm ng ⟨xs,hg,bp⟩ hok (by omega)⟩
end
end K64.Sd
namespace K64
open PySem L2
def wN' (hv:Sd.Kvs) (mk:Sd.Row) (g:Int) (q:Sd.Ln):Wt:=(mk.idxOf q.1,mk.idxOf q.2,Sd.gv hv q.1 + Sd.gv hv q.2 + g,0)
def wL' (mk:Sd.Row) (n:Nat):Nat->List Sd.L3->List Wt
 | _,[]=>[]
 | k,q::r=>(n + k,mk.idxOf q.1,0,q.2.2)::(n + k,mk.idxOf q.2.1,0,q.2.2)::wL' mk n (k + 1) r
def wT (hv:Sd.Kvs) (rows:List Sd.Row) (ls:List Sd.L3) (g:Int):List Wt:=(Sd.nbs rows).map (wN' hv rows.flatten g)++wL' rows.flatten rows.flatten.length 0 ls
theorem wL_wI (mk:Sd.Row) (n:Nat):∀ (k:Nat) (r:List Sd.L3),(wL' mk n k r).map wI=Sd.wL mk n k r
 | _,[]=>rfl
 | k,q::r=>by
  show wI (n + k,mk.idxOf q.1,0,q.2.2)::wI (n + k,mk.idxOf q.2.1,0,q.2.2)::(wL' mk n (k + 1) r).map wI=_;rw[wL_wI mk n (k + 1) r];rfl
theorem wT_wI (hv:Sd.Kvs) (rows:List Sd.Row) (ls:List Sd.L3) (g:Int):(wT hv rows ls g).map wI=Sd.wAll hv rows ls g:=by
 unfold wT Sd.wAll;rw[Vl,wL_wI,WL];rfl
theorem AV {mk:Sd.Row}{n:Nat}{x:Wt}:∀ (k:Nat) (r:List Sd.L3),x∈wL' mk n k r->∃ j l,r[j]?=some l/\(x=(n + (k + j),mk.idxOf l.1,0,l.2.2)\/x=(n + (k + j),mk.idxOf l.2.1,0,l.2.2))
 | _,[],h=>by cases h
 | k,q::r,h=>by
  rcases VH.mp h with h|h
  ·exact⟨0,q,rfl,.inl h⟩
  ·rcases VH.mp h with h|h
   ·exact⟨0,q,rfl,.inr h⟩
   ·obtain⟨j,l,hj,e⟩:=AV (k + 1) r h
    refine⟨j + 1,l,hj,?_⟩;rw[show k + (j + 1)=k + 1 + j by omega];exact e
theorem JW (mk:Sd.Row) (n:Nat):∀ (k:Nat) (r:List Sd.L3),(wL' mk n k r).length=2 * r.length
 | _,[]=>rfl
 | k,x::r=>by
  show(wL' mk n (k + 1) r).length + 1 + 1=_;rw[JW mk n (k + 1) r,Vw];omega
def pZ (x:Int):Int:=if x<0 then -x else x
def cst (v:Str->Int) (ls:List Sd.L3):Int:=(ls.map fun q=>q.2.2 * pZ (v q.2.1 - v q.1)).sum
theorem J8 (qv:Sd.Kvs) (ls:List Sd.L3):Sd.costL qv ls=cst (Sd.gv qv) ls:=rfl
theorem P7 (a b:List Wt) (Q:Nat->Int):du (a++b) Q=du a Q + du b Q:=by
 unfold du;rw[Vl,List.sum_append]
theorem Kf (hv:Sd.Kvs) (mk:Sd.Row) (g:Int) (Q:Nat->Int):∀ l:List Sd.Ln,du (l.map (wN' hv mk g)) Q=0
 | []=>rfl
 | q::l=>by
  have ih:=Kf hv mk g Q l;show 0 * (Q (mk.idxOf q.2) - Q (mk.idxOf q.1)) + du (l.map (wN' hv mk g)) Q=0;rw[ih,Yk];rfl
theorem LY (hv:Sd.Kvs) (rows:List Sd.Row) (ls:List Sd.L3) (g:Int) (Q:Nat->Int):du (wT hv rows ls g) Q=du (wL' rows.flatten rows.flatten.length 0 ls) Q:=by
 unfold wT;rw[P7,Kf,Int.zero_add]
theorem QX {w x y h:Int} (w0:0<=w) (h1:h<=x) (h2:h<=y):w * pZ (y - x)<=w * (x - h) + w * (y - h):=by
 rw[<- Yu];refine Xt ?_ w0;unfold pZ;split <;> omega
theorem T4 {w x y:Int}:w * (x - min x y) + w * (y - min x y)=w * pZ (y - x):=by
 rw[<- Yu];congr 1;unfold pZ;split <;> omega
theorem lower {mk:Sd.Row}{n:Nat}{Q:Nat->Int}:∀ (k:Nat) (r:List Sd.L3),mX (wL' mk n k r) Q->(∀ q∈r,0<=q.2.2)->cst (fun s=>Q (mk.idxOf s)) r<=du (wL' mk n k r) Q
 | _,[],_,_=>V1 _
 | k,q::r,hf,h0=>by
  have ih:=lower (k + 1) r (fun x hx=>hf x (Vt _ (Vt _ hx))) fun x hx=>h0 x (Vt _ hx)
  have f1:(0:Int)<=Q (mk.idxOf q.1) - Q (n + k):=hf (n + k,mk.idxOf q.1,0,q.2.2) Vz;have f2:(0:Int)<=Q (mk.idxOf q.2.1) - Q (n + k):=hf (n + k,mk.idxOf q.2.1,0,q.2.2) (Vt _ Vz);have t:=QX (w:=q.2.2) (x:=Q (mk.idxOf q.1)) (y:=Q (mk.idxOf q.2.1)) (h:=Q (n + k)) (h0 q Vz) (by omega) (by omega);show q.2.2 * pZ (Q (mk.idxOf q.2.1) - Q (mk.idxOf q.1)) + cst (fun s=>Q (mk.idxOf s)) r<=q.2.2 * (Q (mk.idxOf q.1) - Q (n + k)) + (q.2.2 * (Q (mk.idxOf q.2.1) - Q (n + k)) + du (wL' mk n (k + 1) r) Q);omega
theorem upper {mk:Sd.Row}{n:Nat}{Q:Nat->Int}:∀ (k:Nat) (r:List Sd.L3),(∀ j l,r[j]?=some l->Q (n + (k + j))=min (Q (mk.idxOf l.1)) (Q (mk.idxOf l.2.1)))->mX (wL' mk n k r) Q/\du (wL' mk n k r) Q=cst (fun s=>Q (mk.idxOf s)) r
 | _,[],_=>⟨fun x hx=>(by cases hx),rfl⟩
 | k,q::r,h=>by
  obtain⟨i1,i2⟩:=upper (Q:=Q) (mk:=mk) (n:=n) (k + 1) r fun j l hj=>by
   have:=h (j + 1) l hj;rw[show k + 1 + j=k + (j + 1) by omega];exact this
  have e:Q (n + k)=min (Q (mk.idxOf q.1)) (Q (mk.idxOf q.2.1)):=h 0 q rfl;refine⟨fun x hx=>?_,?_⟩
  ·rcases VH.mp hx with z|z
   ·rw[z]
    show(0:Int)<=Q (mk.idxOf q.1) - Q (n + k);rw[e];omega
   ·rcases VH.mp z with z|z
    ·rw[z]
     show(0:Int)<=Q (mk.idxOf q.2.1) - Q (n + k);rw[e];omega
    ·exact i1 x z
  ·show q.2.2 * (Q (mk.idxOf q.1) - Q (n + k)) + (q.2.2 * (Q (mk.idxOf q.2.1) - Q (n + k)) + du (wL' mk n (k + 1) r) Q)=q.2.2 * pZ (Q (mk.idxOf q.2.1) - Q (mk.idxOf q.1)) + cst (fun s=>Q (mk.idxOf s)) r
   rw[i2,e,<- T4 (w:=q.2.2)];omega
def ext (mk:Sd.Row) (ls:List Sd.L3) (v:Str->Int) (i:Nat):Int:=match mk[i]? with
 | some s=>v s
 | none=>match ls[i - mk.length]? with
  | some l=>min (v l.1) (v l.2.1)
  | none=>0
theorem rb {mk:Sd.Row}{ls:List Sd.L3}{v:Str->Int}{s:Str} (h:s∈mk):ext mk ls v (mk.idxOf s)=v s:=by
 unfold ext;rw[Sd.ix_at h]
theorem ext_ln {mk:Sd.Row}{ls:List Sd.L3}{v:Str->Int}{j:Nat}{l:Sd.L3} (h:ls[j]?=some l):ext mk ls v (mk.length + j)=min (v l.1) (v l.2.1):=by
 unfold ext;rw[WD (by omega),XU,h]
theorem Lu {v u:Str->Int}{ls:List Sd.L3} (h:∀ q∈ls,v q.1=u q.1/\v q.2.1=u q.2.1):cst v ls=cst u ls:=by
 unfold cst;congr 1;refine Xx fun q hq=>?_
 rw[(h q hq).1,(h q hq).2]
section
variable {hv:Sd.Kvs}{rows:List Sd.Row}{ls:List Sd.L3}{g:Int}
def cq (hv:Sd.Kvs) (rows:List Sd.Row) (g:Int) (v:Str->Int):Prop:=∀ q∈Sd.nbs rows,Sd.gv hv q.1 + Sd.gv hv q.2 + g<=v q.2 - v q.1
theorem Sz {qv:Sd.Kvs}:(Sd.nbs rows).all (Sd.kp1 hv qv g)=true↔cq hv rows g (Sd.gv qv):=by
 rw[Wq];exact⟨fun h q hq=>VA (h q hq),fun h q hq=>VG (h q hq)⟩
theorem FE {q:Sd.Ln} (h:q∈Sd.nbs rows):q.1∈rows.flatten/\q.2∈rows.flatten:=by
 obtain⟨row,hr,m1,m2⟩:=Sd.nbs_mem h;exact⟨List.mem_flatten.mpr ⟨row,hr,m1⟩,List.mem_flatten.mpr ⟨row,hr,m2⟩⟩
theorem FO (d4:∀ q∈ls,q.1∈rows.flatten/\q.2.1∈rows.flatten):∀ x∈wT hv rows ls g,x.1<rows.flatten.length + ls.length/\x.2.1<rows.flatten.length + ls.length:=fun x hx=>by
 have il:∀ {s},s∈rows.flatten->rows.flatten.idxOf s<rows.flatten.length:=fun h=>WY h
 unfold wT at hx;rcases XW.mp hx with z|z
 ·obtain⟨q,hq,rfl⟩:=List.mem_map.mp z
  obtain⟨m1,m2⟩:=FE hq;have:=il m1;have:=il m2;show rows.flatten.idxOf q.1<_/\rows.flatten.idxOf q.2<_;omega
 ·obtain⟨j,l,hj,e⟩:=AV 0 ls z
  have jl:=(List.getElem?_eq_some_iff.mp hj).1;obtain⟨m1,m2⟩:=d4 l (Vj hj);have:=il m1;have:=il m2;rcases e with e|e <;> rw[e] <;> dsimp only <;> omega
theorem JZ (d4:∀ q∈ls,q.1∈rows.flatten/\q.2.1∈rows.flatten){v:Str->Int} (hg:cq hv rows g v):mX (wT hv rows ls g) (ext rows.flatten ls v)/\du (wT hv rows ls g) (ext rows.flatten ls v)=cst v ls:=by
 obtain⟨u1,u2⟩:=upper (mk:=rows.flatten) (n:=rows.flatten.length) (Q:=ext rows.flatten ls v) 0 ls fun j l hj=>by
  obtain⟨m1,m2⟩:=d4 l (Vj hj);rw[XR,ext_ln hj,rb m1,rb m2]
 refine⟨fun x hx=>?_,?_⟩
 ·unfold wT at hx
  rcases XW.mp hx with z|z
  ·obtain⟨q,hq,rfl⟩:=List.mem_map.mp z
   obtain⟨m1,m2⟩:=FE hq;show Sd.gv hv q.1 + Sd.gv hv q.2 + g<=ext rows.flatten ls v (rows.flatten.idxOf q.2) - ext rows.flatten ls v (rows.flatten.idxOf q.1);rw[rb m1,rb m2];exact hg q hq
  ·exact u1 x z
 ·rw[LY,u2]
  exact Lu fun q hq=>⟨rb (d4 q hq).1,rb (d4 q hq).2⟩
def plv (rows:List Sd.Row) (pl:List Int) (s:Str):Int:=fn pl (rows.flatten.idxOf s)
theorem Rh (d4:∀ q∈ls,q.1∈rows.flatten/\q.2.1∈rows.flatten) (h0:∀ q∈ls,0<=q.2.2){pl fl:List Int} (lk:m9 (wT hv rows ls g) (rows.flatten.length + ls.length) pl fl) :
  cq hv rows g (plv rows pl)/\cst (plv rows pl) ls=du (wT hv rows ls g) (fn pl)/\∀ v,cq hv rows g v->cst (plv rows pl) ls<=cst v ls:=by
 have ft:=lk.fit;have gp:cq hv rows g (plv rows pl):=fun q hq=>ft (wN' hv rows.flatten g q) (VN _ (List.mem_map.mpr ⟨q,hq,rfl⟩))
 have up:∀ v,cq hv rows g v->du (wT hv rows ls g) (fn pl)<=cst v ls:=fun v hg=>by
  obtain⟨f,e⟩:=JZ d4 hg;rw[<- e];exact lk.opt (FO d4) f
 have lw:cst (plv rows pl) ls<=du (wT hv rows ls g) (fn pl):=by
  rw[LY];exact lower (mk:=rows.flatten) (Q:=fn pl) 0 ls (fun x hx=>ft x (Vr _ hx)) h0
 have e:=Int.le_antisymm lw (up _ gp);exact⟨gp,e,fun v hg=>by rw[e];exact up v hg⟩
theorem Qg (d4:∀ q∈ls,q.1∈rows.flatten/\q.2.1∈rows.flatten){v:Str->Int} (hg:cq hv rows g v){ring:List Nat} (h:jY (wn (wT hv rows ls g) (rows.flatten.length + ls.length)) ring):False:=h.nofit (JZ d4 hg).1
end
end K64
namespace K64
open PySem L2
def plD (rows:List Sd.Row) (pl:List Int):Sd.Kvs:=mkD ((rows.flatten.map Sum.inr).zip (pl.map V.int))
theorem pl_val {rows:List Sd.Row}{pl:List Int} (nd:rows.flatten.Nodup) (hl:rows.flatten.length<=pl.length){s:Str} (hs:s∈rows.flatten):a9 (plD rows pl) (Sum.inr s)=some (.int (plv rows pl s)):=by
 have e1:=Sd.ix_at hs;have il:=WY hs;have e2:(pl.map V.int)[rows.flatten.idxOf s]?=some (.int (fn pl (rows.flatten.idxOf s))):=by
  unfold fn;rw[Vp,Vf,Vg (show rows.flatten.idxOf s<pl.length by omega)];rfl
 have e3:((rows.flatten.map (Sum.inr:Str->Key)).zip (pl.map V.int))[rows.flatten.idxOf s]?=some (Sum.inr s,.int (fn pl (rows.flatten.idxOf s))):=by
  rw[VQ];exact⟨by rw[Vp,e1];rfl,e2⟩
 have bv:(((rows.flatten.map (Sum.inr:Str->Key)).zip (pl.map V.int)).map (·.1)).Nodup:=by
  rw[show(fun x:Key×V=>x.1)=Prod.fst from rfl,List.map_fst_zip (by rw[Vd,Vd];exact hl),WO,Yt];rw[WO] at nd;exact nd.imp fun z e=>z (Sum.inr.inj e)
 exact Sd.val_mkD bv e3
theorem pl_has {rows:List Sd.Row}{pl:List Int} (nd:rows.flatten.Nodup) (hl:rows.flatten.length<=pl.length){s:Str} (hs:s∈rows.flatten):Sd.Has (plD rows pl) s/\Sd.gv (plD rows pl) s=plv rows pl s:=by
 have e:=pl_val nd hl hs;refine⟨⟨_,e⟩,?_⟩;unfold Sd.gv;rw[e]
theorem K3 (hv:Sd.Kvs) (rows:List Sd.Row) (ls:List Sd.L3) (g:Int):(wT hv rows ls g).length=(Sd.nbs rows).length + 2 * ls.length:=by
 unfold wT;rw[VD,Vd,JW]
theorem FL:∀ rows:List Sd.Row,(Sd.nbs rows).length<=rows.flatten.length
 | []=>Vh _
 | row::rows=>by
  have ih:=FL rows;have e:=Sd.nb_len row;show(Sd.nb row++Sd.nbs rows).length<=(row++rows.flatten).length;rw[VD,VD];omega
theorem wT_wt {hv:Sd.Kvs}{rows:List Sd.Row}{ls:List Sd.L3}{g:Int} (h:∀ q∈ls,0<q.2.2/\q.2.2<2 ^ 61):∀ x∈wT hv rows ls g,0<=x.2.2.2/\x.2.2.2<2 ^ 61:=fun x hx=>by
 unfold wT at hx;rcases XW.mp hx with z|z
 ·obtain⟨q,hq,rfl⟩:=List.mem_map.mp z
  exact⟨V1 _,by show(0:Int)<2 ^ 61;decide⟩
 ·obtain⟨j,l,hj,e⟩:=AV 0 ls z
  obtain⟨h1,h2⟩:=h l (Vj hj);rcases e with e|e <;> rw[e] <;> exact⟨Xq h1,h2⟩
section
variable {P:Program}{w:World}{K:PySem.W.Frag}{mg:Str->Option Value}{base:Heap}{a:Adr}
def spSide (K:PySem.W.Frag) (t:Adr):Sp:=fun vs H Q _=>∃ l rs rows h hv m ls g,vs=[.ref l,.ref h,.ref m,.int g]/\H l=some (.lst ((rs:List Addr).map V.ref))/\Sd.Rw H rs rows/\rows.length<=30/\rows.flatten.length<=40/\rows.flatten.Nodup/\H h=some (.dK hv)/\(∀ s∈rows.flatten,Sd.Has hv s)/\Sd.L3At K H m ls/\ls.length<=40/\(∀ q∈ls,q.1∈rows.flatten/\q.2.1∈rows.flatten)/\(∀ q∈ls,0<q.2.2/\q.2.2<2 ^ 61)/\(∃ v,cq hv rows g v)/\H t.tb_search=some (.tbl p7 pK) /\
 ∀ p d fA pl fl H',ad H H'->H p=none->H d=none->H fA=none->H' p=some (.tup [.ref d,.ref fA])->H' d=some (.dK (plD rows pl))->H' fA=some (.lst ((fl:List Int).map V.int))->Told (wT hv rows ls g) (rows.flatten.length + ls.length) (pl,fl)->m9 (wT hv rows ls g) (rows.flatten.length + ls.length) pl fl->Q (.ref p) H'
set_option maxHeartbeats 8000000 in
theorem Rv (T:Tx K mg a):Cal P w K mg base (CXe P w) 8 "sideways" ["rows","halves","lines","gap"] [] (spSide K a):=T.d_sideways.cal fun f fd F=>by
 have dR:=Sd.ok_asked (P:=P) (w:=w) (base:=base) T;have n9:=PY (P:=P) (w:=w) (base:=base) T;have aV:=Sd.ok_marks_in_line (P:=P) (w:=w) (base:=base) T;refine F.okX FU (fun vs H Q E h=>?_) (fun aJ A outer s H vs Q E hr h=>?_)
 ·obtain⟨l,rs,rows,h,hv,m,ls,g,rfl,_⟩:=h
  rfl
 ·obtain⟨l,rs,rows,h,hv,m,ls,g,rfl,hl,hw,w5,UM,nd,hh,has,hm,d4,hin,mw,⟨v,hg⟩,iV,k⟩:=h
  refine⟨_,(ao (aR (i:=4) FU.nd rfl (.inl rfl) (pV dR pT (hr.mono (by decide)) rfl (ae (pv 0) (ae (pv 1) (ae (pv 2) (ae (pv 3) ah))))))
   (ao (aR (i:=5) FU.nd rfl (.inl rfl) (pV n9 pT (hr.mono (by decide)) rfl (ae (aL eW (pv 4) ak (fun _ _=>rfl)) (ae (aL eW (pv 4) ak (fun _ _=>rfl)) ah))))
   (aA (bM (gZ (ae (Qh rfl T.n_dict rfl T.n_zip (ae (aZ aV (hr.mono (by decide)) rfl (ae (pv 0) ah)) (ae (aL eW (pv 5) ak (fun _ _=>rfl)) ah))) (ae (aL eW (pv 5) ak (fun _ _=>rfl)) ah))))))),?_⟩
  refine⟨_,rfl,_,rfl,_,rfl,_,rfl,l,rs,rows,h,hv,m,ls,g,rfl,hl,hw,w5,by omega,nd,hh,has,hm,by omega,hin,fun _ t x H1 s1 nt nx ht hx=>?_,fun pi=>?_⟩
  case refine_2=>exact(by omega:False).elim
  obtain⟨xs,kE,oh,_⟩:=hx;have len:=K3 hv rows ls g;have nl:=FL rows;have Cy:j7 K H1 x ((wT hv rows ls g).map wI):=by
   rw[wT_wI];exact⟨xs,SqL.of kE,oh⟩
  refine⟨_,rfl,t,_,_,_,rfl,rfl,SqT.of ht,rfl,_,rfl,t,_,_,_,rfl,rfl,SqT.of ht,rfl,x,wT hv rows ls g,rows.flatten.length + ls.length,rfl,Cy,FO hin,wT_wt mw,by omega,by omega,s1 _ _ iV,fun pl fl gt pA fA H2 s2 DH Nw UX qH U4 Po k9 told lk=>?_,fun ring lr dx H2 s2 _ _ told _=>(Qg hin hg told).elim⟩;have t2:=s1.trans s2;have lp:=lk.lp;refine⟨_,rfl,l,rs,rows,rfl,t2 _ _ hl,hw.same t2,by omega,fun mA H3 s3 Of mO=>?_⟩;have wz:=s3 _ _ Nw;refine⟨_,rfl,gt,_,_,_,rfl,rfl,SqT.of wz,rfl,mA,pA,rows.flatten.map Sum.inr,pl.map V.int,rfl,?_,SqL.of (s3 _ _ Po),by rw[Vd,Vd];omega,by rw[Vd];omega,fun d bv=>?_⟩
  ·rw[WL]
   exact SqL.of mO
  have s4:ad H3 (upd H3 d (.dK (plD rows pl))):=ad.new bv;have h4:upd H3 d (.dK (plD rows pl)) d=some (.dK (plD rows pl)):=af
  change ad H3 (upd H3 d (.dK (mkD ((rows.flatten.map Sum.inr).zip (pl.map V.int))))) at s4
  change upd H3 d (.dK (mkD ((rows.flatten.map Sum.inr).zip (pl.map V.int)))) d=_ at h4
  generalize upd H3 d (.dK (mkD ((rows.flatten.map Sum.inr).zip (pl.map V.int))))=H4 at s4 h4 ⊢;have t4:=t2.trans (s3.trans s4);refine⟨_,rfl,gt,_,_,_,rfl,rfl,SqT.of (s4 _ _ wz),rfl,(by show 2<=sizeLine;decide),fun p np=>?_⟩;have s5:ad H4 (upd H4 p (.tup [.ref d,.ref fA])):=ad.new np;have Fa:H fA=none:=none_of s1 qH;exact k p d fA pl fl _ (t4.trans s5) (none_of t4 np) (none_of (t2.trans s3) bv) Fa af (s5 _ _ h4) (s5 _ _ (s4 _ _ (s3 _ _ k9))) told lk
end
end K64
namespace K64
open PySem L2
open Sd (Kvs Row Has gv Rw nb nbs)
def Gp (hv:Kvs) (g:Int) (qv:Kvs) (row:Row) (j:Nat):Prop:=∀ k x y,k + 1<j->row[k]?=some x->row[k + 1]?=some y->gv hv x + gv hv y + g<=gv qv y - gv qv x
theorem Fk {row:Row}{q:Sd.Ln} (h:q∈nb row):∃ k,row[k]?=some q.1/\row[k + 1]?=some q.2:=by
 obtain⟨k,hk⟩:=List.mem_iff_getElem?.mp h;unfold nb at hk;rw[VQ] at hk;refine⟨k,hk.1,?_⟩;have:=hk.2;rw[WX,XJ] at this;exact this
theorem Fy {rows:List Row}{q:Sd.Ln} (h:q∈nbs rows):∃ row∈rows,q∈nb row:=by
 unfold nbs at h;obtain⟨l,hl,hq⟩:=List.mem_flatten.mp h;obtain⟨row,hr,rfl⟩:=List.mem_map.mp hl;exact⟨row,hr,hq⟩
theorem Qj {hv qv:Kvs}{g:Int}{rows:List Row} (h:∀ row∈rows,Gp hv g qv row row.length):cq hv rows g (gv qv):=fun q hq=>by
 obtain⟨row,hr,hq⟩:=Fy hq;obtain⟨k,h1,h2⟩:=Fk hq;exact h row hr k _ _ (List.getElem?_eq_some_iff.mp h2).1 h1 h2
theorem Qb {rows:List Row}{i j:Nat}{row:Row}{s:Str} (nd:rows.flatten.Nodup) (hr:rows[i]?=some row) (hs:row[j]?=some s):(∀ r∈rows.take i,s∉r)/\s∉row.take j:=by
 have e1:=Sd.split_at hr;have e2:=Sd.split_at hs;rw[e1,WT,WG] at nd;rw[Xa] at nd;obtain⟨_,n2,n3⟩:=nd;refine⟨fun r io z=>?_,fun z=>?_⟩
 ·exact n3 s (List.mem_flatten.mpr ⟨r,io,z⟩) s (VN _ (Vj hs)) rfl
 ·rw[Xa] at n2
  have n4:=n2.1;rw[e2,Xa] at n4;exact n4.2.2 s z s Vz rfl
theorem Lf {hv qv:Kvs}{g:Int}{row:Row}{j:Nat}{s:Str}{z:Int} (h:Gp hv g qv row j) (n:s∉row.take j):Gp hv g (aF qv (Sum.inr s) (.int z)) row j:=fun k x y hk hx hy=>by
 have nx:x≠s:=fun e=>n (by
  rw[<- e];refine Vj (i:=k) ?_;rw[WE,if_pos (by omega)];exact hx)
 have ny:y≠s:=fun e=>n (by
  rw[<- e];refine Vj (i:=k + 1) ?_;rw[WE,if_pos (by omega)];exact hy)
 rw[Sd.gv_put,Sd.gv_put,if_neg ny,if_neg nx];exact h k x y hk hx hy
theorem Re {k:Int}:∃ z,atI [V.int 1,V.int 1,V.int 60,V.int 900] (k % 4)=some (.int z)/\0<z:=by
 have h0:=VW k (show(4:Int)≠0 by decide);have h1:=V4 k (show(0:Int)<4 by decide);generalize k % 4=m at h0 h1 ⊢;rcases(by omega:m=0\/m=1\/m=2\/m=3) with e|e|e|e <;> rw[e]
 ·exact⟨1,rfl,by decide⟩
 ·exact⟨1,rfl,by decide⟩
 ·exact⟨60,rfl,by decide⟩
 ·exact⟨900,rfl,by decide⟩
section
variable {P:Program}{w:World}{K:PySem.W.Frag}{mg:Str->Option Value}{base:Heap}{a:Adr}
def Sv:Sp:=fun vs H Q _=>∃ l h rs rows hv,∃ g c:Int,vs=[.ref l,.ref h,.int g,.int c]/\H l=some (.lst ((rs:List Addr).map V.ref))/\Rw H rs rows/\H h=some (.dK hv)/\rows.length<=4/\rows.flatten.Nodup/\(∀ row∈rows,row.length<=12)/\(∀ row∈rows,∀ s∈row,Has hv s) /\
 ∀ d qv H',ad H H'->H' d=some (.dK qv)->(∀ row∈rows,∀ s∈row,Has qv s)->cq hv rows g (gv qv)->Q (.ref d) H'
set_option maxHeartbeats 8000000 in
theorem Sm (T:Tx K mg a):Cal P w K mg base CX0 2 "_law_packed" ["_law_rows_here","_law_halves","_law_gap","_law_cell"] [] Sv:=T.d__law_packed.cal fun f fd F=>by
 have ag:=Sd.ok_mixed (P:=P) (w:=w) (base:=base) T;refine F.ok la (fun vs H Q E h=>?_) (fun aJ A outer s H vs Q E hr h=>?_)
 ·obtain⟨l,h,rs,rows,hv,g,c,rfl,_⟩:=h
  rfl
 ·obtain⟨l,h,rs,rows,hv,g,c,rfl,hl,gP,hh,hk,nd,hm,has,k⟩:=h
  have ai:=gP.len;refine⟨_,(ao (aR (i:=4) la.nd rfl (.inl rfl) qh)
   (ao (c6 PassesOwn.never rfl (pO rfl T.n_enumerate (ae (pv 0) ah)) (fE rfl (aU (aB (i:=5) la.nd rfl (.inl rfl)) (aU (aB (i:=6) la.nd rfl (.inl rfl)) cM))) (ao (aR (i:=7) la.nd rfl (.inl rfl) (ay cE (aZ ag (hr.mono (by decide)) rfl (ae (pv 3) (ae (pv 5) ah))) (aL bq (c7 (ae ak (ae (ay LZ ak ak) ah))) (ay cE (pv 3) ak) (fun _ _=>rfl))))
   (aA (c6 PassesOwn.never rfl (pO rfl T.n_enumerate (ae (pv 6) ah)) (fE rfl (aU (aB (i:=8) la.nd rfl (.inl rfl)) (aU (aB (i:=9) la.nd rfl (.inl rfl)) cM))) (ao (fu (dH mY (pv 8) ak (bY _)) (ao (aR (i:=10) la.nd rfl (.inl rfl) (ay cE (aZ ag (hr.mono (by decide)) rfl (ae (pv 3) (ae (ay cu (ay cu ak (ay jG ak (pv 5))) (pv 8)) ah))) (aL bq (c7 (ae ak (ae ak (ae ak (ae ak ah))))) (ay cE (aZ ag (hr.mono (by decide)) rfl (ae (pv 3) (ae (ay cu (ay cu ak (ay jG ak (pv 5))) (pv 8)) ah))) ak) (fun _ _=>rfl))))
   (aA (aR (i:=7) la.nd rfl (.inl rfl) (ay cu (ay cu (ay cu (ay cu (pv 7) (cL (bu hr) (pv 1) (aL bq (pv 6) (ay iE (pv 8) ak) (fun _ _=>rfl)) (fun _ _=>rfl))) (cL (bu hr) (pv 1) (pv 9) (fun _ _=>rfl))) (pv 2)) (pv 10))))) fZ)
   (aA (j6 (bu hr) (pv 4) (pv 9) (pv 7) rfl)))))))
   (aA (bM (pv 4))))),?_⟩
  intro d qJ;have s1:ad H (upd H d (.dK [])):=ad.new qJ;have h1:upd H d (.dK []) d=some (.dK []):=af;generalize upd H d (.dK [])=H1 at s1 h1 ⊢;refine⟨_,rfl,l,rfl,⟨_,SqL.of (s1 _ _ hl)⟩,rJ (K:=K) (l:=l) (xs:=rs.map V.ref) (fun i σ H'=>∃ v5 v6 v7 v8 v9 qF,∃ qv:Kvs,σ=[some (.ref l),some (.ref h),some (.int g),some (.int c),some (.ref d),v5,v6,v7,v8,v9,qF]/\ad H H'/\H' d=some (.dK qv)/\(∀ row∈rows.take i,∀ s∈row,Has qv s)/\(∀ row∈rows.take i,Gp hv g qv row row.length)/\qv.length<=12 * i)
   ⟨none,none,none,none,none,none,[],rfl,s1,h1,(fun row hr=>by simp at hr),(fun row hr=>by simp at hr),Vh _⟩ ?_ ?_ ?_⟩
  ·rintro i σ H' _ ⟨_,_,_,_,_,_,_,rfl,sm,_⟩
   exact SqL.of (sm _ _ hl)
  ·rintro i y tt σ H' hy nt ⟨v5,v6,v7,v8,v9,qF,qv,rfl,sm,hd,bP,je,AH⟩
   obtain⟨r,io,rfl⟩:=Go hy;obtain⟨row,aX,gB⟩:=gP.at io;have hi:i<rows.length:=(List.getElem?_eq_some_iff.mp aX).1;have tI:=hm row (Vj aX);have iO:=has row (Vj aX);have s2:ad H' (upd H' tt (.tup [.int i,.ref r])):=ad.new nt;have h2:upd H' tt (.tup [.int i,.ref r]) tt=some (.tup [.int i,.ref r]):=af;generalize upd H' tt (.tup [.int i,.ref r])=H2 at s2 h2 ⊢;refine⟨tt,_,rfl,SqT.of h2,rfl,_,_,rfl,_,_,rfl,rfl,?_⟩;obtain⟨md,D3,Ec,_⟩:=Sd.at_two (x:=100) (y:=10 ^ Int.toNat 6) (c:=c) (by decide) (by decide);refine⟨_,rfl,_,rfl,c,_,rfl,_,_,rfl,rfl,⟨by decide,by decide,by decide⟩,(by show 2<=sizeLine;decide),fun z nz=>⟨_,rfl,_,_,rfl,rfl,(by show(0:Int)<2;decide),z,_,_,_,rfl,rfl,SqL.of af,D3,_,_,rfl,rfl,Ec,?_⟩⟩;have s3:ad H2 (upd H2 z (.lst [V.int 100,V.int (10 ^ Int.toNat 6)])):=ad.new nz;generalize upd H2 z (.lst [V.int 100,V.int (10 ^ Int.toNat 6)])=H3 at s3 ⊢;have u3:=s2.trans s3;have t3:=sm.trans u3;have dL:=u3 _ _ hd;refine⟨_,rfl,r,rfl,⟨_,SqL.of (t3 _ _ gB)⟩,rJ (K:=K) (l:=r) (xs:=row.map V.str) (fun j σ G=>∃ (at1:Int) (v8 v9 qF:Option V) (qv:Kvs),σ=[some (.ref l),some (.ref h),some (.int g),some (.int c),some (.ref d),some (.int i),some (.ref r),some (.int at1),v8,v9,qF]/\ad H G/\G d=some (.dK qv)/\(∀ row∈rows.take i,∀ s∈row,Has qv s)/\(∀ row∈rows.take i,Gp hv g qv row row.length)/\(∀ s∈row.take j,Has qv s)/\Gp hv g qv row j/\(∀ s',0<j->row[j - 1]?=some s'->gv qv s'=at1)/\qv.length<=12 * i + j)
    ⟨_,v8,v9,qF,qv,rfl,t3,dL,bP,je,(fun s hs=>by simp at hs),(fun k x y hk=>by omega),(fun s' hj=>by omega),by omega⟩ ?_ ?_ ?_⟩
   ·rintro j σ G _ ⟨_,_,_,_,_,rfl,sg,_⟩
    exact SqL.of (sg _ _ gB)
   ·rintro j y tt σ G hy nt ⟨at1,w8,w9,Iz,qv,rfl,sg,fP,bP,je,eK,zY,IJ,AH⟩
    obtain⟨s,hs,rfl⟩:=qc hy;have hj:j<row.length:=(List.getElem?_eq_some_iff.mp hs).1;obtain⟨NG,Gy⟩:=Qb nd aX hs;have s4:ad G (upd G tt (.tup [.int j,.str s])):=ad.new nt;have h4:upd G tt (.tup [.int j,.str s]) tt=some (.tup [.int j,.str s]):=af;generalize upd G tt (.tup [.int j,.str s])=G4 at s4 h4 ⊢;have t4:=sg.trans s4;refine⟨tt,_,rfl,SqT.of h4,rfl,_,_,rfl,_,_,rfl,rfl,?_⟩;apply joinS (fun x:Int×Option V=>[some (.ref l),some (.ref h),some (.int g),some (.int c),some (.ref d),some (.int i),some (.ref r),some (.int x.1),some (.int j),some (.str s),x.2]) (fun x G'=>ad G4 G'/\∀ s',0<j->row[j - 1]?=some s'->at1 + gv hv s' + gv hv s + g<=x.1)
    case g=>
     intro aP;refine⟨_,rfl,_,_,rfl,rfl,_,rfl,?_⟩;refine cS (fun c1=>?_) (fun c1=>aP (at1,Iz) G4 ⟨ad.refl _,fun s' hj0 _=>?_⟩)
     ·have hj0:0<j:=by have:=VA c1;omega
      obtain⟨mo,MX,Pu⟩:=Re (k:=Sd.mixed c (50 + 7 * (i:Int) + j));refine⟨_,rfl,_,rfl,_,_,rfl,rfl,.inl ⟨by decide,by decide⟩,_,_,rfl,rfl,_,rfl,_,_,rfl,rfl,c,_,rfl,(by show 4<=sizeLine;decide),fun z nz=>⟨_,rfl,_,rfl,_,_,rfl,rfl,.inl ⟨by decide,by decide⟩,_,_,rfl,rfl,_,rfl,_,_,rfl,rfl,c,_,rfl,_,_,rfl,rfl,(by show(0:Int)<4;decide),z,_,_,_,rfl,rfl,SqL.of af,MX,_,_,rfl,rfl,Pu,?_⟩⟩;obtain⟨s',a8⟩:=gJ (l:=row) (j:=j - 1) (by omega);have e1:atI (row.map V.str) ((j:Int) - 1)=some (.str s'):=by
       rw[jH (by omega),show((j:Int) - 1).toNat=j - 1 by omega,Vp,a8];rfl
      have s5:ad G4 (upd G4 z (.lst [V.int 1,V.int 1,V.int 60,V.int 900])):=ad.new nz;generalize upd G4 z (.lst [V.int 1,V.int 1,V.int 60,V.int 900])=G5 at s5 ⊢;have t5:=t4.trans s5;refine⟨_,rfl,_,rfl,_,rfl,_,rfl,_,_,rfl,rfl,r,_,_,_,rfl,rfl,SqL.of (t5 _ _ gB),e1,h,_,rfl,gM (k:=Sum.inr s') (t5 _ _ hh) (iO s' (Vj a8)).gv,_,_,rfl,rfl,_,rfl,_,rfl,h,_,rfl,gM (k:=Sum.inr s) (t5 _ _ hh) (iO s (Vj hs)).gv,_,_,rfl,rfl,_,rfl,_,_,rfl,rfl,_,rfl,_,_,rfl,rfl,?_⟩;dsimp only[bJ];refine aP (_,_) G5 ⟨s5,fun AC _ yu=>?_⟩;rw[a8] at yu;obtain rfl:=Option.some.inj yu;have f0:0<=Sd.mixed c (10 + 7 * (i:Int) + j) % mo:=VW _ (by omega);show at1 + gv hv s' + gv hv s + g<=at1 + gv hv s' + gv hv s + g + Sd.mixed c (10 + 7 * (i:Int) + j) % mo;omega
     ·have:=VY c1
      omega
    case h=>
     rintro⟨ED,Um⟩ G5 ⟨s5,Na⟩
     have u5:=s4.trans s5;refine⟨_,rfl,_,rfl,_,rfl,d,_,rfl,nK.k (k:=Sum.inr s) (u5 _ _ fP) (by rw[Vo];omega),?_⟩;refine⟨ED,_,_,_,aF qv (Sum.inr s) (.int ED),rfl,bx qJ (sg.trans u5),af,fun row hr t ht=>(bP row hr t ht).put,fun dZ io=>Lf (je dZ io) (fun z=>NG dZ io (W1 z)),fun t ht=>?_,fun k x y cX hx hy=>?_,fun s' _ a8=>?_,by have:=rM qv (Sum.inr s) (.int ED);omega⟩
     ·rw[zam hs] at ht
      rcases XW.mp ht with ht|ht
      ·exact(eK t ht).put
      ·rw[W7.mp ht]
       exact Has.new
     ·by_cases e:k + 1<j
      ·exact Lf zY Gy k x y e hx hy
      ·have ek:k + 1=j:=by omega
       rw[ek,hs] at hy;obtain rfl:=Option.some.inj hy;have d5:row[j - 1]?=some x:=by rw[show j - 1=k by omega];exact hx
       have nx:x≠s:=fun z=>Gy (by
        rw[<- z];refine Vj (i:=k) ?_;rw[WE,if_pos (by omega)];exact hx)
       rw[Sd.gv_put,Sd.gv_put,if_pos rfl,if_neg nx,IJ x (by omega) d5];have:=Na x (by omega) d5;dsimp only at this;omega
     ·have e:row[j + 1 - 1]?=some s':=a8
      rw[Nat.add_sub_cancel,hs] at e;obtain rfl:=Option.some.inj e;rw[Sd.gv_put,if_pos rfl]
   ·rintro σ G ⟨at1,w8,w9,Iz,qv,rfl,sg,fP,bP,je,eK,zY,IJ,AH⟩
    rw[Vd] at eK AH zY;rw[Vv] at eK;refine⟨_,_,_,_,_,_,qv,rfl,sg,fP,fun x hx t ht=>?_,fun x hx=>?_,by omega⟩
    ·rw[zam aX] at hx
     rcases XW.mp hx with hx|hx
     ·exact bP x hx t ht
     ·rw[W7.mp hx] at ht
      exact eK t ht
    ·rw[zam aX] at hx
     rcases XW.mp hx with hx|hx
     ·exact je x hx
     ·rw[W7.mp hx]
      exact zY
  ·rintro σ H' ⟨v5,v6,v7,v8,v9,qF,qv,rfl,sm,hd,bP,je,AH⟩
   rw[Vd,ai] at bP je;rw[Vv] at bP je;exact⟨_,rfl,k d qv H' sm hd bP (Qj je)⟩
end
end K64
namespace K64
open PySem L2
open Sd (Kvs Row Has gv Rw nb nbs)
theorem RG (xs:List V) (k:Nat):dW xs (some (k:Int)) none=xs.drop k:=by
 unfold dW;rw[HT.zeI];have e:HT.sIx xs.length 0 (some (k:Int))=min k xs.length:=by
  unfold HT.sIx;dsimp only;rw[if_neg (by omega),Vn]
 rw[e];rcases Nat.le_total k xs.length with z|z
 ·rw[XV z,VM (by rw[Wv];omega)]
 ·rw[Nat.min_eq_right z,Xd (Vh _),Xd z,List.take_nil]
theorem JI {rows:List Row}{i:Nat}{row:Row}{q:Sd.Ln} (nd:rows.flatten.Nodup) (hr:rows[i]?=some row) (hq:q∈nbs rows) (h:q.1∈row\/q.2∈row):∃ m,row[m]?=some q.1/\row[m + 1]?=some q.2:=by
 obtain⟨OK,io,d0⟩:=Fy hq;obtain⟨m1,m2⟩:=Sd.nb_mem d0;obtain⟨i',e'⟩:=List.mem_iff_getElem?.mp io;have ii:i=i':=by
  obtain⟨l1,e1⟩:=List.getElem?_eq_some_iff.mp hr;obtain⟨l2,e2⟩:=List.getElem?_eq_some_iff.mp e';have pw:=(List.pairwise_flatten.mp nd).2;rw[List.pairwise_iff_getElem] at pw;rcases Yr i i' with z|z|z
  ·have dj:=pw i i' l1 l2 z
   rw[e1,e2] at dj;rcases h with h|h
   ·exact(dj _ h _ m1 rfl).elim
   ·exact(dj _ h _ m2 rfl).elim
  ·exact z
  ·have dj:=pw i' i l2 l1 z
   rw[e1,e2] at dj;rcases h with h|h
   ·exact(dj _ m1 _ h rfl).elim
   ·exact(dj _ m2 _ h rfl).elim
 subst ii;rw[hr] at e';obtain rfl:=Option.some.inj e';exact Fk d0
theorem A4 {rows:List Row}{i:Nat}{row:Row} (nd:rows.flatten.Nodup) (hr:rows[i]?=some row):row.Nodup:=(List.pairwise_flatten.mp nd).1 row (Vj hr)
theorem A9 {row:Row} (nd:row.Nodup){m n:Nat}{x:Str} (h1:row[m]?=some x) (h2:row[n]?=some x):m=n:=
 (Ys (List.getElem?_eq_some_iff.mp h1).1 nd).mp (h1.trans h2.symm)
theorem Rb {n:Nat} (ns:List Str):eV n (ns.map Dt.str):=KZ (fun _=>by cases n <;> trivial) _
def Shf (qv aQ:Kvs) (D:Row) (z:Int):Prop:=∀ s,gv aQ s=gv qv s + if s∈D then z else 0
theorem TV {hv qv aQ:Kvs}{g z:Int}{rows:List Row}{i k:Nat}{row:Row} (nd:rows.flatten.Nodup) (hr:rows[i]?=some row) (sh:Shf qv aQ (row.drop k) z) (z0:0<=z) (h:cq hv rows g (gv qv)):cq hv rows g (gv aQ):=fun q hq=>by
 have:=h q hq;have im:q.1∈row.drop k->q.2∈row.drop k:=fun y=>by
  obtain⟨m,e1,e2⟩:=JI nd hr hq (.inl (Xr y));obtain⟨j,ej⟩:=List.mem_iff_getElem?.mp y;rw[WX] at ej;have:=A9 (A4 nd hr) e1 ej;refine Vj (i:=m + 1 - k) ?_;rw[WX,show k + (m + 1 - k)=m + 1 by omega];exact e2
 rw[sh q.1,sh q.2];by_cases c1:q.1∈row.drop k
 ·rw[if_pos c1,if_pos (im c1)]
  omega
 ·rw[if_neg c1]
  split <;> omega
theorem SN {hv qv aQ:Kvs}{g z:Int}{rows:List Row}{i k:Nat}{row:Row} (nd:rows.flatten.Nodup) (hr:rows[i]?=some row) (sh:Shf qv aQ (row.take k) z) (z0:z<=0) (h:cq hv rows g (gv qv)):cq hv rows g (gv aQ):=fun q hq=>by
 have:=h q hq;have im:q.2∈row.take k->q.1∈row.take k:=fun y=>by
  obtain⟨m,e1,e2⟩:=JI nd hr hq (.inr (W1 y));obtain⟨j,ej⟩:=List.mem_iff_getElem?.mp y;rw[WE] at ej;split at ej
  ·have:=A9 (A4 nd hr) e2 ej
   refine Vj (i:=m) ?_;rw[WE,if_pos (by omega)];exact e1
  ·cases ej
 rw[sh q.1,sh q.2];by_cases c1:q.2∈row.take k
 ·rw[if_pos c1,if_pos (im c1)]
  omega
 ·rw[if_neg c1]
  split <;> omega
theorem JU {qv aQ:Kvs}{D:Row}{z:Int}{j:Nat}{s:Str} (nd:D.Nodup) (h:Shf qv aQ (D.take j) z) (hs:D[j]?=some s):Shf qv (aF aQ (Sum.inr s) (.int (gv aQ s + z))) (D.take (j + 1)) z:=fun t=>by
 have n:s∉D.take j:=fun y=>by
  obtain⟨m,em⟩:=List.mem_iff_getElem?.mp y;rw[WE] at em;split at em
  ·have:=A9 nd hs em
   omega
  ·cases em
 have hS:=h s;have hT:=h t;rw[if_neg n] at hS;rw[Sd.gv_put,zam hs];by_cases e:t=s
 ·subst e
  rw[if_pos rfl,if_pos (Vr _ (W7.mpr rfl)),hS];omega
 ·rw[if_neg e,hT]
  congr 1;have:t∈D.take j++[s]↔t∈D.take j:=by
   rw[XW,W7];exact⟨fun y=>y.resolve_right e,.inl⟩
  simp only[this]
section
variable {P:Program}{w:World}{K:PySem.W.Frag}{mg:Str->Option Value}{base:Heap}{a:Adr}
def Ua:Sp:=fun vs H Q _=>∃ l p rs rows qv,∃ c:Int,vs=[.ref l,.ref p,.int c]/\H l=some (.lst ((rs:List Addr).map V.ref))/\Rw H rs rows/\H p=some (.dK qv)/\0<rows.length/\rows.flatten.Nodup/\(∀ row∈rows,row.length<=60)/\(∀ row∈rows,∀ s∈row,Has qv s)/\qv.length<=1000 /\
 ∀ d aQ H',ad H H'->H' d=some (.dK aQ)->(∀ row∈rows,∀ s∈row,Has aQ s)->(∀ hv g,cq hv rows g (gv qv)->cq hv rows g (gv aQ))->Q (.ref d) H'
set_option maxHeartbeats 8000000 in
theorem Qv (T:Tx K mg a):Cal P w K mg base CX0 2 "_law_moved" ["_law_rows_here","_law_places","_law_cell"] [] Ua:=T.d__law_moved.cal fun f fd F=>by
 have ag:=Sd.ok_mixed (P:=P) (w:=w) (base:=base) T;refine F.ok pM (fun vs H Q E h=>?_) (fun aJ A outer s H vs Q E hr h=>?_)
 ·obtain⟨l,p,rs,rows,qv,c,rfl,_⟩:=h
  rfl
 ·obtain⟨l,p,rs,rows,qv,c,rfl,hl,gP,hp,r0,nd,hm,has,kq,k⟩:=h
  have ai:=gP.len;refine⟨_,(ao (aR (i:=3) pM.nd rfl (.inl rfl) (Gh SC rfl T.n_dict Fo (ae (pv 1) ah)))
   (ao (aR (i:=4) pM.nd rfl (.inl rfl) (aL bq (pv 0) (ay cE (aZ ag (hr.mono (by decide)) rfl (ae (pv 2) (ae ak ah))) (cC eQ rfl T.n_len eS (ae (pv 0) ah))) (fun _ _=>rfl)))
   (ao (aR (i:=5) pM.nd rfl (.inl rfl) (ay cu ak (ay cE (aZ ag (hr.mono (by decide)) rfl (ae (pv 2) (ae ak ah))) (aL bq (c7 (ae ak (ae ak ah))) (ay cE (pv 2) ak) (fun _ _=>rfl)))))
   (ao (fu (dH (Jk hr.units) (pv 4) (c7 ah) (bY _)) (ao (aR (i:=6) pM.nd rfl (.inl rfl) (ay cE (aZ ag (hr.mono (by decide)) rfl (ae (pv 2) (ae ak ah))) (cC eQ rfl T.n_len eS (ae (pv 4) ah))))
   (aA (fu (dH qW (ay cE (ay AR (pv 2) ak) ak) ak (bY _)) (aA (c6 PassesOwn.never rfl (bU (q9 rB (pv 4) (nJ (pv 6)) AN)) (aB (i:=7) pM.nd rfl (.inl rfl)) (aA (j6 (bu hr) (pv 3) (pv 7) (ay cu (cL (bu hr) (pv 3) (pv 7) (fun _ _=>rfl)) (pv 5)) rfl)))) (aA (c6 PassesOwn.never rfl (bU (q9 rB (pv 4) AN (nJ (ay cu (pv 6) ak)))) (aB (i:=7) pM.nd rfl (.inl rfl)) (aA (j6 (bu hr) (pv 3) (pv 7) (ay iE (cL (bu hr) (pv 3) (pv 7) (fun _ _=>rfl)) (pv 5)) rfl))))))) fZ)
   (aA (bM (pv 3))))))),?_⟩
  refine⟨_,rfl,p,qv,rfl,hp,fun d qJ=>?_⟩;have s1:ad H (upd H d (.dK qv)):=ad.new qJ;have h1:upd H d (.dK qv) d=some (.dK qv):=af;generalize upd H d (.dK qv)=H1 at s1 h1 ⊢;have rl:((rs.map V.ref).length:Int)=rows.length:=by rw[Vd,ai]
  have i0:0<=Sd.mixed c 1 % ((rs.map V.ref).length:Int):=VW _ (by omega);have i1:Sd.mixed c 1 % ((rs.map V.ref).length:Int)<rs.length:=by
   have:=V4 (Sd.mixed c 1) (b:=((rs.map V.ref).length:Int)) (by omega);omega
  obtain⟨r,nO,fW⟩:=Sd.at_ref i0 i1;generalize (Sd.mixed c 1 % ((rs.map V.ref).length:Int)).toNat=ix at nO;obtain⟨row,aX,gB⟩:=gP.at nO;have tI:=hm row (Vj aX);have iO:=has row (Vj aX);refine⟨_,rfl,_,rfl,c,_,rfl,_,rfl,l,_,rfl,.inl (SqL.of (s1 _ _ hl)),_,_,rfl,rfl,(by show(0:Int)<((rs.map V.ref).length:Int);omega),l,_,_,_,rfl,rfl,SqL.of (s1 _ _ hl),fW,?_⟩;obtain⟨md,D3,Ec,_⟩:=Sd.at_two (x:=3) (y:=60) (c:=c) (by decide) (by decide);refine⟨_,rfl,c,_,rfl,(by show 2<=sizeLine;decide),fun z nz=>⟨_,rfl,_,_,rfl,rfl,(by show(0:Int)<2;decide),z,_,_,_,rfl,rfl,SqL.of af,D3,_,_,rfl,rfl,Ec,_,_,rfl,rfl,?_⟩⟩;have s2:ad H1 (upd H1 z (.lst [V.int 3,V.int 60])):=ad.new nz;generalize upd H1 z (.lst [V.int 3,V.int 60])=H2 at s2 ⊢;have st0:0<1 + Sd.mixed c 2 % md:=by
   have:=VW (Sd.mixed c 2) (show md≠0 by omega);omega
  dsimp only;generalize 1 + Sd.mixed c 2 % md=st at st0 ⊢;have t2:=s1.trans s2;have eA:=s2 _ _ h1;apply joinS (fun x:Option V×Option V=>[some (.ref l),some (.ref p),some (.int c),some (.ref d),some (.ref r),some (.int st),x.1,x.2]) (fun _ G=>∃ aQ,ad H G/\G d=some (.dK aQ)/\(∀ s,Has qv s->Has aQ s)/\∀ hv g,cq hv rows g (gv qv)->cq hv rows g (gv aQ))
  case g=>
   intro aP;refine⟨_,rfl,(by show 0<=sizeLine;decide),fun e ne=>?_⟩;have s3:ad H2 (upd H2 e (.lst [])):=ad.new ne;have h3:upd H2 e (.lst []) e=some (.lst []):=af;generalize upd H2 e (.lst [])=H3 at s3 h3 ⊢;have t3:=t2.trans s3;have dL:=s3 _ _ eA;have kI:=t3 _ _ gB;refine⟨.lst (row.map Dt.str),.lst [],rfl,rfl,⟨r,_,rfl,SqL.of kI,KN _⟩,⟨e,[],rfl,SqL.of h3,rfl⟩,Rb _,_,rfl,?_⟩;refine cS (fun b=>?_) (fun _=>aP (none,none) H3 ⟨qv,t3,dL,fun _ h=>h,fun _ _ h=>h⟩);have UA:0<row.length:=by
    cases row with
    | nil=>exact absurd b (by decide)
    | cons x y=>rw[Vw];omega
   have Uq:((row.map V.str).length:Int)=row.length:=by rw[Vd]
   refine⟨_,rfl,c,_,rfl,_,rfl,r,_,rfl,.inl (SqL.of kI),_,_,rfl,rfl,(by show(0:Int)<((row.map V.str).length:Int);omega),?_⟩;have a0:0<=Sd.mixed c 3 % ((row.map V.str).length:Int):=VW _ (by omega);obtain⟨j0,hj0⟩:∃ j:Nat,Sd.mixed c 3 % ((row.map V.str).length:Int)=(j:Int):=⟨(Sd.mixed c 3 % ((row.map V.str).length:Int)).toNat,by omega⟩;dsimp only;rw[hj0];refine⟨_,rfl,_,_,rfl,rfl,⟨by decide,by decide⟩,_,_,rfl,rfl,(by show(0:Int)<2;decide),rfl,_,rfl,?_⟩;refine cS (fun _=>?_) (fun _=>?_)
   ·refine⟨_,rfl,_,rfl,_,rfl,r,_,rfl,SqL.of kI,fun y ny=>?_⟩
    rw[RG,<- List.map_drop];have s4:ad H3 (upd H3 y (.lst ((row.drop j0).map V.str))):=ad.new ny;have h4:upd H3 y (.lst ((row.drop j0).map V.str)) y=some (.lst ((row.drop j0).map V.str)):=af;have DP:y≠d:=(ap dL ny).symm;generalize upd H3 y (.lst ((row.drop j0).map V.str))=H4 at s4 h4 ⊢;have uI:(row.drop j0).Nodup:=(A4 nd aX).sublist (List.drop_sublist _ _);have dl:(row.drop j0).length<=60:=by rw[Wv];omega
    have vU:∀ s∈row.drop j0,s∈row:=fun s hs=>Xr hs
    have up:∀ aQ,Shf qv aQ (row.drop j0) st->∀ hv g,cq hv rows g (gv qv)->cq hv rows g (gv aQ):=fun aQ sh hv g=>TV nd aX sh (by omega)
    generalize row.drop j0=D at h4 uI dl vU up ⊢;refine⟨y,rfl,⟨_,SqL.of h4⟩,jC (K:=K) (a:=y) (xs:=D.map V.str) (fun j σ G=>∃ v7 aQ,σ=[some (.ref l),some (.ref p),some (.int c),some (.ref d),some (.ref r),some (.int st),some (.int (j0:Nat)),v7]/\ad H G/\G y=some (.lst (D.map V.str))/\G d=some (.dK aQ)/\(∀ s,Has qv s->Has aQ s)/\Shf qv aQ (D.take j) st/\aQ.length<=1000 + j)
     ⟨none,qv,rfl,t3.trans s4,h4,s4 _ _ dL,fun _ h=>h,(fun s=>by simp),by omega⟩ ?_ ?_ ?_⟩
    ·rintro j σ G _ ⟨_,_,rfl,_,hy,_⟩
     exact SqL.of hy
    ·rintro j x σ G hx ⟨v7,aQ,rfl,sg,hy,fP,cN,kQ,kl⟩
     obtain⟨s,hs,rfl⟩:=qc hx;have hj:=(List.getElem?_eq_some_iff.mp hs).1;have hS:=cN s (iO s (vU s (Vj hs)));dsimp only[bJ];refine⟨_,rfl,_,rfl,d,_,rfl,gM (k:=Sum.inr s) fP hS.gv,_,rfl,_,_,rfl,rfl,_,rfl,_,rfl,d,_,rfl,nK.k (k:=Sum.inr s) fP (by rw[Vo];omega),?_⟩;exact⟨_,aF aQ (Sum.inr s) (.int (gv aQ s + st)),rfl,bx qJ sg,by rw[aj DP];exact hy,af,fun t ht=>(cN t ht).put,JU uI kQ hs,by have:=rM aQ (Sum.inr s) (.int (gv aQ s + st));omega⟩
    ·rintro σ G ⟨v7,aQ,rfl,sg,hy,fP,cN,kQ,kl⟩
     rw[Vd,Vv] at kQ;exact aP (_,_) G ⟨aQ,sg,fP,cN,up aQ kQ⟩
   ·refine⟨_,rfl,_,rfl,_,_,rfl,rfl,_,rfl,r,_,rfl,SqL.of kI,fun y ny=>?_⟩
    have ec:dW (row.map V.str) none (some ((j0:Int) + 1))=(row.take (j0 + 1)).map V.str:=by
     rw[show(j0:Int) + 1=((j0 + 1:Nat):Int) by omega,Sd.cut_take,Yb]
    rw[ec];have s4:ad H3 (upd H3 y (.lst ((row.take (j0 + 1)).map V.str))):=ad.new ny;have h4:upd H3 y (.lst ((row.take (j0 + 1)).map V.str)) y=some (.lst ((row.take (j0 + 1)).map V.str)):=af;have DP:y≠d:=(ap dL ny).symm;generalize upd H3 y (.lst ((row.take (j0 + 1)).map V.str))=H4 at s4 h4 ⊢;have uI:(row.take (j0 + 1)).Nodup:=(A4 nd aX).sublist (XC _ _);have dl:(row.take (j0 + 1)).length<=60:=by rw[Vs];omega
    have vU:∀ s∈row.take (j0 + 1),s∈row:=fun s hs=>W1 hs
    have up:∀ aQ,Shf qv aQ (row.take (j0 + 1)) (-st)->∀ hv g,cq hv rows g (gv qv)->cq hv rows g (gv aQ):=fun aQ sh hv g=>SN nd aX sh (by omega)
    generalize row.take (j0 + 1)=D at h4 uI dl vU up ⊢;refine⟨y,rfl,⟨_,SqL.of h4⟩,jC (K:=K) (a:=y) (xs:=D.map V.str) (fun j σ G=>∃ v7 aQ,σ=[some (.ref l),some (.ref p),some (.int c),some (.ref d),some (.ref r),some (.int st),some (.int (j0:Nat)),v7]/\ad H G/\G y=some (.lst (D.map V.str))/\G d=some (.dK aQ)/\(∀ s,Has qv s->Has aQ s)/\Shf qv aQ (D.take j) (-st)/\aQ.length<=1000 + j)
     ⟨none,qv,rfl,t3.trans s4,h4,s4 _ _ dL,fun _ h=>h,(fun s=>by simp),by omega⟩ ?_ ?_ ?_⟩
    ·rintro j σ G _ ⟨_,_,rfl,_,hy,_⟩
     exact SqL.of hy
    ·rintro j x σ G hx ⟨v7,aQ,rfl,sg,hy,fP,cN,kQ,kl⟩
     obtain⟨s,hs,rfl⟩:=qc hx;have hj:=(List.getElem?_eq_some_iff.mp hs).1;have hS:=cN s (iO s (vU s (Vj hs)));dsimp only[bJ];refine⟨_,rfl,_,rfl,d,_,rfl,gM (k:=Sum.inr s) fP hS.gv,_,rfl,_,_,rfl,rfl,_,rfl,_,rfl,d,_,rfl,nK.k (k:=Sum.inr s) fP (by rw[Vo];omega),?_⟩;exact⟨_,aF aQ (Sum.inr s) (.int (gv aQ s - st)),rfl,bx qJ sg,by rw[aj DP];exact hy,af,fun t ht=>(cN t ht).put,JU uI kQ hs,by have:=rM aQ (Sum.inr s) (.int (gv aQ s - st));omega⟩
    ·rintro σ G ⟨v7,aQ,rfl,sg,hy,fP,cN,kQ,kl⟩
     rw[Vd,Vv] at kQ;exact aP (_,_) G ⟨aQ,sg,fP,cN,up aQ kQ⟩
  case h=>
  rintro⟨x6,x7⟩ G ⟨aQ,sg,fP,cN,je⟩
  exact⟨_,rfl,k d aQ G sg fP (fun row hr s hs=>cN s (has row hr s hs)) je⟩
end
end K64
namespace K64
open PySem L2
theorem JB {ws:List Wt} (c:Nat){fl:List Int} (h:fl.length=ws.length):rO (ws.map wI) fl=sm (fun n=>fn fl n * (wn ws c).le n) ws.length:=by
 have g:=Gq ((ws.map wI).zip fl) (wI (0,0,0,0),0) (fun p=>p.2 * p.1.2.2.1) ws.length (by rw[Wm,Vd];omega);rw[VM (by rw[Wm,Vd];omega)] at g;refine g.trans (cT _ fun n hn=>?_);have e1:ws[n]?=some (ws.getD n (0,0,0,0)):=by rw[Vf,Vg hn];rfl
 have e2:fl[n]?=some (fn fl n):=by unfold fn;rw[Vf,Vg (show n<fl.length by omega)];rfl
 have e3:((ws.map wI).zip fl)[n]?=some (wI (ws.getD n (0,0,0,0)),fn fl n):=by
  rw[VQ,Vp,e1];exact⟨rfl,e2⟩
 rw[Vf,e3];rfl
theorem RQ {ws:List Wt}{c:Nat}{am bm:List Int} (hin:∀ x∈ws,x.1<c/\x.2.1<c) (ha:am.length=ws.length) (hb:bm.length=ws.length) (h:∀ v,v<c->bal (wn ws c) (fn am) v=bal (wn ws c) (fn bm) v):cv c (ws.map wI) am=cv c (ws.map wI) bm:=by
 have l1:=Fq c (ws.map wI) am;have l2:=Fq c (ws.map wI) bm;refine List.ext_getElem? fun i=>?_
 rcases Wc i c with hi|hi
 ·have e1:=FA hin ha i
  have e2:=FA hin hb i;have e3:=h i hi;rw[<- e1,<- e2] at e3;unfold fn at e3;rw[Vf,Vf,Vg (show i<(cv c (ws.map wI) am).length by omega),Vg (show i<(cv c (ws.map wI) bm).length by omega)] at e3;rw[Vg (show i<(cv c (ws.map wI) am).length by omega),Vg (show i<(cv c (ws.map wI) bm).length by omega)];exact congrArg some e3
 ·rw[WD (by omega),WD (by omega)]
theorem LF {ws:List Wt}{c:Nat}{fl:List Int} (len:fl.length=ws.length) (nn:∀ n,n<ws.length->0<=fn fl n) (bl:∀ v,v<c->bal (wn ws c) (fn fl) v=bal (wn ws c) (wtF ws) v) (hin:∀ x∈ws,x.1<c/\x.2.1<c):jB c (ws.map wI) fl=true:=by
 have e1:fl.length=(ws.map wI).length:=by rw[Vd];exact len
 have e2:((fl.map fun x=>decide (x<0)).any id)=false:=by
  rw[XQ];refine List.any_eq_false.mpr fun x hx z=>?_
  obtain⟨i,hi⟩:=List.mem_iff_getElem?.mp hx;have il:=(List.getElem?_eq_some_iff.mp hi).1;have:=nn i (by rw[<- len];exact il);unfold fn at this;rw[Vf,hi] at this;have this:0<=x:=this;have z:x<0:=VA z;omega
 have e3:cv c (ws.map wI) fl=cv c (ws.map wI) ((ws.map wI).map fun q=>q.2.2.2):=RQ hin len (pD ws) fun v hv=>by
  rw[bl v hv];exact pJ (fun n _=>(nj ws n).symm) v
 unfold jB;rw[VG e1,e2,VG e3];rfl
end K64
namespace K64
open PySem L2
open Sd (Kvs Row Has gv Rw nb nbs)
theorem K5 (ns:List Int) (i j:Nat):∃ ms:List Int,dW (ns.map V.int) (some i) (some j)=ms.map V.int/\ms.length<=j - i:=by
 obtain⟨ms,e,_⟩:=TR ns (some i) (some j);refine⟨ms,e,?_⟩;have l:ms.length=(dW (ns.map V.int) (some i) (some j)).length:=by rw[e,Vd]
 rw[l];unfold dW;have e1:HT.sIx (ns.map V.int).length 0 (some (i:Int))=min i (ns.map V.int).length:=by
  unfold HT.sIx;dsimp only;rw[if_neg (by omega),Vn]
 have e2:HT.sIx (ns.map V.int).length (ns.map V.int).length (some (j:Int))=min j (ns.map V.int).length:=by
  unfold HT.sIx;dsimp only;rw[if_neg (by omega),Vn]
 rw[e1,e2,Vs,Wv];omega
theorem Jp {rows:List Row}{i k:Nat}{row:Row}{x:Str} (hr:rows[i]?=some row) (hx:row[k]?=some x):rows.flatten[(rows.take i).flatten.length + k]?=some x:=by
 have e1:=Sd.split_at hr;have kl:=(List.getElem?_eq_some_iff.mp hx).1;have e:rows.flatten=(rows.take i).flatten++(row++(rows.drop (i + 1)).flatten):=by
  rw[<- WG,<- WT,<- e1]
 rw[e,WB (by omega),XU,WR kl];exact hx
theorem KG {l:Row} (nd:l.Nodup){n:Nat}{x:Str} (h:l[n]?=some x):l.idxOf x=n:=A9 nd (Sd.ix_at (Vj h)) h
theorem TY {hv:Kvs}{rows:List Row}{g:Int} (nd:rows.flatten.Nodup) (rng:∀ s,0<=gv hv s/\gv hv s<=50) (g1:g<=50):cq hv rows g fun s=>200 * (rows.flatten.idxOf s:Int):=fun q hq=>by
 obtain⟨row,hr,hq⟩:=Fy hq;obtain⟨k,h1,h2⟩:=Fk hq;obtain⟨i,hi⟩:=List.mem_iff_getElem?.mp hr;have e1:=KG nd (Jp hi h1);have e2:=KG nd (Jp hi h2);have r1:=(rng q.1).2;have r2:=(rng q.2).2;dsimp only;rw[e1,e2];omega
section
variable {P:Program}{w:World}{K:PySem.W.Frag}{mg:Str->Option Value}{base:Heap}{a:Adr}
def spLess (K:PySem.W.Frag):Sp:=fun vs H Q _=>∃ l h m o rs rows hv qv ls,∃ g pr:Int,vs=[.ref l,.ref h,.ref m,.int g,.ref o,.int pr]/\H l=some (.lst ((rs:List Addr).map V.ref))/\Rw H rs rows/\rows.length<=30/\(∀ row∈rows,row.length<=60)/\H h=some (.dK hv)/\H o=some (.dK qv)/\(∀ row∈rows,∀ s∈row,Has hv s/\Has qv s)/\Sd.L3At K H m ls/\(∀ q∈ls,Has qv q.1/\Has qv q.2.1/\0<q.2.2/\q.2.2<2 ^ 64)/\ls.length<=300/\cq hv rows g (gv qv)/\pr<=Sd.costL qv ls/\∀ H',ad H H'->Q (.bl false) H'
theorem SZ (T:Tx K mg a):Cal P w K mg base CX0 3 "_law_less" ["_law_rows_here","_law_halves","_law_lines_here","_law_gap","_law_other","_law_price"] [] (spLess K):=T.d__law_less.cal fun f fd F=>by
 have ee:=Sd.ok_keeps_gap (P:=P) (w:=w) (base:=base) T;have bE:=Sd.ok_cost_of (P:=P) (w:=w) (base:=base) T;refine F.ok Q5 (fun vs H Q E h=>?_) (fun aJ A outer s H vs Q E hr h=>?_)
 ·obtain⟨l,h,m,o,rs,rows,hv,qv,ls,g,pr,rfl,_⟩:=h
  rfl
 ·obtain⟨l,h,m,o,rs,rows,hv,qv,ls,g,pr,rfl,hl,hw,w5,DZ,hh,ho,has,hm,d4,tP,gp,le,k⟩:=h
  refine⟨_,(aA (bM (pe_or (qk T7 (aZ ee (hr.mono (by decide)) rfl (ae (pv 0) (ae (pv 1) (ae (pv 3) (ae (pv 4) ah))))) Bd (bY _)) (KC (qk zM (aZ bE (hr.mono (by decide)) rfl (ae (pv 2) (ae (pv 4) ah))) (pv 5) (bY _)))))),?_⟩;refine⟨_,rfl,_,rfl,_,rfl,_,rfl,l,rs,rows,h,g,o,hv,qv,rfl,hl,hw,w5,DZ,hh,ho,has,fun H1 s1=>?_⟩;rw[Sz.mpr gp];refine⟨_,_,rfl,rfl,_,rfl,ka ?_⟩;obtain⟨xm,m1,m2⟩:=hm;refine⟨_,rfl,_,rfl,m,o,ls,qv,rfl,⟨xm,s1 _ _ m1,s1.dts m2⟩,s1 _ _ ho,d4,tP,fun H2 s2=>⟨_,rfl,_,_,rfl,rfl,?_⟩⟩;show Q (.bl (decide (Sd.costL qv ls<pr))) H2;rw[V5 (by omega)];exact k H2 (s1.trans s2)
def spLaw (K:PySem.W.Frag) (t:Adr):Sp:=fun vs H Q _=>∃ (p:Addr) (ns:List Int),vs=[.ref p]/\SqL K H p (ns.map V.int)/\ns.length<=63/\H t.tb_search=some (.tbl p7 pK)/\∀ H',Q (.bl true) H'
set_option maxHeartbeats 16000000 in
theorem ok_law (T:Tx K mg a) (f:Addr) (fd:FuncData) (F:eY K "law" "law" nC f fd):cD P w K mg base CX0 14 f fd ["_law_script"] (spLaw K a):=by
 have aC:=Sd.ok_cell_at (P:=P) (w:=w) (base:=base) T;have eJ:=Sd.ok_rows (P:=P) (w:=w) (base:=base) T;have dM:=Sd.ok_lines (P:=P) (w:=w) (base:=base) T;have fL:=Rv (P:=P) (w:=w) (base:=base) T;have bE:=Sd.ok_cost_of (P:=P) (w:=w) (base:=base) T;have df:=Sm (P:=P) (w:=w) (base:=base) T;have dN:=Qv (P:=P) (w:=w) (base:=base) T;have b9:=SZ (P:=P) (w:=w) (base:=base) T;have dR:=Sd.ok_asked (P:=P) (w:=w) (base:=base) T;have gh:=Ui (P:=P) (w:=w) (base:=base) T;refine F.ok g8 (fun vs H Q E h=>?_) (fun aJ A outer s H vs Q E hr h=>?_)
 ·obtain⟨p,ns,rfl,_⟩:=h
  rfl
 ·obtain⟨p,ns,rfl,hS,ai,iV,k⟩:=h
  refine⟨_,(ao (FR (aZ eJ (hr.mono (by decide)) rfl (ae (c7 (ae (ay cu (ay jG (ay AR (aZ aC (hr.mono (by decide)) rfl (ae (pv 0) (ae ak ah))) ak) ak) (ay cE (aZ aC (hr.mono (by decide)) rfl (ae (pv 0) (ae ak ah))) ak)) ah)) ah)) (fE rfl (aU (aB (i:=1) g8.nd rfl (.inl rfl)) (aU (aB (i:=2) g8.nd rfl (.inl rfl)) (aU (aB (i:=3) g8.nd rfl (.inl rfl)) cM)))))
   (ao (aR (i:=4) g8.nd rfl (.inl rfl) (aZ dM (hr.mono (by decide)) rfl (ae (q9 rB (pv 0) (nJ ak) (nJ ak)) (ae (pv 1) ah))))
   (ao (aR (i:=5) g8.nd rfl (.inl rfl) (ay cE (aZ aC (hr.mono (by decide)) rfl (ae (pv 0) (ae ak ah))) ak))
   (ao (FR (pV fL AM (hr.mono (by decide)) rfl (ae (pv 2) (ae (pv 3) (ae (pv 4) (ae (pv 5) ah))))) (fE rfl (aU (aB (i:=6) g8.nd rfl (.inl rfl)) (aU (aB (i:=7) g8.nd rfl (.inl rfl)) cM))))
   (ao (aR (i:=8) g8.nd rfl (.inl rfl) (aZ bE (hr.mono (by decide)) rfl (ae (pv 4) (ae (pv 6) ah))))
   (ao (c6 PassesOwn.never rfl (bU (q9 rB (pv 0) (nJ ak) (nJ ak))) (aB (i:=9) g8.nd rfl (.inl rfl)) (ao (fu (zr (aZ b9 (hr.mono (by decide)) rfl (ae (pv 2) (ae (pv 3) (ae (pv 4) (ae (pv 5) (ae (aZ df (hr.mono (by decide)) rfl (ae (pv 2) (ae (pv 3) (ae (pv 5) (ae (pv 9) ah))))) (ae (pv 8) ah)))))))) (aA (bM Bd)) fZ)
   (aA (fu (zr (aZ b9 (hr.mono (by decide)) rfl (ae (pv 2) (ae (pv 3) (ae (pv 4) (ae (pv 5) (ae (aZ dN (hr.mono (by decide)) rfl (ae (pv 2) (ae (pv 6) (ae (pv 9) ah)))) (ae (pv 8) ah)))))))) (aA (bM Bd)) fZ))))
   (ao (FR (pV dR AM (hr.mono (by decide)) rfl (ae (pv 2) (ae (pv 3) (ae (pv 4) (ae (pv 5) ah))))) (fE rfl (aU (aB (i:=10) g8.nd rfl (.inl rfl)) (aU (aB (i:=11) g8.nd rfl (.inl rfl)) cM))))
   (ao (rE (i:=12) g8.nd rfl rfl (N:=["_law_wish"]) (cap:=[none]) rfl (cF (osc:=aq nC) (XN:=["_law_script","_law_marks","_law_rows_here","_law_halves","_law_lines_here","_law_gap","_law_places","_law_flow","_law_price","_law_cell","_law_count","_law_wishes","_law_weights"]) rfl rfl (by decide +kernel)) (bU (pv 11)) (fun cl C s H fp aa=>(aB (i:=0) (show(["_law_wish"]:List Str).Nodup by decide +kernel) rfl (.inl rfl))) (fun cl C s H fp aa=>cZ) (fun cl C s H fp aa=>(aL (zW (K:=K) rfl) (pv 0) ak (fun _ _=>rfl))) (hsw:=rfl))
   (aA (bM (pe_and (qk op_le (pV gh AM (hr.mono (by decide)) rfl (ae (pv 10) (ae (pv 11) (ae (pv 12) ah)))) (pv 8) (bY _)) (KC (qk qW (aZ bE (hr.mono (by decide)) rfl (ae (pv 4) (ae (pv 6) ah))) (pV gh AM (hr.mono (by decide)) rfl (ae (pv 10) (ae (pv 11) (ae (pv 7) ah)))) (bY _)))))))))))))),?_⟩
  refine⟨_,rfl,p,ns,0,rfl,hS,by decide,fun c0=>⟨_,_,rfl,rfl,⟨by decide,by decide⟩,_,_,rfl,rfl,.inr ⟨by decide,by decide⟩,_,rfl,p,ns,0,rfl,hS,by decide,fun c1=>⟨_,_,rfl,rfl,(by show(0:Int)<8;decide),_,_,rfl,rfl,(by show 1<=sizeLine;decide),fun q nq=>?_⟩⟩⟩;have s0:ad H (upd H q (.lst [V.int (c0 / 8 * 13 + c1 % 8)])):=ad.new nq;have h0:upd H q (.lst [V.int (c0 / 8 * 13 + c1 % 8)]) q=some (.lst ([c0 / 8 * 13 + c1 % 8].map V.int)):=af;generalize upd H q (.lst [V.int (c0 / 8 * 13 + c1 % 8)])=H0 at s0 h0 ⊢;refine⟨q,[c0 / 8 * 13 + c1 % 8],rfl,SqL.of h0,fun t0 mA l h rs mk rows hv H1 s1 ht hm hl gP hh ok HK in12 UW nr Vb nl nh nm=>?_⟩;refine⟨t0,_,rfl,SqT.of ht,rfl,_,_,rfl,_,_,rfl,_,_,rfl,rfl,?_⟩;have t1:=s0.trans s1;obtain⟨ms,NK,CQ⟩:=K5 ns 2 9;refine⟨_,rfl,_,rfl,_,rfl,p,_,rfl,t1.sqL hS,fun lc Nk=>?_⟩;rw[show dW (ns.map V.int) (some 2) (some 9)=ms.map V.int from NK];have s2:ad H1 (upd H1 lc (.lst (ms.map V.int))):=ad.new Nk;have h2:upd H1 lc (.lst (ms.map V.int)) lc=some (.lst (ms.map V.int)):=af;generalize upd H1 lc (.lst (ms.map V.int))=H2 at s2 h2 ⊢;refine⟨_,rfl,lc,mA,mk,ms,rfl,SqL.of h2,by omega,s2 _ _ hm,fun m ls H3 s3 U6 d4 hok MM=>?_⟩;have u3:=s2.trans s3;have t3:=t1.trans u3;refine⟨_,rfl,p,ns,1,rfl,t3.sqL hS,by decide,fun c2=>⟨_,_,rfl,rfl,(by show(0:Int)<51;decide),?_⟩⟩;have g0:0<=c2 % 51:=VW _ (by decide);have g1:c2 % 51<51:=V4 _ (by decide);dsimp only;generalize c2 % 51=g at g0 g1 ⊢;have Vc:rows.flatten.length=mk.length:=ok.pm.length_eq
  have qx:rows.flatten.Nodup:=ok.pm.nodup_iff.mpr ok.nd;have js:∀ s∈rows.flatten,Has hv s:=fun s hs=>ok.has s (ok.pm.mem_iff.mp hs)
  have lE:∀ q∈ls,q.1∈rows.flatten/\q.2.1∈rows.flatten:=fun q hq=>⟨ok.pm.mem_iff.mpr (hok q hq).1,ok.pm.mem_iff.mpr (hok q hq).2.1⟩
  have kd:∀ q∈ls,0<q.2.2/\q.2.2<2 ^ 61:=fun q hq=>(hok q hq).2.2
  have r4:=ok.k;have r0:=ok.k0;have gR:∀ row∈rows,row.length<=12:=fun row hr=>VL (WZ hr).length_le (by omega)
  have lJ:=u3 _ _ hl;have qG:=gP.same u3;have sQ:=u3 _ _ hh;have Pc:=t3 _ _ iV;have Co:=t3.sqL hS;obtain⟨xm,gm,ql⟩:=d4;have rng:=ok.rng;clear s1 s2 s3 u3 t1 t3 hl gP hh nr ht hm h2 h0 s0;refine⟨_,rfl,_,rfl,_,rfl,_,rfl,l,rs,rows,h,hv,m,ls,g,rfl,lJ,qG,by omega,by omega,qx,sQ,js,⟨xm,gm,ql⟩,by omega,lE,kd,⟨_,TY qx rng (by omega)⟩,Pc,fun p2 d fA pl fl H4 s4 _ _ _ mK hd k9 _ lk=>?_⟩;refine⟨p2,_,rfl,SqT.of mK,rfl,_,_,rfl,_,_,rfl,rfl,?_⟩;have lp:=lk.lp;have lf:=lk.lf;have wl:=K3 hv rows ls g;have HR:=FL rows;obtain⟨gp,ce,cl⟩:=Rh lE (fun q hq=>Xq (kd q hq).1) lk;have ph:∀ s∈rows.flatten,Has (plD rows pl) s/\gv (plD rows pl) s=plv rows pl s:=fun s hs=>pl_has qx (by omega) hs
  have cp:Sd.costL (plD rows pl) ls=cst (plv rows pl) ls:=by
   rw[J8];exact Lu fun q hq=>⟨(ph _ (lE q hq).1).2,(ph _ (lE q hq).2).2⟩
  have HA:cq hv rows g (gv (plD rows pl)):=fun q hq=>by
   obtain⟨m1,m2⟩:=FE hq;rw[(ph _ m1).2,(ph _ m2).2];exact gp q hq
  have le:∀ qv,cq hv rows g (gv qv)->Sd.costL (plD rows pl) ls<=Sd.costL qv ls:=fun qv hq=>by
   rw[cp,J8];exact cl _ hq
  have inr:∀ row∈rows,∀ s∈row,s∈rows.flatten:=fun row hr s hs=>List.mem_flatten.mpr ⟨row,hr,hs⟩
  have MV:(plD rows pl).length<=1000:=by
   have:=mkD_len ((rows.flatten.map (Sum.inr:Str->Key)).zip (pl.map V.int)) [];rw[Wm,Vd] at this;have z0:([]:List (Key×V)).length=0:=rfl;unfold plD mkD;omega
  have AG:∀ qv:Kvs,(∀ row∈rows,∀ s∈row,Has qv s)->∀ q∈ls,Has qv q.1/\Has qv q.2.1/\0<q.2.2/\q.2.2<2 ^ 64:=fun qv hq q d0=>by
   obtain⟨r1,a1,b1⟩:=List.mem_flatten.mp (lE q d0).1;obtain⟨r2,a2,b2⟩:=List.mem_flatten.mp (lE q d0).2;have:=kd q d0;exact⟨hq r1 a1 _ b1,hq r2 a2 _ b2,this.1,by omega⟩
  have Cv:∀ row∈rows,∀ s∈row,Has (plD rows pl) s:=fun row hr s hs=>(ph s (inr row hr s hs)).1
  refine⟨_,rfl,_,rfl,m,d,ls,plD rows pl,rfl,⟨xm,s4 _ _ gm,s4.dts ql⟩,hd,AG _ Cv,by omega,fun H5 s5=>?_⟩;have t5:=s4.trans s5;have wx:=s5 _ _ hd;have Cf:=s5 _ _ k9;generalize M7:Sd.costL (plD rows pl) ls=PR at le cp ⊢;obtain⟨cs,cP,_⟩:=K5 ns 9 29;refine⟨_,rfl,_,rfl,_,rfl,p,_,rfl,t5.sqL Co,fun y ny=>?_⟩;rw[show dW (ns.map V.int) (some 9) (some 29)=cs.map V.int from cP];have s6:ad H5 (upd H5 y (.lst (cs.map V.int))):=ad.new ny;have h6:upd H5 y (.lst (cs.map V.int)) y=some (.lst (cs.map V.int)):=af;generalize upd H5 y (.lst (cs.map V.int))=H6 at s6 h6 ⊢;have t6:=t5.trans s6;have Aq:=s6 _ _ wx;refine⟨y,rfl,⟨_,SqL.of h6⟩,jC (K:=K) (a:=y) (xs:=cs.map V.int) (fun j σ G=>∃ v9,σ=[some (.ref p),some (.ref mA),some (.ref l),some (.ref h),some (.ref m),some (.int g),some (.ref d),some (.ref fA),some (.int PR),v9,none,none,none]/\ad H6 G) ⟨none,rfl,ad.refl _⟩ ?_ ?_ ?_⟩
  ·rintro j σ G _ ⟨_,rfl,sg⟩
   exact SqL.of (sg _ _ h6)
  ·rintro j x σ G hx ⟨v9,rfl,sg⟩
   obtain⟨c,hc,rfl⟩:=j4 hx;have tg:=t6.trans sg;dsimp only[bJ];refine⟨_,rfl,_,rfl,_,rfl,_,rfl,_,rfl,_,rfl,_,rfl,_,rfl,l,h,rs,rows,hv,g,c,rfl,tg _ _ lJ,qG.same tg,tg _ _ sQ,by omega,qx,gR,fun row hr s hs=>js s (inr row hr s hs),fun d1 C5 G1 qC oh sN sE=>?_⟩;have qy:=tg.trans qC;refine⟨_,rfl,l,h,m,d1,rs,rows,hv,C5,ls,g,PR,rfl,qy _ _ lJ,qG.same qy,by omega,fun row hr=>VL (gR row hr) (by decide),qy _ _ sQ,oh,fun row hr s hs=>⟨js s (inr row hr s hs),sN row hr s hs⟩,⟨xm,qy _ _ gm,qy.dts ql⟩,AG C5 sN,by omega,sE,le C5 sE,fun G2 qw=>?_⟩;refine⟨_,rfl,ka ?_⟩;have En:=qy.trans qw;have vn:=sg.trans (qC.trans qw);refine⟨_,rfl,_,rfl,_,rfl,_,rfl,_,rfl,_,rfl,_,rfl,l,d,rs,rows,plD rows pl,c,rfl,En _ _ lJ,qG.same En,vn _ _ Aq,r0,qx,fun row hr=>VL (gR row hr) (by decide),Cv,MV,fun d3 CF G3 AJ dL wR yq=>?_⟩;have l8:=En.trans AJ;refine⟨_,rfl,l,h,m,d3,rs,rows,hv,CF,ls,g,PR,rfl,l8 _ _ lJ,qG.same l8,by omega,fun row hr=>VL (gR row hr) (by decide),l8 _ _ sQ,dL,fun row hr s hs=>⟨js s (inr row hr s hs),wR row hr s hs⟩,⟨xm,l8 _ _ gm,l8.dts ql⟩,AG CF wR,by omega,yq hv g HA,le CF (yq hv g HA),fun G4 vh=>?_⟩;refine⟨_,rfl,ka ?_⟩;exact⟨_,rfl,vn.trans (AJ.trans vh)⟩
  rintro σ G ⟨v9,rfl,sg⟩
  have tg:=t6.trans sg;have i8:=sg _ _ Aq;have Ma:=sg _ _ (s6 _ _ Cf);refine⟨_,rfl,_,rfl,_,rfl,_,rfl,l,rs,rows,h,hv,m,ls,g,rfl,tg _ _ lJ,qG.same tg,by omega,by omega,qx,tg _ _ sQ,js,⟨xm,tg _ _ gm,tg.dts ql⟩,by omega,lE,fun _ t x G1 qC nt nx N4 EN=>?_,fun pi=>?_⟩
  case refine_2=>exact(by omega:False).elim
  refine⟨t,_,rfl,SqT.of N4,rfl,_,_,rfl,_,_,rfl,rfl,?_⟩;obtain⟨xs,kE,DQ,_⟩:=EN;have mP:aN K G1 (((wT hv rows ls g).map wI).map wD) xs:=by
   rw[wT_wI];exact DQ
  have hin:=FO (hv:=hv) (g:=g) lE;have mw:=wT_wt (hv:=hv) (rows:=rows) (g:=g) kd;have Hz:∀ x∈wT hv rows ls g,Fp x.2.2.1:=fun x hx=>by
   unfold wT at hx;rcases XW.mp hx with z|z
   ·obtain⟨q,hq,rfl⟩:=List.mem_map.mp z
    have a1:=rng q.1;have a2:=rng q.2;show -(2 ^ 64)<gv hv q.1 + gv hv q.2 + g/\gv hv q.1 + gv hv q.2 + g<2 ^ 64;omega
   ·obtain⟨j,l',hj,e⟩:=AV 0 ls z
    rcases e with e|e <;> rw[e] <;> exact⟨by show -(2 ^ 64)<(0:Int);decide,by show(0:Int)<2 ^ 64;decide⟩
  generalize hW:wT hv rows ls g=ws at lk ce wl mP hin mw Hz lf;have AF:xs.length=ws.length:=by rw[<- mP.length,Vd,Vd]
  refine⟨_,rfl,x,rfl,⟨_,SqL.of kE⟩,fun D hD=>?_⟩;refine eP (K:=K) (a:=x) (xs:=xs) (fun i τ G'=>∃ v1,τ=[v1]/\ad G1 G'/\G' D=some (.lst ((((ws.map wI).map fun q=>q.2.2.2).take i).map V.int))) ⟨none,rfl,ad.new hD,af⟩ ?_ ?_ ?_
  ·rintro i τ G' _ ⟨_,rfl,dQ,_⟩
   exact SqL.of (dQ _ _ kE)
  ·rintro i y' τ G' hy ⟨v1,rfl,dQ,hG⟩
   obtain⟨q,hq,dq⟩:=eX mP hy;obtain⟨u,rfl,hu⟩:=lv (dQ.dt dq);have hi:=(List.getElem?_eq_some_iff.mp hy).1;dsimp only[bJ,c5];rw[if_pos rfl];refine⟨_,rfl,u,_,_,_,rfl,rfl,hu,rfl,_,hG,?_,_,rfl,bx hD dQ,?_⟩
   ·rw[Vd,Vs,Vd,Vd,Vo]
    omega
   ·have e:((ws.map wI).map fun q=>q.2.2.2)[i]?=some q.2.2.2:=by rw[Vp,hq];rfl
    rw[af,zam e,Vl];rfl
  rintro τ G2 ⟨v1,rfl,qw,c9⟩
  rw[AF,VM (by rw[Vd,Vd];exact Vh _)] at c9;have tn:((rows.flatten.length:Int) + (ls.length:Int)).toNat=rows.flatten.length + ls.length:=by omega
  have inR:∀ q∈ws.map wI,InR ((rows.flatten.length:Int) + (ls.length:Int)).toNat q/\Fp q.2.2.1:=fun q hq=>by
   obtain⟨x',d5,rfl⟩:=List.mem_map.mp hq;obtain⟨i1,i2⟩:=hin x' d5;rw[tn];refine⟨⟨⟨by show(0:Int)<=(x'.1:Int);omega,by show(x'.1:Int)<_;omega⟩,by show(0:Int)<=(x'.2.1:Int);omega,by show(x'.2.1:Int)<_;omega⟩,Hz x' d5⟩
  have w1:∀ n,n<ws.length->0<=wtF ws n:=fun n hn=>by
   have e:ws[n]?=some (ws.getD n (0,0,0,0)):=by rw[Vf,Vg hn];rfl
   exact(mw _ (Vj e)).1
  have IU:=Bh (c:=rows.flatten.length + ls.length) hin;have gW:jB ((rows.flatten.length:Int) + (ls.length:Int)).toNat (ws.map wI) ((ws.map wI).map fun q=>q.2.2.2)=true:=by
   rw[tn];exact LF (pD ws) (fun n hn=>by have:=w1 n hn;rw[<- nj ws n] at this;exact this) (fun v _=>pJ (fun n _=>nj ws n) v) hin
  have gF:jB ((rows.flatten.length:Int) + (ls.length:Int)).toNat (ws.map wI) fl=true:=by
   rw[tn];exact LF lf lk.ti.f lk.bl hin
  have bW:rO (ws.map wI) ((ws.map wI).map fun q=>q.2.2.2)<=PR:=by
   show rO (ws.map wI) (wts ws)<=PR;rw[JB (rows.flatten.length + ls.length) (pD ws),cp,ce,A6 ws (rows.flatten.length + ls.length)];exact weak (N:=wn ws (rows.flatten.length + ls.length)) IU (fun v _=>pJ (fun n _=>nj ws n) v) (fun n hn=>by have:=w1 n hn;rw[<- nj ws n] at this;exact this) lk.ti.s
  have bF:rO (ws.map wI) fl=PR:=by
   rw[JB (rows.flatten.length + ls.length) lf,cp,ce,A6 ws (rows.flatten.length + ls.length)];exact LJ (N:=wn ws (rows.flatten.length + ls.length)) IU lk.bl lk.ti
  have EJ:(ws.map wI).length<=1000:=by rw[Vd];omega
  refine⟨_,rfl,_,rfl,_,rfl,(rows.flatten.length:Int) + (ls.length:Int),x,ws.map wI,D,(ws.map wI).map fun q=>q.2.2.2,rfl,⟨xs,SqL.of (qw _ _ kE),qw.dts mP⟩,SqL.of c9,EJ,by rw[Vd];exact EJ,by omega,by omega,inR,fun _ G3 AJ=>?_,fun pi=>?_⟩
  case refine_2=>
   rw[gW] at pi;cases pi
  have uc:=qw.trans AJ;have l8:=tg.trans (qC.trans uc);have dL:=uc _ _ (qC _ _ i8);refine⟨_,rfl,_,_,rfl,rfl,_,rfl,iteYes (VG bW) ?_⟩;refine⟨_,rfl,_,rfl,m,d,ls,plD rows pl,rfl,⟨xm,l8 _ _ gm,l8.dts ql⟩,dL,AG _ Cv,by omega,fun G4 vh=>?_⟩;refine⟨_,rfl,_,rfl,_,rfl,(rows.flatten.length:Int) + (ls.length:Int),x,ws.map wI,fA,fl,rfl,⟨xs,SqL.of (vh _ _ (uc _ _ kE)),vh.dts (uc.dts mP)⟩,SqL.of (vh _ _ (uc _ _ (qC _ _ Ma))),EJ,by omega,by omega,by omega,inR,fun _ G5 Uu=>?_,fun pi=>?_⟩
  case refine_2=>
   rw[gF] at pi;cases pi
  refine⟨rfl,?_⟩;show Q (.bl (decide (V.int (Sd.costL (plD rows pl) ls)=V.int (rO (ws.map wI) fl)))) G5;rw[bF,M7,VG rfl];exact k G5
end
end K64
namespace K64
open PySem L2
set_option maxHeartbeats 4000000 in
theorem all_mk {l:PySem.W.OpenLaw}{w:World}{K:PySem.W.Frag}{h:Heap}{mg:Str->Option Value}{fa:Addr}{TS:List Addr}
  {vO:Addr}
  {lY:Addr}
  {mj:Addr}
  {a7:Addr}
  {dE:Addr}
  {Ap:Addr}{ML PP:Option Addr}{Mz:Array (Option Value)}{MF Ow EM Cr vF Df:Value}
  {oq:Addr}{BR CK:Option Addr}{Eo:Array (Option Value)}{Ce B9 Dz E6 tN EU:Value}
  {py:Addr}{Dg BO:Option Addr}{Ch:Array (Option Value)}{Cn D8 Dx CG vJ BU:Value}
  {o7:Addr}{C9 EV:Option Addr}{CP:Array (Option Value)}{EB CZ E7 Ck uU Da:Value}
  {kJ:Addr}{Ep Ez:Option Addr}{Cl:Array (Option Value)}{Do BJ DD C4 sB D7:Value}
  {iP:Addr}{Cg D9:Option Addr}{CV:Array (Option Value)}{BA B2 DT EW sV Db:Value}
  {jk:Addr}{DN EX:Option Addr}{Dw:Array (Option Value)}{Dp DB CM DS xA Ee:Value}
  {nN:Addr}{yC uS:Option Addr}{tG:Array (Option Value)}{wu xy sJ x8 ma yL:Value}
  {oN:Addr}{EH Cp:Option Addr}{BF:Array (Option Value)}{Dj Ex CB Cc uW CC:Value}
  {oB:Addr}{Ff Cw:Option Addr}{CA:Array (Option Value)}{BG Dl C6 BW tO E4:Value}
  {o4:Addr}{Cj DJ:Option Addr}{C2:Array (Option Value)}{Eb ES wK vH mt xH:Value}
  {gC:Addr}{sS sU:Option Addr}{yd:Array (Option Value)}{sw wE yr vQ jb tX:Value}
  {iR:Addr}{xz rV:Option Addr}{yI:Array (Option Value)}{tF yO sR uH mF uK:Value}
  {jh:Addr}{uF xh:Option Addr}{yU:Array (Option Value)}{uj tz xR wX mJ xF:Value}
  {iS:Addr}{yD vG:Option Addr}{xV:Array (Option Value)}{xK u8 tQ yM lS sO:Value}
  {iQ:Addr}{ve xQ:Option Addr}{rW:Array (Option Value)}{xP vV tD tj lL vi:Value}
  {i6:Addr}{yJ sT:Option Addr}{ub:Array (Option Value)}{xw uR xb yh mh vk:Value}
  {iH:Addr}{xG wU:Option Addr}{rX:Array (Option Value)}{vS xO uh yR mB uf:Value}
  {jq:Addr}{ut sv:Option Addr}{sW:Array (Option Value)}{sk wZ u7 sC mq vz:Value}
  {ju:Addr}{tU wP:Option Addr}{yl:Array (Option Value)}{uO yG vK xt lR yS:Value}
  {jn:Addr}{wo wq:Option Addr}{xB:Array (Option Value)}{xJ tT uv uo lU yp:Value}
  {i7:Addr}{t8 xr:Option Addr}{xZ:Array (Option Value)}{sP xY uT vP lK r6:Value}
  {jm:Addr}{vD tV:Option Addr}{vA:Array (Option Value)}{tp uy we vN lG xU:Value}
  {jo:Addr}{sK sX:Option Addr}{vm:Array (Option Value)}{sY yx wQ uD mW vd:Value}
  {i9:Addr}{uk ya:Option Addr}{vq:Array (Option Value)}{xC tJ uV yB lD vY:Value}
  {jf:Addr}{xI tS:Option Addr}{vT:Array (Option Value)}{t7 tw tH tY me yN:Value}
  {ja:Addr}{wg vI:Option Addr}{vy:Array (Option Value)}{xD tR vL yz mC sM:Value}
  {jv:Addr}{wy yv:Option Addr}{yj:Array (Option Value)}{ud wJ uX vx mU xE:Value}
  {iT:Addr}{uN wF:Option Addr}{yP:Array (Option Value)}{tW xS tf xM mM tZ:Value}
  {iW:Addr}{vZ wb:Option Addr}{uQ:Array (Option Value)}{vR yE uB vp mL sy:Value}
  {jt:Addr}{yo t9:Option Addr}{uY:Array (Option Value)}{x9 yi u9 yg mH xf:Value}
  {iI:Addr}{xu xN:Option Addr}{sD:Array (Option Value)}{sI uZ ye ui mI vX:Value}
  {iU:Addr}{xo ux:Option Addr}{yV:Array (Option Value)}{ym uA yQ wa mf xq:Value}
  {pb:Addr}{yb yf:Option Addr}{sF:Array (Option Value)}{uL tm yH xp lM so:Value}
  {lC:Tok}
  {b8:Tok}
  {cg:Tok}
  {bS aM:Addr}{uJ:Value}{sH:Option Addr}{dB:Array Value}{vg:Array (Option Value)}
  (X:K.In h) (G:h.Ns mainGlobals mg) (Oc:mg "law"=some (.ref fa))
  (aDrawError:PySem.W.nsIn K mainGlobals "DrawError"=some (some (.ref vO)))
  (xbDrawError:PySem.W.mroIn K vO (.type "BaseException")=some true)
  (xtDrawError:PySem.W.typeIn K (.ref vO)=some (.type "type"))
  (aTooMany:PySem.W.nsIn K mainGlobals "TooMany"=some (some (.ref lY)))
  (xbTooMany:PySem.W.mroIn K lY (.type "BaseException")=some true)
  (xtTooMany:PySem.W.typeIn K (.ref lY)=some (.type "type"))
  (xaTooMany:pY K lY bmV "ValueError.__new__"=true)
  (xkTooMany:PySem.W.keepIn K (.ref lY)=true)
  (xiTooMany:PySem.W.findIn K (.ref lY) "__init__"=some (some (.builtin "ValueError.__init__")))
  (aNoFlow:PySem.W.nsIn K mainGlobals "NoFlow"=some (some (.ref mj)))
  (xbNoFlow:PySem.W.mroIn K mj (.type "BaseException")=some true)
  (xtNoFlow:PySem.W.typeIn K (.ref mj)=some (.type "type"))
  (xaNoFlow:pY K mj bmV "ValueError.__new__"=true)
  (xkNoFlow:PySem.W.keepIn K (.ref mj)=true)
  (xiNoFlow:PySem.W.findIn K (.ref mj) "__init__"=some (some (.builtin "ValueError.__init__")))
  (aRing:PySem.W.nsIn K mainGlobals "Ring"=some (some (.ref a7)))
  (xbRing:PySem.W.mroIn K a7 (.type "BaseException")=some true)
  (xtRing:PySem.W.typeIn K (.ref a7)=some (.type "type"))
  (aLayout:PySem.W.nsIn K mainGlobals "Layout"=some (some (.ref dE)))
  (pgLayout:PySem.W.plainGet K dE Str.empty=true)
  (hdLayout:PySem.W.hasDictIn K dE=true)
  (poLayout:PySem.W.plainOver K dE=true)
  (saLayout:PySem.W.findIn K (.ref dE) "__setattr__"=some (some (.builtin "object.__setattr__")))
  (mkLayout:PySem.W.makesIn K dE=true)
  (kcLayout:PySem.W.keepIn K (.ref dE)=true)
  (naLayout_coming:PySem.W.findIn K (.ref dE) "coming"=some none)
  (naLayout_flow:PySem.W.findIn K (.ref dE) "flow"=some none)
  (naLayout_going:PySem.W.findIn K (.ref dE) "going"=some none)
  (naLayout_leasts:PySem.W.findIn K (.ref dE) "leasts"=some none)
  (naLayout_needs:PySem.W.findIn K (.ref dE) "needs"=some none)
  (naLayout_ones:PySem.W.findIn K (.ref dE) "ones"=some none)
  (naLayout_others:PySem.W.findIn K (.ref dE) "others"=some none)
  (naLayout_places:PySem.W.findIn K (.ref dE) "places"=some none)
  (aRing___init__:PySem.W.findIn K (.ref a7) "__init__"=some (some (.ref Ap)))
  (iRing___init__:PySem.W.isFn K (.ref Ap)=true)
  (lRing___init__:K.lookup Ap=some ⟨MF,ML,.func (PySem.W.fnOf "__init__" "Ring.__init__" (br zm) (bg zm) (aq zm) .none Ow EM Cr PP vF Df),Mz⟩)
  (ccRing___init__:PySem.W.codeIn K vF "Ring.__init__"=true)
  (xaRing:pY K a7 bmV "ValueError.__new__"=true)
  (xkRing:PySem.W.keepIn K (.ref a7)=true)
  (ysRingring:PySem.W.findIn K (.ref a7) "__setattr__"=some (some (.builtin "object.__setattr__")))
  (yoRingring:LD K a7=true)
  (ytRingring:PySem.W.takerIn K a7 "ring"=some none)
  (yhRingring:PySem.W.hasDictIn K a7=true)
  (zaRingring:PySem.W.findIn K (.ref a7) "__getattribute__"=some (some (.builtin "BaseException.__getattribute__")))
  (zbRingring:PySem.W.findIn K (.ref a7) "__getattr__"=some none)
  (znRingring:PySem.W.findIn K (.ref a7) "ring"=some none)
  (aweights_of:PySem.W.nsIn K mainGlobals "weights_of"=some (some (.ref oq)))
  (lweights_of:K.lookup oq=some ⟨Ce,BR,.func (PySem.W.fnOf "weights_of" "weights_of" (br rD) (bg rD) (aq rD) .none B9 Dz E6 CK tN EU),Eo⟩)
  (ccweights_of:PySem.W.codeIn K tN "weights_of"=true)
  (kweights_of:PySem.W.keepIn K (.ref oq)=true)
  (aleft_at_points:PySem.W.nsIn K mainGlobals "left_at_points"=some (some (.ref py)))
  (lleft_at_points:K.lookup py=some ⟨Cn,Dg,.func (PySem.W.fnOf "left_at_points" "left_at_points" (br zc) (bg zc) (aq zc) .none D8 Dx CG BO vJ BU),Ch⟩)
  (ccleft_at_points:PySem.W.codeIn K vJ "left_at_points"=true)
  (kleft_at_points:PySem.W.keepIn K (.ref py)=true)
  (abound:PySem.W.nsIn K mainGlobals "bound"=some (some (.ref o7)))
  (lbound:K.lookup o7=some ⟨EB,C9,.func (PySem.W.fnOf "bound" "bound" (br qi) (bg qi) (aq qi) .none CZ E7 Ck EV uU Da),CP⟩)
  (ccbound:PySem.W.codeIn K uU "bound"=true)
  (kbound:PySem.W.keepIn K (.ref o7)=true)
  (aLayout___init__:PySem.W.findIn K (.ref dE) "__init__"=some (some (.ref kJ)))
  (iLayout___init__:PySem.W.isFn K (.ref kJ)=true)
  (lLayout___init__:K.lookup kJ=some ⟨Do,Ep,.func (PySem.W.fnOf "__init__" "Layout.__init__" (br jZ) (bg jZ) (aq jZ) .none BJ DD C4 Ez sB D7),Cl⟩)
  (ccLayout___init__:PySem.W.codeIn K sB "Layout.__init__"=true)
  (aLayout_slack:PySem.W.findIn K (.ref dE) "slack"=some (some (.ref iP)))
  (iLayout_slack:PySem.W.isFn K (.ref iP)=true)
  (lLayout_slack:K.lookup iP=some ⟨BA,Cg,.func (PySem.W.fnOf "slack" "Layout.slack" (br zI) (bg zI) (aq zI) .none B2 DT EW D9 sV Db),CV⟩)
  (ccLayout_slack:PySem.W.codeIn K sV "Layout.slack"=true)
  (kLayout_slack:PySem.W.keepIn K (.ref iP)=true)
  (aLayout_end_across:PySem.W.findIn K (.ref dE) "end_across"=some (some (.ref jk)))
  (iLayout_end_across:PySem.W.isFn K (.ref jk)=true)
  (lLayout_end_across:K.lookup jk=some ⟨Dp,DN,.func (PySem.W.fnOf "end_across" "Layout.end_across" (br zi) (bg zi) (aq zi) .none DB CM DS EX xA Ee),Dw⟩)
  (ccLayout_end_across:PySem.W.codeIn K xA "Layout.end_across"=true)
  (kLayout_end_across:PySem.W.keepIn K (.ref jk)=true)
  (afit:PySem.W.nsIn K mainGlobals "fit"=some (some (.ref nN)))
  (lfit:K.lookup nN=some ⟨wu,yC,.func (PySem.W.fnOf "fit" "fit" (br zt) (bg zt) (aq zt) .none xy sJ x8 uS ma yL),tG⟩)
  (ccfit:PySem.W.codeIn K ma "fit"=true)
  (kfit:PySem.W.keepIn K (.ref nN)=true)
  (apush_once:PySem.W.nsIn K mainGlobals "push_once"=some (some (.ref oN)))
  (lpush_once:K.lookup oN=some ⟨Dj,EH,.func (PySem.W.fnOf "push_once" "push_once" (br zz) (bg zz) (aq zz) .none Ex CB Cc Cp uW CC),BF⟩)
  (ccpush_once:PySem.W.codeIn K uW "push_once"=true)
  (kpush_once:PySem.W.keepIn K (.ref oN)=true)
  (aring_behind:PySem.W.nsIn K mainGlobals "ring_behind"=some (some (.ref oB)))
  (lring_behind:K.lookup oB=some ⟨BG,Ff,.func (PySem.W.fnOf "ring_behind" "ring_behind" (br zw) (bg zw) (aq zw) .none Dl C6 BW Cw tO E4),CA⟩)
  (ccring_behind:PySem.W.codeIn K tO "ring_behind"=true)
  (kring_behind:PySem.W.keepIn K (.ref oB)=true)
  (asend_once:PySem.W.nsIn K mainGlobals "send_once"=some (some (.ref o4)))
  (lsend_once:K.lookup o4=some ⟨Eb,Cj,.func (PySem.W.fnOf "send_once" "send_once" (br zE) (bg zE) (aq zE) .none ES wK vH DJ mt xH),C2⟩)
  (ccsend_once:PySem.W.codeIn K mt "send_once"=true)
  (ksend_once:PySem.W.keepIn K (.ref o4)=true)
  (asearch:PySem.W.nsIn K mainGlobals "search"=some (some (.ref gC)))
  (lsearch:K.lookup gC=some ⟨sw,sS,.func (PySem.W.fnOf "search" "search" (br rA) (bg rA) (aq rA) .none wE yr vQ sU jb tX),yd⟩)
  (ccsearch:PySem.W.codeIn K jb "search"=true)
  (ksearch:PySem.W.keepIn K (.ref gC)=true)
  (alook_around:PySem.W.nsIn K mainGlobals "look_around"=some (some (.ref iR)))
  (llook_around:K.lookup iR=some ⟨tF,xz,.func (PySem.W.fnOf "look_around" "look_around" (br pU) (bg pU) (aq pU) .none yO sR uH rV mF uK),yI⟩)
  (cclook_around:PySem.W.codeIn K mF "look_around"=true)
  (klook_around:PySem.W.keepIn K (.ref iR)=true)
  (away_back:PySem.W.nsIn K mainGlobals "way_back"=some (some (.ref jh)))
  (lway_back:K.lookup jh=some ⟨uj,uF,.func (PySem.W.fnOf "way_back" "way_back" (br zb) (bg zb) (aq zb) .none tz xR wX xh mJ xF),yU⟩)
  (ccway_back:PySem.W.codeIn K mJ "way_back"=true)
  (kway_back:PySem.W.keepIn K (.ref jh)=true)
  (asend_along:PySem.W.nsIn K mainGlobals "send_along"=some (some (.ref iS)))
  (lsend_along:K.lookup iS=some ⟨xK,yD,.func (PySem.W.fnOf "send_along" "send_along" (br p6) (bg p6) (aq p6) .none u8 tQ yM vG lS sO),xV⟩)
  (ccsend_along:PySem.W.codeIn K lS "send_along"=true)
  (ksend_along:PySem.W.keepIn K (.ref iS)=true)
  (aparts_of:PySem.W.nsIn K mainGlobals "parts_of"=some (some (.ref iQ)))
  (lparts_of:K.lookup iQ=some ⟨xP,ve,.func (PySem.W.fnOf "parts_of" "parts_of" (br qO) (bg qO) (aq qO) .none vV tD tj xQ lL vi),rW⟩)
  (ccparts_of:PySem.W.codeIn K lL "parts_of"=true)
  (kparts_of:PySem.W.keepIn K (.ref iQ)=true)
  (afrom_nought:PySem.W.nsIn K mainGlobals "from_nought"=some (some (.ref i6)))
  (lfrom_nought:K.lookup i6=some ⟨xw,yJ,.func (PySem.W.fnOf "from_nought" "from_nought" (br rP) (bg rP) (aq rP) .none uR xb yh sT mh vk),ub⟩)
  (ccfrom_nought:PySem.W.codeIn K mh "from_nought"=true)
  (kfrom_nought:PySem.W.keepIn K (.ref i6)=true)
  (afigure_worths:PySem.W.nsIn K mainGlobals "figure_worths"=some (some (.ref iH)))
  (lfigure_worths:K.lookup iH=some ⟨vS,xG,.func (PySem.W.fnOf "figure_worths" "figure_worths" (br yX) (bg yX) (aq yX) .none xO uh yR wU mB uf),rX⟩)
  (ccfigure_worths:PySem.W.codeIn K mB "figure_worths"=true)
  (kfigure_worths:PySem.W.keepIn K (.ref iH)=true)
  (alaid:PySem.W.nsIn K mainGlobals "laid"=some (some (.ref jq)))
  (llaid:K.lookup jq=some ⟨sk,ut,.func (PySem.W.fnOf "laid" "laid" (br nH) (bg nH) (aq nH) .none wZ u7 sC sv mq vz),sW⟩)
  (cclaid:PySem.W.codeIn K mq "laid"=true)
  (klaid:PySem.W.keepIn K (.ref jq)=true)
  (aapart:PySem.W.nsIn K mainGlobals "apart"=some (some (.ref ju)))
  (lapart:K.lookup ju=some ⟨uO,tU,.func (PySem.W.fnOf "apart" "apart" (br zQ) (bg zQ) (aq zQ) .none yG vK xt wP lR yS),yl⟩)
  (ccapart:PySem.W.codeIn K lR "apart"=true)
  (kapart:PySem.W.keepIn K (.ref ju)=true)
  (aneighbours:PySem.W.nsIn K mainGlobals "neighbours"=some (some (.ref jn)))
  (lneighbours:K.lookup jn=some ⟨xJ,wo,.func (PySem.W.fnOf "neighbours" "neighbours" (br rj) (bg rj) (aq rj) .none tT uv uo wq lU yp),xB⟩)
  (ccneighbours:PySem.W.codeIn K lU "neighbours"=true)
  (kneighbours:PySem.W.keepIn K (.ref jn)=true)
  (akeeps_gap:PySem.W.nsIn K mainGlobals "keeps_gap"=some (some (.ref i7)))
  (lkeeps_gap:K.lookup i7=some ⟨sP,t8,.func (PySem.W.fnOf "keeps_gap" "keeps_gap" (br rc) (bg rc) (aq rc) .none xY uT vP xr lK r6),xZ⟩)
  (cckeeps_gap:PySem.W.codeIn K lK "keeps_gap"=true)
  (kkeeps_gap:PySem.W.keepIn K (.ref i7)=true)
  (acost_of:PySem.W.nsIn K mainGlobals "cost_of"=some (some (.ref jm)))
  (lcost_of:K.lookup jm=some ⟨tp,vD,.func (PySem.W.fnOf "cost_of" "cost_of" (br qS) (bg qS) (aq qS) .none uy we vN tV lG xU),vA⟩)
  (cccost_of:PySem.W.codeIn K lG "cost_of"=true)
  (kcost_of:PySem.W.keepIn K (.ref jm)=true)
  (amarks_in_line:PySem.W.nsIn K mainGlobals "marks_in_line"=some (some (.ref jo)))
  (lmarks_in_line:K.lookup jo=some ⟨sY,sK,.func (PySem.W.fnOf "marks_in_line" "marks_in_line" (br zj) (bg zj) (aq zj) .none yx wQ uD sX mW vd),vm⟩)
  (ccmarks_in_line:PySem.W.codeIn K mW "marks_in_line"=true)
  (kmarks_in_line:PySem.W.keepIn K (.ref jo)=true)
  (aasked:PySem.W.nsIn K mainGlobals "asked"=some (some (.ref i9)))
  (lasked:K.lookup i9=some ⟨xC,uk,.func (PySem.W.fnOf "asked" "asked" (br pP) (bg pP) (aq pP) .none tJ uV yB ya lD vY),vq⟩)
  (ccasked:PySem.W.codeIn K lD "asked"=true)
  (kasked:PySem.W.keepIn K (.ref i9)=true)
  (asideways:PySem.W.nsIn K mainGlobals "sideways"=some (some (.ref jf)))
  (lsideways:K.lookup jf=some ⟨t7,xI,.func (PySem.W.fnOf "sideways" "sideways" (br zp) (bg zp) (aq zp) .none tw tH tY tS me yN),vT⟩)
  (ccsideways:PySem.W.codeIn K me "sideways"=true)
  (ksideways:PySem.W.keepIn K (.ref jf)=true)
  (a_law_cell_at:PySem.W.nsIn K mainGlobals "_law_cell_at"=some (some (.ref ja)))
  (l_law_cell_at:K.lookup ja=some ⟨xD,wg,.func (PySem.W.fnOf "_law_cell_at" "_law_cell_at" (br zS) (bg zS) (aq zS) .none tR vL yz vI mC sM),vy⟩)
  (cc_law_cell_at:PySem.W.codeIn K mC "_law_cell_at"=true)
  (k_law_cell_at:PySem.W.keepIn K (.ref ja)=true)
  (a_law_mixed:PySem.W.nsIn K mainGlobals "_law_mixed"=some (some (.ref jv)))
  (l_law_mixed:K.lookup jv=some ⟨ud,wy,.func (PySem.W.fnOf "_law_mixed" "_law_mixed" (br zN) (bg zN) (aq zN) .none wJ uX vx yv mU xE),yj⟩)
  (cc_law_mixed:PySem.W.codeIn K mU "_law_mixed"=true)
  (k_law_mixed:PySem.W.keepIn K (.ref jv)=true)
  (a_law_rows:PySem.W.nsIn K mainGlobals "_law_rows"=some (some (.ref iT)))
  (l_law_rows:K.lookup iT=some ⟨tW,uN,.func (PySem.W.fnOf "_law_rows" "_law_rows" (br rT) (bg rT) (aq rT) .none xS tf xM wF mM tZ),yP⟩)
  (cc_law_rows:PySem.W.codeIn K mM "_law_rows"=true)
  (k_law_rows:PySem.W.keepIn K (.ref iT)=true)
  (a_law_lines:PySem.W.nsIn K mainGlobals "_law_lines"=some (some (.ref iW)))
  (l_law_lines:K.lookup iW=some ⟨vR,vZ,.func (PySem.W.fnOf "_law_lines" "_law_lines" (br zO) (bg zO) (aq zO) .none yE uB vp wb mL sy),uQ⟩)
  (cc_law_lines:PySem.W.codeIn K mL "_law_lines"=true)
  (k_law_lines:PySem.W.keepIn K (.ref iW)=true)
  (a_law_packed:PySem.W.nsIn K mainGlobals "_law_packed"=some (some (.ref jt)))
  (l_law_packed:K.lookup jt=some ⟨x9,yo,.func (PySem.W.fnOf "_law_packed" "_law_packed" (br zG) (bg zG) (aq zG) .none yi u9 yg t9 mH xf),uY⟩)
  (cc_law_packed:PySem.W.codeIn K mH "_law_packed"=true)
  (k_law_packed:PySem.W.keepIn K (.ref jt)=true)
  (a_law_moved:PySem.W.nsIn K mainGlobals "_law_moved"=some (some (.ref iI)))
  (l_law_moved:K.lookup iI=some ⟨sI,xu,.func (PySem.W.fnOf "_law_moved" "_law_moved" (br zq) (bg zq) (aq zq) .none uZ ye ui xN mI vX),sD⟩)
  (cc_law_moved:PySem.W.codeIn K mI "_law_moved"=true)
  (k_law_moved:PySem.W.keepIn K (.ref iI)=true)
  (a_law_less:PySem.W.nsIn K mainGlobals "_law_less"=some (some (.ref iU)))
  (l_law_less:K.lookup iU=some ⟨ym,xo,.func (PySem.W.fnOf "_law_less" "_law_less" (br zh) (bg zh) (aq zh) .none uA yQ wa ux mf xq),yV⟩)
  (cc_law_less:PySem.W.codeIn K mf "_law_less"=true)
  (k_law_less:PySem.W.keepIn K (.ref iU)=true)
  (alaw:PySem.W.nsIn K mainGlobals "law"=some (some (.ref pb)))
  (llaw:K.lookup pb=some ⟨uL,yb,.func (PySem.W.fnOf "law" "law" (br nC) (bg nC) (aq nC) .none tm yH xp yf lM so),sF⟩)
  (cclaw:PySem.W.codeIn K lM "law"=true)
  (klaw:PySem.W.keepIn K (.ref pb)=true)
  (qBASE:PySem.W.nsIn K mainGlobals "BASE"=some (some (.int 16 lC)))
  (qMOST_LINES:PySem.W.nsIn K mainGlobals "MOST_LINES"=some (some (.int 40 b8)))
  (qMOST_MARKS:PySem.W.nsIn K mainGlobals "MOST_MARKS"=some (some (.int 40 cg)))
  (lcsearch:jb=.ref bS)
  (lksearch:K.lookup bS=some ⟨uJ,sH,.fields dB,vg⟩)
  (ltsearch:dB[11]?=some (.ref aM))
  (lhsearch:PySem.W.codeHdIn K bS aM=true)
  (lnsearch:K.lookup aM=none)
  (lmsearch:aM∈TS)
  (zabs:PySem.W.nsIn K mainGlobals "abs"=some none)
  (zall:PySem.W.nsIn K mainGlobals "all"=some none)
  (zany:PySem.W.nsIn K mainGlobals "any"=some none)
  (zdict:PySem.W.nsIn K mainGlobals "dict"=some none)
  (zenumerate:PySem.W.nsIn K mainGlobals "enumerate"=some none)
  (zlen:PySem.W.nsIn K mainGlobals "len"=some none)
  (zlist:PySem.W.nsIn K mainGlobals "list"=some none)
  (zmax:PySem.W.nsIn K mainGlobals "max"=some none)
  (zmin:PySem.W.nsIn K mainGlobals "min"=some none)
  (zrange:PySem.W.nsIn K mainGlobals "range"=some none)
  (zsum:PySem.W.nsIn K mainGlobals "sum"=some none)
  (zzip:PySem.W.nsIn K mainGlobals "zip"=some none)
  (hnd:[aM].Nodup) :
  ∃ (fd:FuncData) (ts:List Tab) (sp:Sp),(∀ (s:Shared) (u:Value),BindsTo s fd ⟨[u],[]⟩ [("_law_script",u)])/\(ts.map (·.1)).Nodup/\(∀ t∈ts,t.1∈TS/\(∃ c,PySem.W.codeHdIn K c t.1=true)/\K.lookup t.1=none) /\
    (∀ (H:Hp) (a:Addr) (ns:List Int),ns.length<=63->zy ts H->SqL K H a (ns.map V.int)->sp [.ref a] H (fun v _=>v=.bl true) fun _ _ _=>False) /\
    ∀ base:Heap,K.In base->base.Ns mainGlobals mg->cD l.prog w K mg base CX0 14 fa fd ["_law_script"] sp:=by
 have e:=Oc.symm.trans (PySem.W.mg_of X G alaw);cases e
 have T:Tx K mg ⟨vO,lY,mj,a7,dE,aM⟩:=⟨PySem.W.mg_of X G aDrawError,
  xbDrawError,
  xtDrawError,
  PySem.W.mg_of X G aTooMany,
  xbTooMany,
  xtTooMany,
  ⟨xaTooMany,xkTooMany,xiTooMany⟩,
  PySem.W.mg_of X G aNoFlow,
  xbNoFlow,
  xtNoFlow,
  ⟨xaNoFlow,xkNoFlow,xiNoFlow⟩,
  PySem.W.mg_of X G aRing,
  xbRing,
  xtRing,
  PySem.W.mg_of X G aLayout,
  ⟨pgLayout,hdLayout,poLayout,saLayout⟩,
  naLayout_coming,
  naLayout_flow,
  naLayout_going,
  naLayout_leasts,
  naLayout_needs,
  naLayout_ones,
  naLayout_others,
  naLayout_places,
  ⟨Ap,_,bD lRing___init__ ccRing___init__,⟨xaRing,xkRing,aRing___init__,iRing___init__⟩,PySem.W.mg_of X G aRing,(.all (j9 fun _ _=>rfl))⟩,
  ⟨ysRingring,yoRingring,ytRingring,yhRingring⟩,
  ⟨zaRingring,zbRingring,xbRing,znRingring,yhRingring⟩,
  ⟨_,_,[],bD lweights_of ccweights_of,PySem.W.mg_of X G aweights_of,kweights_of,(.all (nL fun _=>rfl)),.nil⟩,
  ⟨_,_,[],bD lleft_at_points ccleft_at_points,PySem.W.mg_of X G aleft_at_points,kleft_at_points,(.all (li fun _ _ _=>rfl)),.nil⟩,
  ⟨_,_,[],bD lbound ccbound,PySem.W.mg_of X G abound,kbound,(.all (li fun _ _ _=>rfl)),.nil⟩,
  ⟨kJ,_,bD lLayout___init__ ccLayout___init__,⟨mkLayout,aLayout___init__,iLayout___init__,kcLayout⟩,PySem.W.mg_of X G aLayout,(.all (li fun _ _ _=>rfl))⟩,
  ⟨iP,_,[],bD lLayout_slack ccLayout_slack,⟨aLayout_slack,iLayout_slack,kLayout_slack⟩,(.all (j9 fun _ _=>rfl)),.nil⟩,
  ⟨jk,_,[],bD lLayout_end_across ccLayout_end_across,⟨aLayout_end_across,iLayout_end_across,kLayout_end_across⟩,(.all (li fun _ _ _=>rfl)),.nil⟩,
  ⟨_,_,[],bD lfit ccfit,PySem.W.mg_of X G afit,kfit,(.all (nL fun _=>rfl)),.nil⟩,
  ⟨_,_,[],bD lpush_once ccpush_once,PySem.W.mg_of X G apush_once,kpush_once,(.all (j9 fun _ _=>rfl)),.nil⟩,
  ⟨_,_,[],bD lring_behind ccring_behind,PySem.W.mg_of X G aring_behind,kring_behind,(.all (li fun _ _ _=>rfl)),.nil⟩,
  ⟨_,_,[],bD lsend_once ccsend_once,PySem.W.mg_of X G asend_once,ksend_once,(.all (nL fun _=>rfl)),.nil⟩,
  ⟨_,_,[],bD lsearch ccsearch,PySem.W.mg_of X G asearch,ksearch,(.all (li fun _ _ _=>rfl)),.nil⟩,
  ⟨_,_,[],bD llook_around cclook_around,PySem.W.mg_of X G alook_around,klook_around,(.all (len5 fun _ _ _ _ _=>rfl)),.nil⟩,
  ⟨_,_,[],bD lway_back ccway_back,PySem.W.mg_of X G away_back,kway_back,(.all (li fun _ _ _=>rfl)),.nil⟩,
  ⟨_,_,[],bD lsend_along ccsend_along,PySem.W.mg_of X G asend_along,ksend_along,(.all (li fun _ _ _=>rfl)),.nil⟩,
  ⟨_,_,[],bD lparts_of ccparts_of,PySem.W.mg_of X G aparts_of,kparts_of,(.all (j9 fun _ _=>rfl)),.nil⟩,
  ⟨_,_,[],bD lfrom_nought ccfrom_nought,PySem.W.mg_of X G afrom_nought,kfrom_nought,(.all (j9 fun _ _=>rfl)),.nil⟩,
  ⟨_,_,[],bD lfigure_worths ccfigure_worths,PySem.W.mg_of X G afigure_worths,kfigure_worths,(.all (nL fun _=>rfl)),.nil⟩,
  ⟨_,_,[],bD llaid cclaid,PySem.W.mg_of X G alaid,klaid,(.all (j9 fun _ _=>rfl)),.nil⟩,
  ⟨_,_,[],bD lapart ccapart,PySem.W.mg_of X G aapart,kapart,(.all (len4 fun _ _ _ _=>rfl)),.nil⟩,
  ⟨_,_,[],bD lneighbours ccneighbours,PySem.W.mg_of X G aneighbours,kneighbours,(.all (nL fun _=>rfl)),.nil⟩,
  ⟨_,_,[],bD lkeeps_gap cckeeps_gap,PySem.W.mg_of X G akeeps_gap,kkeeps_gap,(.all (len4 fun _ _ _ _=>rfl)),.nil⟩,
  ⟨_,_,[],bD lcost_of cccost_of,PySem.W.mg_of X G acost_of,kcost_of,(.all (j9 fun _ _=>rfl)),.nil⟩,
  ⟨_,_,[],bD lmarks_in_line ccmarks_in_line,PySem.W.mg_of X G amarks_in_line,kmarks_in_line,(.all (nL fun _=>rfl)),.nil⟩,
  ⟨_,_,[],bD lasked ccasked,PySem.W.mg_of X G aasked,kasked,(.all (len4 fun _ _ _ _=>rfl)),.nil⟩,
  ⟨_,_,[],bD lsideways ccsideways,PySem.W.mg_of X G asideways,ksideways,(.all (len4 fun _ _ _ _=>rfl)),.nil⟩,
  ⟨_,_,[],bD l_law_cell_at cc_law_cell_at,PySem.W.mg_of X G a_law_cell_at,k_law_cell_at,(.all (j9 fun _ _=>rfl)),.nil⟩,
  ⟨_,_,[],bD l_law_mixed cc_law_mixed,PySem.W.mg_of X G a_law_mixed,k_law_mixed,(.all (j9 fun _ _=>rfl)),.nil⟩,
  ⟨_,_,[],bD l_law_rows cc_law_rows,PySem.W.mg_of X G a_law_rows,k_law_rows,(.all (nL fun _=>rfl)),.nil⟩,
  ⟨_,_,[],bD l_law_lines cc_law_lines,PySem.W.mg_of X G a_law_lines,k_law_lines,(.all (j9 fun _ _=>rfl)),.nil⟩,
  ⟨_,_,[],bD l_law_packed cc_law_packed,PySem.W.mg_of X G a_law_packed,k_law_packed,(.all (len4 fun _ _ _ _=>rfl)),.nil⟩,
  ⟨_,_,[],bD l_law_moved cc_law_moved,PySem.W.mg_of X G a_law_moved,k_law_moved,(.all (li fun _ _ _=>rfl)),.nil⟩,
  ⟨_,_,[],bD l_law_less cc_law_less,PySem.W.mg_of X G a_law_less,k_law_less,(.all (len6 fun _ _ _ _ _ _=>rfl)),.nil⟩,
  ⟨_,_,[],bD llaw cclaw,PySem.W.mg_of X G alaw,klaw,(.all (nL fun _=>rfl)),.nil⟩,
  ⟨lC,PySem.W.mg_of X G qBASE⟩,
  ⟨b8,PySem.W.mg_of X G qMOST_LINES⟩,
  ⟨cg,PySem.W.mg_of X G qMOST_MARKS⟩,
  ⟨gC,PySem.W.mg_of X G asearch,⟨bS,S8 lsearch lcsearch,lhsearch⟩,lnsearch⟩,
  PySem.W.mg_none_of X G zabs,
  PySem.W.mg_none_of X G zall,
  PySem.W.mg_none_of X G zany,
  PySem.W.mg_none_of X G zdict,
  PySem.W.mg_none_of X G zenumerate,
  PySem.W.mg_none_of X G zlen,
  PySem.W.mg_none_of X G zlist,
  PySem.W.mg_none_of X G zmax,
  PySem.W.mg_none_of X G zmin,
  PySem.W.mg_none_of X G zrange,
  PySem.W.mg_none_of X G zsum,
  PySem.W.mg_none_of X G zzip⟩
 refine⟨_,[(aM,p7,pK)],spLaw K ⟨vO,lY,mj,a7,dE,aM⟩,fun s v=>.of_eq rfl,hnd,?_,?_,fun base _ _=>ok_law T _ _ (bD (st:=nC) llaw cclaw)⟩
 ·intro t ht
  simp only[VH,VC,or_false] at ht
  rcases ht with rfl
  ·exact⟨lmsearch,⟨_,lhsearch⟩,lnsearch⟩
 ·exact fun H a ns hl hO hS=>⟨a,ns,rfl,hS,hl,hO.1 (aM,p7,pK) (by simp),fun _=>rfl⟩
theorem walk {l:PySem.W.OpenLaw}{q:Program}{dF:List Str}{XP:(Str->Option Value)->Heap->Prop}{YP:World->Heap->Prop}{d:DefRec}{K:Params->PySem.W.Frag}{TS:List Addr} (hn:l.most=some 63) (mV:d.params.defaults=[])
  (hY:∀ (w:World) (h:Heap),YP w h->(K w.params).In h/\∀ P∈TS,h.get? P=some (PySem.W.tabObj #[]))
  (F:∀ (w:World) (mg:Str->Option Value) (fa:Addr) (h:Heap),(K w.params).In h->h.Ns mainGlobals mg->mg d.name=some (.ref fa)->∃ (fd:FuncData) (ts:List Tab) (sp:Sp),(∀ (s:Shared) (u:Value),BindsTo s fd ⟨[u],[]⟩ [("_law_script",u)])/\(ts.map (·.1)).Nodup/\(∀ t∈ts,t.1∈TS/\(∃ c,PySem.W.codeHdIn (K w.params) c t.1=true)/\(K w.params).lookup t.1=none) /\
    (∀ (H:Hp) (a:Addr) (ns:List Int),ns.length<=63->zy ts H->SqL (K w.params) H a (ns.map V.int)->sp [.ref a] H (fun v _=>v=.bl true) fun _ _ _=>False) /\
    ∀ base:Heap,(K w.params).In base->base.Ns mainGlobals mg->cD l.prog w (K w.params) mg base CX0 14 fa fd ["_law_script"] sp) :
  PySem.W.WalkO q dF XP YP l.row.toRowW d [] (fun f vs=>PySem.call f vs):=
 L2.zkf (n:=63) (k:=14) (x:="_law_script") hn (by decide) mV ⟨by decide,by decide⟩ hY F
end K64
def PySem.W.Fast.tw10629042714169561294:=()
def PySem.W.Fast.tw5065802118299498231:=()
def PySem.W.Fast.tw8605654029760432819:=()
def PySem.W.Fast.tw9958409742017989735:=()
def PySem.W.Fast.tw6304667373585266455:=()
def PySem.W.Fast.tw15842893481001286877:=()
def PySem.W.Fast.tw6649804480293035823:=()
def PySem.W.Fast.tw11636274114007534882:=()
def PySem.W.Fast.tw6845292250549153108:=()
def PySem.W.Fast.tw2809494712552119781:=()
def PySem.W.Fast.tw863704094475535928:=()
def PySem.W.Fast.tw17134039861173553422:=()
def PySem.W.Fast.tw14828800889989334081:=()
def PySem.W.Fast.tw6977627192488868102:=()
def PySem.W.Fast.tw7508530615918788213:=()
def PySem.W.Fast.tw3229273026011368999:=()
def PySem.W.Fast.tw10175433820641460227:=()
def PySem.W.Fast.tw17592592435824585408:=()
def PySem.W.Fast.tw17701300016109699589:=()
def PySem.W.Fast.tw8706181365193709903:=()
def PySem.W.Fast.tw11430460571571008353:=()
def PySem.W.Fast.tw17123769297399161586:=()
def PySem.W.Fast.tw4401523695502050326:=()
def PySem.W.Fast.tw7697649106793759146:=()
def PySem.W.Fast.tw3518499957999630452:=()
def PySem.W.Fast.tw1185552880322740337:=()
def PySem.W.Fast.tw4753659331082856816:=()
def PySem.W.Fast.tw5146357135886024293:=()
def PySem.W.Fast.tw14914093341423077746:=()
def PySem.W.Fast.tw9246995586290647182:=()
def PySem.W.Fast.tw2702635363553876606:=()
def PySem.W.Fast.tw1510923867374385162:=()
def PySem.W.Fast.tw1689573509682954109:=()
def PySem.W.Fast.tw13977841298691543235:=()
def PySem.W.Fast.tw5645144924452457441:=()
def PySem.W.Fast.tw8662216268439136277:=()
def PySem.W.Fast.tw1980662346260710499:=()
def PySem.W.Fast.tw368121819702945903:=()
def PySem.W.Fast.tw5542850267155208373:=()
def PySem.W.Fast.tw5863184140719059704:=()
def PySem.W.Fast.tw6128292602602586768:=()
def PySem.W.Fast.tw2346650822173008944:=()
def PySem.W.Fast.tw6451721959365466191:=()
def PySem.W.Fast.tw2204279875414700879:=()
def PySem.W.Fast.tw4859402714691852025:=()
def PySem.W.Fast.tw1859121203451706639:=()
def PySem.W.Fast.tw11079594778183193446:=()
def PySem.W.Fast.tw1322351245077062366:=()
def PySem.W.Fast.tw3461120352584338765:=()
def PySem.W.Fast.tw9645899584971389956:=()
open PySem PySem.W PyProof.Rows
set_option maxRecDepth 100000 in
set_option maxHeartbeats 0 in
theorem PySem.Challenge.cw_layerdraw_k64_none_costs_less_holds : PySem.Challenge.rw_layerdraw_k64_none_costs_less.Holds := by
 w_on;o_law;k_head;(case hw=>w_witness2)
 k_fill
 refine K64.walk (l:=PySem.Challenge.rw_layerdraw_k64_none_costs_less) rfl rfl (fun w h Y=>⟨PySem.W.km_in_of Y,PySem.W.km_tabs_of Y⟩) ?F
 case F=>
  intro w mg fa h KX G xT
  refine' K64.all_mk KX G xT ?aDrawError ?xbDrawError ?xtDrawError ?aTooMany ?xbTooMany ?xtTooMany ?xaTooMany ?xkTooMany ?xiTooMany ?aNoFlow ?xbNoFlow ?xtNoFlow ?xaNoFlow ?xkNoFlow ?xiNoFlow ?aRing ?xbRing ?xtRing ?aLayout ?pgLayout ?hdLayout ?poLayout ?saLayout ?mkLayout ?kcLayout ?naLayout_coming ?naLayout_flow ?naLayout_going ?naLayout_leasts ?naLayout_needs ?naLayout_ones ?naLayout_others ?naLayout_places ?aRing___init__ ?iRing___init__ ?lRing___init__ ?ccRing___init__ ?xaRing ?xkRing ?ysRingring ?yoRingring ?ytRingring ?yhRingring ?zaRingring ?zbRingring ?znRingring ?aweights_of ?lweights_of ?ccweights_of ?kweights_of ?aleft_at_points ?lleft_at_points ?ccleft_at_points ?kleft_at_points ?abound ?lbound ?ccbound ?kbound ?aLayout___init__ ?iLayout___init__ ?lLayout___init__ ?ccLayout___init__ ?aLayout_slack ?iLayout_slack ?lLayout_slack ?ccLayout_slack ?kLayout_slack ?aLayout_end_across ?iLayout_end_across ?lLayout_end_across ?ccLayout_end_across ?kLayout_end_across ?afit ?lfit ?ccfit ?kfit ?apush_once ?lpush_once ?ccpush_once ?kpush_once ?aring_behind ?lring_behind ?ccring_behind ?kring_behind ?asend_once ?lsend_once ?ccsend_once ?ksend_once ?asearch ?lsearch ?ccsearch ?ksearch ?alook_around ?llook_around ?cclook_around ?klook_around ?away_back ?lway_back ?ccway_back ?kway_back ?asend_along ?lsend_along ?ccsend_along ?ksend_along ?aparts_of ?lparts_of ?ccparts_of ?kparts_of ?afrom_nought ?lfrom_nought ?ccfrom_nought ?kfrom_nought ?afigure_worths ?lfigure_worths ?ccfigure_worths ?kfigure_worths ?alaid ?llaid ?cclaid ?klaid ?aapart ?lapart ?ccapart ?kapart ?aneighbours ?lneighbours ?ccneighbours ?kneighbours ?akeeps_gap ?lkeeps_gap ?cckeeps_gap ?kkeeps_gap ?acost_of ?lcost_of ?cccost_of ?kcost_of ?amarks_in_line ?lmarks_in_line ?ccmarks_in_line ?kmarks_in_line ?aasked ?lasked ?ccasked ?kasked ?asideways ?lsideways ?ccsideways ?ksideways ?a_law_cell_at ?l_law_cell_at ?cc_law_cell_at ?k_law_cell_at ?a_law_mixed ?l_law_mixed ?cc_law_mixed ?k_law_mixed ?a_law_rows ?l_law_rows ?cc_law_rows ?k_law_rows ?a_law_lines ?l_law_lines ?cc_law_lines ?k_law_lines ?a_law_packed ?l_law_packed ?cc_law_packed ?k_law_packed ?a_law_moved ?l_law_moved ?cc_law_moved ?k_law_moved ?a_law_less ?l_law_less ?cc_law_less ?k_law_less ?alaw ?llaw ?cclaw ?klaw ?qBASE ?qMOST_LINES ?qMOST_MARKS ?lcsearch ?lksearch ?ltsearch ?lhsearch ?lnsearch ?lmsearch ?zabs ?zall ?zany ?zdict ?zenumerate ?zlen ?zlist ?zmax ?zmin ?zrange ?zsum ?zzip ?hnd
  (case aDrawError=>first|k_is|kit_is|kernel_rfl|rfl)
  (case xbDrawError=>first|k_is|kit_is|kernel_rfl|rfl)
  (case xtDrawError=>first|k_is|kit_is|kernel_rfl|rfl)
  (case aTooMany=>first|k_is|kit_is|kernel_rfl|rfl)
  (case xbTooMany=>first|k_is|kit_is|kernel_rfl|rfl)
  (case xtTooMany=>first|k_is|kit_is|kernel_rfl|rfl)
  (case xaTooMany=>first|k_is|kit_is|kernel_rfl|rfl)
  (case xkTooMany=>first|k_is|kit_is|kernel_rfl|rfl)
  (case xiTooMany=>first|k_is|kit_is|kernel_rfl|rfl)
  (case aNoFlow=>first|k_is|kit_is|kernel_rfl|rfl)
  (case xbNoFlow=>first|k_is|kit_is|kernel_rfl|rfl)
  (case xtNoFlow=>first|k_is|kit_is|kernel_rfl|rfl)
  (case xaNoFlow=>first|k_is|kit_is|kernel_rfl|rfl)
  (case xkNoFlow=>first|k_is|kit_is|kernel_rfl|rfl)
  (case xiNoFlow=>first|k_is|kit_is|kernel_rfl|rfl)
  (case aRing=>first|k_is|kit_is|kernel_rfl|rfl)
  (case xbRing=>first|k_is|kit_is|kernel_rfl|rfl)
  (case xtRing=>first|k_is|kit_is|kernel_rfl|rfl)
  (case aLayout=>first|k_is|kit_is|kernel_rfl|rfl)
  (case pgLayout=>first|k_is|kit_is|kernel_rfl|rfl)
  (case hdLayout=>first|k_is|kit_is|kernel_rfl|rfl)
  (case poLayout=>first|k_is|kit_is|kernel_rfl|rfl)
  (case saLayout=>first|k_is|kit_is|kernel_rfl|rfl)
  (case mkLayout=>first|k_is|kit_is|kernel_rfl|rfl)
  (case kcLayout=>first|k_is|kit_is|kernel_rfl|rfl)
  (case naLayout_coming=>first|k_is|kit_is|kernel_rfl|rfl)
  (case naLayout_flow=>first|k_is|kit_is|kernel_rfl|rfl)
  (case naLayout_going=>first|k_is|kit_is|kernel_rfl|rfl)
  (case naLayout_leasts=>first|k_is|kit_is|kernel_rfl|rfl)
  (case naLayout_needs=>first|k_is|kit_is|kernel_rfl|rfl)
  (case naLayout_ones=>first|k_is|kit_is|kernel_rfl|rfl)
  (case naLayout_others=>first|k_is|kit_is|kernel_rfl|rfl)
  (case naLayout_places=>first|k_is|kit_is|kernel_rfl|rfl)
  (case aRing___init__=>first|k_is|kit_is|kernel_rfl|rfl)
  (case iRing___init__=>first|k_is|kit_is|kernel_rfl|rfl)
  (case lRing___init__=>first|k_is|kit_is|kernel_rfl|rfl)
  (case ccRing___init__=>first|k_is|kit_is|kernel_rfl|rfl)
  (case xaRing=>first|k_is|kit_is|kernel_rfl|rfl)
  (case xkRing=>first|k_is|kit_is|kernel_rfl|rfl)
  (case ysRingring=>first|k_is|kit_is|kernel_rfl|rfl)
  (case yoRingring=>first|k_is|kit_is|kernel_rfl|rfl)
  (case ytRingring=>first|k_is|kit_is|kernel_rfl|rfl)
  (case yhRingring=>first|k_is|kit_is|kernel_rfl|rfl)
  (case zaRingring=>first|k_is|kit_is|kernel_rfl|rfl)
  (case zbRingring=>first|k_is|kit_is|kernel_rfl|rfl)
  (case znRingring=>first|k_is|kit_is|kernel_rfl|rfl)
  (case aweights_of=>first|k_is|kit_is|kernel_rfl|rfl)
  (case lweights_of=>first|k_is|kit_is|kernel_rfl|rfl)
  (case ccweights_of=>first|k_is|kit_is|kernel_rfl|rfl)
  (case kweights_of=>first|k_is|kit_is|kernel_rfl|rfl)
  (case aleft_at_points=>first|k_is|kit_is|kernel_rfl|rfl)
  (case lleft_at_points=>first|k_is|kit_is|kernel_rfl|rfl)
  (case ccleft_at_points=>first|k_is|kit_is|kernel_rfl|rfl)
  (case kleft_at_points=>first|k_is|kit_is|kernel_rfl|rfl)
  (case abound=>first|k_is|kit_is|kernel_rfl|rfl)
  (case lbound=>first|k_is|kit_is|kernel_rfl|rfl)
  (case ccbound=>first|k_is|kit_is|kernel_rfl|rfl)
  (case kbound=>first|k_is|kit_is|kernel_rfl|rfl)
  (case aLayout___init__=>first|k_is|kit_is|kernel_rfl|rfl)
  (case iLayout___init__=>first|k_is|kit_is|kernel_rfl|rfl)
  (case lLayout___init__=>first|k_is|kit_is|kernel_rfl|rfl)
  (case ccLayout___init__=>first|k_is|kit_is|kernel_rfl|rfl)
  (case aLayout_slack=>first|k_is|kit_is|kernel_rfl|rfl)
  (case iLayout_slack=>first|k_is|kit_is|kernel_rfl|rfl)
  (case lLayout_slack=>first|k_is|kit_is|kernel_rfl|rfl)
  (case ccLayout_slack=>first|k_is|kit_is|kernel_rfl|rfl)
  (case kLayout_slack=>first|k_is|kit_is|kernel_rfl|rfl)
  (case aLayout_end_across=>first|k_is|kit_is|kernel_rfl|rfl)
  (case iLayout_end_across=>first|k_is|kit_is|kernel_rfl|rfl)
  (case lLayout_end_across=>first|k_is|kit_is|kernel_rfl|rfl)
  (case ccLayout_end_across=>first|k_is|kit_is|kernel_rfl|rfl)
  (case kLayout_end_across=>first|k_is|kit_is|kernel_rfl|rfl)
  (case afit=>first|k_is|kit_is|kernel_rfl|rfl)
  (case lfit=>first|k_is|kit_is|kernel_rfl|rfl)
  (case ccfit=>first|k_is|kit_is|kernel_rfl|rfl)
  (case kfit=>first|k_is|kit_is|kernel_rfl|rfl)
  (case apush_once=>first|k_is|kit_is|kernel_rfl|rfl)
  (case lpush_once=>first|k_is|kit_is|kernel_rfl|rfl)
  (case ccpush_once=>first|k_is|kit_is|kernel_rfl|rfl)
  (case kpush_once=>first|k_is|kit_is|kernel_rfl|rfl)
  (case aring_behind=>first|k_is|kit_is|kernel_rfl|rfl)
  (case lring_behind=>first|k_is|kit_is|kernel_rfl|rfl)
  (case ccring_behind=>first|k_is|kit_is|kernel_rfl|rfl)
  (case kring_behind=>first|k_is|kit_is|kernel_rfl|rfl)
  (case asend_once=>first|k_is|kit_is|kernel_rfl|rfl)
  (case lsend_once=>first|k_is|kit_is|kernel_rfl|rfl)
  (case ccsend_once=>first|k_is|kit_is|kernel_rfl|rfl)
  (case ksend_once=>first|k_is|kit_is|kernel_rfl|rfl)
  (case asearch=>first|k_is|kit_is|kernel_rfl|rfl)
  (case lsearch=>first|k_is|kit_is|kernel_rfl|rfl)
  (case ccsearch=>first|k_is|kit_is|kernel_rfl|rfl)
  (case ksearch=>first|k_is|kit_is|kernel_rfl|rfl)
  (case alook_around=>first|k_is|kit_is|kernel_rfl|rfl)
  (case llook_around=>first|k_is|kit_is|kernel_rfl|rfl)
  (case cclook_around=>first|k_is|kit_is|kernel_rfl|rfl)
  (case klook_around=>first|k_is|kit_is|kernel_rfl|rfl)
  (case away_back=>first|k_is|kit_is|kernel_rfl|rfl)
  (case lway_back=>first|k_is|kit_is|kernel_rfl|rfl)
  (case ccway_back=>first|k_is|kit_is|kernel_rfl|rfl)
  (case kway_back=>first|k_is|kit_is|kernel_rfl|rfl)
  (case asend_along=>first|k_is|kit_is|kernel_rfl|rfl)
  (case lsend_along=>first|k_is|kit_is|kernel_rfl|rfl)
  (case ccsend_along=>first|k_is|kit_is|kernel_rfl|rfl)
  (case ksend_along=>first|k_is|kit_is|kernel_rfl|rfl)
  (case aparts_of=>first|k_is|kit_is|kernel_rfl|rfl)
  (case lparts_of=>first|k_is|kit_is|kernel_rfl|rfl)
  (case ccparts_of=>first|k_is|kit_is|kernel_rfl|rfl)
  (case kparts_of=>first|k_is|kit_is|kernel_rfl|rfl)
  (case afrom_nought=>first|k_is|kit_is|kernel_rfl|rfl)
  (case lfrom_nought=>first|k_is|kit_is|kernel_rfl|rfl)
  (case ccfrom_nought=>first|k_is|kit_is|kernel_rfl|rfl)
  (case kfrom_nought=>first|k_is|kit_is|kernel_rfl|rfl)
  (case afigure_worths=>first|k_is|kit_is|kernel_rfl|rfl)
  (case lfigure_worths=>first|k_is|kit_is|kernel_rfl|rfl)
  (case ccfigure_worths=>first|k_is|kit_is|kernel_rfl|rfl)
  (case kfigure_worths=>first|k_is|kit_is|kernel_rfl|rfl)
  (case alaid=>first|k_is|kit_is|kernel_rfl|rfl)
  (case llaid=>first|k_is|kit_is|kernel_rfl|rfl)
  (case cclaid=>first|k_is|kit_is|kernel_rfl|rfl)
  (case klaid=>first|k_is|kit_is|kernel_rfl|rfl)
  (case aapart=>first|k_is|kit_is|kernel_rfl|rfl)
  (case lapart=>first|k_is|kit_is|kernel_rfl|rfl)
  (case ccapart=>first|k_is|kit_is|kernel_rfl|rfl)
  (case kapart=>first|k_is|kit_is|kernel_rfl|rfl)
  (case aneighbours=>first|k_is|kit_is|kernel_rfl|rfl)
  (case lneighbours=>first|k_is|kit_is|kernel_rfl|rfl)
  (case ccneighbours=>first|k_is|kit_is|kernel_rfl|rfl)
  (case kneighbours=>first|k_is|kit_is|kernel_rfl|rfl)
  (case akeeps_gap=>first|k_is|kit_is|kernel_rfl|rfl)
  (case lkeeps_gap=>first|k_is|kit_is|kernel_rfl|rfl)
  (case cckeeps_gap=>first|k_is|kit_is|kernel_rfl|rfl)
  (case kkeeps_gap=>first|k_is|kit_is|kernel_rfl|rfl)
  (case acost_of=>first|k_is|kit_is|kernel_rfl|rfl)
  (case lcost_of=>first|k_is|kit_is|kernel_rfl|rfl)
  (case cccost_of=>first|k_is|kit_is|kernel_rfl|rfl)
  (case kcost_of=>first|k_is|kit_is|kernel_rfl|rfl)
  (case amarks_in_line=>first|k_is|kit_is|kernel_rfl|rfl)
  (case lmarks_in_line=>first|k_is|kit_is|kernel_rfl|rfl)
  (case ccmarks_in_line=>first|k_is|kit_is|kernel_rfl|rfl)
  (case kmarks_in_line=>first|k_is|kit_is|kernel_rfl|rfl)
  (case aasked=>first|k_is|kit_is|kernel_rfl|rfl)
  (case lasked=>first|k_is|kit_is|kernel_rfl|rfl)
  (case ccasked=>first|k_is|kit_is|kernel_rfl|rfl)
  (case kasked=>first|k_is|kit_is|kernel_rfl|rfl)
  (case asideways=>first|k_is|kit_is|kernel_rfl|rfl)
  (case lsideways=>first|k_is|kit_is|kernel_rfl|rfl)
  (case ccsideways=>first|k_is|kit_is|kernel_rfl|rfl)
  (case ksideways=>first|k_is|kit_is|kernel_rfl|rfl)
  (case a_law_cell_at=>first|k_is|kit_is|kernel_rfl|rfl)
  (case l_law_cell_at=>first|k_is|kit_is|kernel_rfl|rfl)
  (case cc_law_cell_at=>first|k_is|kit_is|kernel_rfl|rfl)
  (case k_law_cell_at=>first|k_is|kit_is|kernel_rfl|rfl)
  (case a_law_mixed=>first|k_is|kit_is|kernel_rfl|rfl)
  (case l_law_mixed=>first|k_is|kit_is|kernel_rfl|rfl)
  (case cc_law_mixed=>first|k_is|kit_is|kernel_rfl|rfl)
  (case k_law_mixed=>first|k_is|kit_is|kernel_rfl|rfl)
  (case a_law_rows=>first|k_is|kit_is|kernel_rfl|rfl)
  (case l_law_rows=>first|k_is|kit_is|kernel_rfl|rfl)
  (case cc_law_rows=>first|k_is|kit_is|kernel_rfl|rfl)
  (case k_law_rows=>first|k_is|kit_is|kernel_rfl|rfl)
  (case a_law_lines=>first|k_is|kit_is|kernel_rfl|rfl)
  (case l_law_lines=>first|k_is|kit_is|kernel_rfl|rfl)
  (case cc_law_lines=>first|k_is|kit_is|kernel_rfl|rfl)
  (case k_law_lines=>first|k_is|kit_is|kernel_rfl|rfl)
  (case a_law_packed=>first|k_is|kit_is|kernel_rfl|rfl)
  (case l_law_packed=>first|k_is|kit_is|kernel_rfl|rfl)
  (case cc_law_packed=>first|k_is|kit_is|kernel_rfl|rfl)
  (case k_law_packed=>first|k_is|kit_is|kernel_rfl|rfl)
  (case a_law_moved=>first|k_is|kit_is|kernel_rfl|rfl)
  (case l_law_moved=>first|k_is|kit_is|kernel_rfl|rfl)
  (case cc_law_moved=>first|k_is|kit_is|kernel_rfl|rfl)
  (case k_law_moved=>first|k_is|kit_is|kernel_rfl|rfl)
  (case a_law_less=>first|k_is|kit_is|kernel_rfl|rfl)
  (case l_law_less=>first|k_is|kit_is|kernel_rfl|rfl)
  (case cc_law_less=>first|k_is|kit_is|kernel_rfl|rfl)
  (case k_law_less=>first|k_is|kit_is|kernel_rfl|rfl)
  (case alaw=>first|k_is|kit_is|kernel_rfl|rfl)
  (case llaw=>first|k_is|kit_is|kernel_rfl|rfl)
  (case cclaw=>first|k_is|kit_is|kernel_rfl|rfl)
  (case klaw=>first|k_is|kit_is|kernel_rfl|rfl)
  (case qBASE=>first|k_is|kit_is|kernel_rfl|rfl)
  (case qMOST_LINES=>first|k_is|kit_is|kernel_rfl|rfl)
  (case qMOST_MARKS=>first|k_is|kit_is|kernel_rfl|rfl)
  (case lcsearch=>rfl)
  (case lksearch=>first|k_is|kit_is|kernel_rfl|rfl)
  (case ltsearch=>rfl)
  (case lhsearch=>first|k_is|kit_is|kernel_rfl|rfl)
  (case lnsearch=>first|k_is|kit_is|kernel_rfl|rfl)
  (case lmsearch=>first|exact List.mem_cons_self|(simp;done)|k_is|kit_is|kernel_rfl|rfl)
  (case zabs=>first|k_is|kit_is|kernel_rfl|rfl)
  (case zall=>first|k_is|kit_is|kernel_rfl|rfl)
  (case zany=>first|k_is|kit_is|kernel_rfl|rfl)
  (case zdict=>first|k_is|kit_is|kernel_rfl|rfl)
  (case zenumerate=>first|k_is|kit_is|kernel_rfl|rfl)
  (case zlen=>first|k_is|kit_is|kernel_rfl|rfl)
  (case zlist=>first|k_is|kit_is|kernel_rfl|rfl)
  (case zmax=>first|k_is|kit_is|kernel_rfl|rfl)
  (case zmin=>first|k_is|kit_is|kernel_rfl|rfl)
  (case zrange=>first|k_is|kit_is|kernel_rfl|rfl)
  (case zsum=>first|k_is|kit_is|kernel_rfl|rfl)
  (case zzip=>first|k_is|kit_is|kernel_rfl|rfl)
  (case hnd=>decide)
