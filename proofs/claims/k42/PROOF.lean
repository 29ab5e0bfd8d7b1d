import PyProof.Rows.All
import Wide.All
import OpenK.AllK
import Wide.FinOn
import Lean
import PyProof.EqAt
import PyProof.EqKinds
import PyProof.TupleCall
import PyProof.NeKinds
import PySem.Challenge.RW_layerdraw_k42_rows_and_lines
set_option Elab.async false
set_option linter.all false
set_option maxRecDepth 100000
set_option maxHeartbeats 16000000
set_option genInjectivity false
set_option genSizeOf false
noncomputable section
theorem Y.{u}{α:Sort u}{a:α}:a=a:=rfl
section
open PySem PySem.Spec PyProof.Rows
def l7:=@wpAny_bind
def L9:=@List.length_map
def Ma:=@Heap.get?_push_of_some
def Mb:=@wpAny_pure
def Mc:=@Heap.lt_size
def Md:=@Nat.le_refl
def Me:=@List.mem_of_getElem?
def Mf:=@List.map_append
def Mg:=@List.length_append
def Mh:=@sizeLine_eq
def Mi:=@Heap.get?_push_size
def Mj:=@List.getElem?_eq_getElem
def Ml:=@List.length_take
def Mm:=@List.getElem?_map
def Mn:=@Nat.ne_of_lt
def Mo:=@List.mem_cons_of_mem
def Mp:=@List.size_toArray
def Mq:=@Bool.false_ne_true
def Mr:=@List.mem_append_right
def Ms:=@List.mem_cons_self
def Mt:=@List.length_cons
def Mu:=@List.take_length
def Mv:=@Nat.lt_of_lt_of_le
def Mw:=@Heap.get?_update_other
def Mx:=@List.getElem?_append_right
def My:=@List.getD_eq_getElem?_getD
def Mz:=@Bool.and_eq_true
def MA:=@Int.toNat_natCast
def MB:=@List.getElem?_append_left
def MC:=@List.mem_append_left
def MD:=@List.filter_cons
def ME:=@decide_eq_false
def MF:=@Nat.lt_irrefl
def MG:=@List.map_cons
def MH:=@decide_eq_true
def MI:=@Heap.size_push
def MJ:=@Heap.get?_update_self
def MK:=@Int.emod_lt_of_pos
def ML:=@Array.length_toList
def MM:=@wpAny_field
def MN:=@Nat.le_trans
def MO:=@List.not_mem_nil
def MP:=@of_decide_eq_true
def MQ:=@wpAny_callSpecial?_slot
def MR:=@Int.emod_nonneg
def MS:=@wpAny_holding
def MT:=@List.append_assoc
def MU:=@List.length_range
def MV:=@wpAny_mono
def MW:=@Nat.zero_le
def MX:=@Int.le_refl
def MY:=@Bool.false_eq_true
def MZ:=@of_decide_eq_false
def M0:=@Nat.lt_succ_of_lt
def M3:=@Nat.le_succ
def M4:=@wpAny_Call_Name_kw
def M5:=@List.mem_cons
def M6:=@Nat.le_add_right
def M7:=@wpAny_call_entry
def M8:=@List.take_of_length_le
def M9:=@Array.getElem?_toList
def Na:=@Nat.lt_of_le_of_lt
def Nb:=@wpAny_isInstance
def Nc:=@Nat.lt_succ_self
def Nd:=@List.lookup_cons
def Nf:=@Nat.ne_of_gt
def Ng:=@wpAny_setField
def Nh:=@wpAny_seqItems
def Ni:=@List.mem_map_of_mem
def Nj:=@List.append_nil
def Nk:=@Nat.le_of_lt
def Nl:=@List.length_drop
def Nm:=@List.all_eq_true
def Nn:=@wpAny_truthy_bool
def No:=@wpAny_loadPart_at
def Np:=@wpAny_attempt
def Nq:=@wpAny_rule
def Nr:=@List.length_filter_le
def Nt:=@decide_eq_false_iff_not
def Nu:=@List.length_reverse
def Nv:=@List.getElem_mem
def Nw:=@List.map_map
def Nx:=@wpAny_passesOwn
def Ny:=@Bool.and_eq_false_iff
def Nz:=@List.range_succ
def NA:=@wpAny_newObj_type
def NB:=@wpAny_pyIter_list
def NC:=@List.flatMap_cons
def ND:=@wpAny_letGo
def NE:=@List.getElem?_cons_succ
def NF:=@List.sum_cons
def NH:=@Bool.eq_iff_iff
def NI:=@wpAny_call
def NJ:=@List.find?_cons
def NK:=@wpAny_updateSeq
def NL:=@List.filter_append
def NM:=@List.getElem?_set_self
def NN:=@Nat.le_of_eq
def NO:=@List.nodup_nil
def NP:=@wpAny_tryCatch
def NQ:=@List.getElem?_set_ne
def NR:=@wpAny_standAt
def NS:=@List.filterMap_cons
def NT:=@List.flatMap_append
def NU:=@Bool.or_true
def NV:=@List.take_zero
def NW:=@Bool.not_eq_true'
def NX:=@List.take_add_one
def NY:=@List.foldl_append
def NZ:=@decide_eq_true_eq
def N0:=@List.getElem?_inj
def Oa:=@Array.getElem?_eq_none
def Ob:=@List.all_cons
def Oc:=@List.any_cons
def Od:=@List.pairwise_of_forall_mem_list
def Oe:=@List.take_append_drop
def Of:=@Array.getElem?_setIfInBounds_ne
def Og:=@wpAny_execs_nil
def Oh:=@List.length_nil
def Oi:=@List.map_nil
def Oj:=@List.forIn_cons
def Ol:=@wpAny_typeOf
def Om:=@wpAny_typeNameOfWhole_itemiter
def On:=@Heap.get?_push_cases
def Oo:=@List.mem_of_mem_take
def Op:=@List.length_zip
def Oq:=@wpAny_typeNameOfWhole_keyiter
def Os:=@wpAny_isSubtype_exc
def Ot:=@List.getElem_of_mem
def Ou:=@List.getElem?_range
def Ov:=@wpAny_fieldsOf
def Ow:=@wpAny_of_eq
def Ox:=@wpAny_setField_rec
def Oy:=@Bool.not_eq_false'
def Oz:=@List.map_take
def OA:=@wpAny_newList
def OB:=@Option.isSome_map
def OC:=@Nat.le_succ_of_le
def OD:=@Nat.lt_of_succ_lt
def OE:=@List.ext_getElem?
def OF:=@wpAny_check_type_call_sub
def OG:=@wpAny_typeNameOf_itemiter
def OH:=@List.drop_eq_getElem_cons
def OI:=@List.getElem?_zip_eq_some
def OJ:=@List.getElem?_take_of_lt
def OK:=@wpAny_comprehension_free
def OL:=@Nat.min_self
def OM:=@wpAny_typeNameOf_keyiter
def ON:=@Heap.size_update
def OO:=@Nat.lt_or_ge
def OP:=@Int.lt_trans
def OQ:=@Nat.zero_add
def OR:=@wpAny_pyNext_tuple_item
def OS:=@List.filter_cons_of_pos
def OT:=@List.filter_cons_of_neg
def OU:=@List.pairwise_singleton
def OV:=@wpAny_specialOf
def OW:=@List.of_mem_zip
def OX:=@List.length_set
def OY:=@List.filter_nil
def OZ:=@List.sum_append
def O0:=@wpAny_pyNext_list_item
def O2:=@wpAny_pyIter_tupleiter
def O3:=@List.range_succ_eq_map
def O4:=@List.flatMap_singleton
def O5:=@wpAny_isTrue_Compare1
def O6:=@wpAny_pyIter_listiter
def O7:=@wpAny_loadPart
def O8:=@List.length_singleton
def O9:=@List.getElem?_eq_none
def Pa:=@List.getElem?_toArray
def Pb:=@wpAny_newFunctionEnv
def Pc:=@wpAny_check_new_subT
def Pd:=@List.reverse_reverse
def Pe:=@Nat.mul_le_mul_right
def Pf:=@Bool.not_true
def Pg:=@wpAny_handleBy_cons
def Ph:=@List.reverse_append
def Pi:=@List.map_congr_left
def Pj:=@wpAny_Constant_int
def Pk:=@wpAny_pyIter_tuple
def Pm:=@List.all_map
def Pn:=@List.contains_cons
def Po:=@Int.le_of_lt
def Pp:=@List.zip_cons_cons
def Pq:=@List.getElem?_take
def Pr:=@wpAny_assign_Name
def Ps:=@Heap.Ns1.of_empty
def Pt:=@List.take_sublist
def Pu:=@wpAny_Call_method
def Pw:=@wpAny_dictEntries
def Px:=@wpAny_pyIter_enum
def Py:=@List.getElem_take
def Pz:=@List.pairwise_map
def PB:=@wpAny_Name
end
namespace L2
variable {A:Around}{E:Value->Shared->Prop}{G:Prop}{P prog:Program}{Q:Option Value->Shared->Prop}{R:Result->Shared->Prop}{a b e t:Addr}{cs:List Addr}{env:Env}{h h':Heap}{i:Nat}{pos:Pos}{s:Shared}{vs:Array Value}{w:World}
open PySem PySem.Spec PyProof.Rows
theorem ex3 {α:Sort _}{a b:α->Prop} (k:∀ x,a x->b x->G):(∃ x,a x/\b x)->G:=fun⟨x,h1,h2⟩=>k x h1 h2
theorem ex4 {α β:Sort _}{a b:α->β->Prop} (k:∀ x y,a x y->b x y->G):(∃ x y,a x y/\b x y)->G:=fun⟨x,y,h1,h2⟩=>k x y h1 h2
theorem ex5 {α β:Sort _}{a b c:α->β->Prop} (k:∀ x y,a x y->b x y->c x y->G):(∃ x y,a x y/\b x y/\c x y)->G:=fun⟨x,y,h1,h2,h3⟩=>k x y h1 h2 h3
theorem GK:entryFor table "proto.unchain"=some Builtin.«proto.unchain»:=entryFor_of_tree (by kernel_rfl)
def nxt (cs:List Addr) (j:Nat):Value:=match cs[j]? with|none=>Value.none|some b=>Value.ref b
def Chn (h:Heap) (cs:List Addr):Prop:=cs.Nodup/\∀ j a,cs[j]?=some a->∃ o vs,h.get? a=some o/\o.data=.fields vs/\vs[2]?=some (nxt cs (j + 1))
def Hd (A:Around) (h:Heap):Prop:=A.handled=none\/∃ a cs,A.handled=some (.ref a)/\Chn h (a::cs)
theorem Hd.keeps  (x:Hd A h) (k:∀ b o,h.get? b=some o->h'.get? b=some o):Hd A h':=by
 rcases x with e|⟨a,cs,e,nd,c⟩
 ·exact .inl e
 ·refine .inr ⟨a,cs,e,nd,fun j b hb=>?_⟩
  obtain⟨o,vs,ho,r⟩:=c j b hb;exact⟨o,vs,k b o ho,r⟩
theorem Hd.but {it:Addr}{oi:Obj} (x:Hd A h) (hit:h.get? it=some oi) (Fj:∀ vs,oi.data=.fields vs->vs.size<3\/vs[2]?≠some Value.none/\∀ b,vs[2]?≠some (.ref b)) (k:∀ b o,b≠it->h.get? b=some o->h'.get? b=some o):Hd A h':=by
 rcases x with e|⟨a,cs,e,nd,c⟩
 ·exact .inl e
 ·refine .inr ⟨a,cs,e,nd,fun j b hb=>?_⟩
  obtain⟨o,vs,ho,hd,h2⟩:=c j b hb;refine⟨o,vs,k b o (fun z=>?_) ho,hd,h2⟩;subst z;rw[hit] at ho;cases ho
  rcases Fj vs hd with q|⟨q1,q2⟩
  ·have:=(Array.getElem?_eq_some_iff.mp h2).1
   omega
  ·unfold nxt at h2
   cases hz:(a::cs)[j + 1]? with
   | none=>rw[hz] at h2;exact q1 h2
   | some y=>rw[hz] at h2;exact q2 y h2
theorem KN  (c:Chn s.heap cs) (he:e∉cs) (hR:R (.ok (.ret .none)) s):∀ (n j i:Nat) (o sl:Addr) (tg:Bool),cs.length - j=n->cs[j]?=some o->cs[i]?=some sl->i<=j ->
  codeAny (model prog w) A (.builtin "proto.unchain" ⟨[.ref e,.ref o,.ref sl,.bool tg],[]⟩) R s:=by
 intro n
 induction n with
 | zero=>
  intro j i o sl tg hn hj _ _;have:=(List.getElem?_eq_some_iff.mp hj).1;omega
 | succ n ih=>
  intro j i o sl tg hn hj hi uN;obtain⟨oo,vs,ho,hd,h2⟩:=c.2 j o hj;refine codeAny_builtin GK ?_;unfold Builtin.«proto.unchain»;refine l7 (MM ho hd h2 ?_);cases hz:cs[j + 1]? with
  | none=>
   simp only[nxt,hz]
   rw[if_pos (by rfl)];refine l7 (Mb (Mb ?_));exact hR
  | some b=>
   simp only[nxt,hz]
   have hb:b∈cs:=Me hz;have ju:b≠e:=fun z=>he (z ▸ hb)
   have DF:b≠sl:=fun z=>by
    subst z;have e1:=List.getElem?_eq_some_iff.mp hz;have e2:=List.getElem?_eq_some_iff.mp hi;have lt:i<j + 1:=by omega
    exact(List.pairwise_iff_getElem.mp c.1) i (j + 1) e2.1 e1.1 lt (e2.2.trans e1.2.symm)
   rw[if_neg (by simp),if_neg (by simpa using ju),if_neg (by simpa using DF)];have vN:∃ b',cs[i + 1]?=some b':=by
    have e1:=(List.getElem?_eq_some_iff.mp hz).1;exact⟨_,Mj (by omega)⟩
   obtain⟨b',jD⟩:=vN;cases tg with
   | false=>
    rw[if_neg (by simp)];refine l7 (Mb (Mb ?_));exact(⟨Code.quiet_builtin _ (by decide +kernel),ih (j + 1) i b sl true (by omega) hz hi (by omega)⟩)
   | true=>
    rw[if_pos rfl];obtain⟨os,ws,Dx,Ef,fX⟩:=c.2 i sl hi;simp only[nxt,jD] at fX
    refine l7 (MM Dx Ef fX (Mb ?_));exact(⟨Code.quiet_builtin _ (by decide +kernel),ih (j + 1) (i + 1) b b' false (by omega) hz jD (by omega)⟩)
theorem xD {α:Type}{oe:Obj}{Q:α->Shared->Prop} (hd:A.handled=none\/∃ a cs,A.handled=some (.ref a)/\Chn s.heap (a::cs)/\e∉a::cs) (he:s.heap.get? e=some oe) (hf:oe.data=.fields vs) (h2:2<vs.size)
  (h:∀ h' o' iV,(∀ b o,b≠e->s.heap.get? b=some o->h'.get? b=some o)->h'.get? e=some o'->o'.cls=oe.cls->o'.dict=oe.dict->o'.data=.fields iV->iV.size=vs.size->iV[1]?=vs[1]?->iV[2]?=(match A.handled with|none=>vs[2]?|some v=>some v)->E (.ref e) { s with heap:=h' }) :
  wpAny (model prog w) A (raiseNew (.ref e):Sem α) Q E s:=by
 unfold raiseNew;refine l7 (wpAny_handled ?_);rcases hd with hn|⟨a,cs,ha,c,lC⟩
 ·rw[hn]
  exact l7 (Mb (wpAny_throw (h s.heap oe vs (fun _ _ _ q=>q) he Y Y hf Y Y (by rw[hn]))))
 ·rw[ha]
  have Fk:a≠e:=fun z=>lC (by simp[z])
  show wpAny _ _ (if (Value.ref a != Value.ref e)=true then _ else _) _ _ s;rw[if_pos (by simpa using Fk)];refine l7 (MS (wpAny_runValue (KN c lC ?_ _ 0 0 a a false Y Y Y (Md _))));have up:=Obj.data_mapFields hf (·.setIfInBounds 2 (Value.ref a));refine l7 (show wpAny _ _ (setField (.ref e) 2 (.ref a)) _ _ s from Ng he hf h2 (wpAny_throw (h _ _ _ (fun b q hb hq=>(Mw _ _ (Ne.symm hb)).trans hq) (MJ _ he (Obj.isFreed_of_fields up)) (Obj.cls_mapFields _ _) ?_ up (by simp) ?_ ?_)))
  ·obtain⟨c1,d1,dt,sl⟩:=oe
   cases dt <;> rfl
  ·rw[Of (by decide)]
  ·rw[ha];simp[h2]
theorem Chn.lt  (c:Chn h cs):∀ b∈cs,b<h.objs.size:=fun b hb=>by
 obtain⟨j,hj⟩:=List.mem_iff_getElem?.mp hb;obtain⟨o,_,ho,_⟩:=c.2 j b hj;exact Mc ho
theorem Chn.mono  (c:Chn h cs) (k:∀ b o,b∈cs->h.get? b=some o->h'.get? b=some o):Chn h' cs:=⟨c.1,fun j a hj=>by
 obtain⟨o,vs,ho,r⟩:=c.2 j a hj;exact⟨o,vs,k a o (Me hj) ho,r⟩⟩
theorem kF {α:Type}{Q:α->Shared->Prop} (hd:Hd A s.heap)
  (h:∀ h' e,(∀ b o,s.heap.get? b=some o->h'.get? b=some o)->(∃ o',h'.get? e=some o'/\o'.cls=.type "StopIteration")->E (.ref e) { s with heap:=h' }) :
  wpAny (model prog w) A (newExc (.type "StopIteration") [] >>= fun e=>(raiseNew e:Sem α)) Q E s:=by
 refine l7 ?_;unfold newExc newTuple;refine l7 (NA ?_ (by size_fits));refine l7 (m:=firstArgMember _ _) (Ow (a:=Value.none) (by first|rfl|(simp only[firstArgMember];rfl)) (NA ?_ (by size_fits)));refine xD ?_ (Mi _ Y) Y (by simp;omega) fun h' o' iV k' e' c' _ _ _ _ _=>
  h h' _ (fun b o q=>k' b o (Mn (by rw[MI];exact M0 (Mc q))) (Ma _ (Ma _ q))) ⟨o',e',c'⟩
 rcases hd with hn|⟨a,cs,ha,c⟩
 ·exact .inl hn
 ·refine .inr ⟨a,cs,ha,c.mono fun b o _ q=>Ma _ (Ma _ q),fun z=>?_⟩
  have:=c.lt _ z;rw[MI] at this;exact absurd (Mv this (M3 _)) (MF _)
theorem Ae {it l:Addr} {items} (hd:Hd A s.heap) (hit:s.heap.IsListIter it l i) (hl:s.heap.IsList l items) (hx:items[i]?=none)
  (hQ:∀ h',Heap.ExtBut it s.heap h'->Q none { s with heap:=h' }):wpAny (model prog w) A (pyNext (.ref it)) Q E s:=by
 obtain⟨o,ho,hc,aB⟩:=id hit;obtain⟨ol,qh,_,nl,lZ⟩:=hl;unfold pyNext;refine l7 (Np (MQ (name:=Str.ofString "__next__") hit.typeIs slot_listiter_next (M7 slot_listiter_next hit.typeIs entry_listiter_next ?_ (args_listiter_next _))));refine(show wpAny _ _ (field (.ref it) 0 >>= _) _ _ s from l7 (MM ho aB (x:=.ref l) Y ?_));refine(show wpAny _ _ (if (Value.ref l == Value.none)=true then _ else _) _ _ s from ?_);rw[if_neg (by simp)];refine(show wpAny _ _ (field (.ref it) 1 >>= _) _ _ s from l7 (MM ho aB (x:=.int i 0) Y ?_));refine(show wpAny _ _ (seqItems? (.ref l) >>= _) _ _ s from l7 (Nh qh lZ ?_));simp only[MA,hx]
 refine l7 (Nq (l7 (Ng ho aB (by simp) ?_)));have sb:Heap.SameBut it s.heap (s.heap.update it (Obj.mapFields (·.setIfInBounds 0 Value.none))):=Heap.SameBut.update ..;refine kF (A:=A.in1) (hd.but ho (fun vs q=>.inl (by rw[aB] at q;cases q;simp)) sb.extBut) fun h' e k' ⟨o',e',c'⟩=>?_
 exact l7 (Nb (T:="StopIteration") (b:=true) ⟨o',e',c'⟩ isSubtype_stop (Mb (hQ h' fun b q hb hq=>k' b q (sb.extBut b q hb hq))))
theorem wO {it:Addr} {items} (hd:Hd A s.heap) (hit:s.heap.IsTupleIter it t i) (ht:s.heap.IsTuple t items) (hx:items[i]?=none)
  (hQ:∀ h',Heap.ExtBut it s.heap h'->Q none { s with heap:=h' }):wpAny (model prog w) A (pyNext (.ref it)) Q E s:=by
 obtain⟨o,ho,hc,aB⟩:=id hit;obtain⟨ol,qh,_,nl,lZ⟩:=ht;unfold pyNext;refine l7 (Np (MQ (name:=Str.ofString "__next__") hit.typeIs F.slot_tuple_iterator_next (M7 F.slot_tuple_iterator_next hit.typeIs F.entry_tuple_iterator_next ?_ (F.args_tuple_iterator_next_1 _))));refine(show wpAny _ _ (field (.ref it) 0 >>= _) _ _ s from l7 (MM ho aB (x:=.ref t) Y ?_));refine(show wpAny _ _ (if (Value.ref t == Value.none)=true then _ else _) _ _ s from ?_);rw[if_neg (by simp)];refine(show wpAny _ _ (field (.ref it) 1 >>= _) _ _ s from l7 (MM ho aB (x:=.int i 0) Y ?_));refine(show wpAny _ _ (seqItems? (.ref t) >>= _) _ _ s from l7 (Nh qh lZ ?_));simp only[MA,hx]
 refine l7 (Nq (l7 (Ng ho aB (by simp) ?_)));have sb:Heap.SameBut it s.heap (s.heap.update it (Obj.mapFields (·.setIfInBounds 0 Value.none))):=Heap.SameBut.update ..;refine kF (A:=A.in1) (hd.but ho (fun vs q=>.inl (by rw[aB] at q;cases q;simp)) sb.extBut) fun h' e k' ⟨o',e',c'⟩=>?_
 exact l7 (Nb (T:="StopIteration") (b:=true) ⟨o',e',c'⟩ isSubtype_stop (Mb (hQ h' fun b q hb hq=>k' b q (sb.extBut b q hb hq))))
theorem JD {it:Addr}{x left step:Int} (hd:Hd A s.heap) (hit:IsRangeIter s.heap it x left step) (qk:left<=0)
  (hQ:∀ h',Heap.ExtBut it s.heap h'->Q none { s with heap:=h' }):wpAny (model prog w) A (pyNext (.ref it)) Q E s:=by
 have hT:s.TypeIs (.ref it) "range_iterator":=⟨_,hit,Y⟩;unfold pyNext;refine l7 (Np (MQ (name:=Str.ofString "__next__") hT F.slot_range_iterator_next (M7 F.slot_range_iterator_next hT F.entry_range_iterator_next ?_ (F.args_range_iterator_next_1 _))));refine(show wpAny _ _ (field (.ref it) 0 >>= _) _ _ s from l7 (MM hit Y (x:=rawInt x) Y ?_));refine(show wpAny _ _ (field (.ref it) 1 >>= _) _ _ s from l7 (MM hit Y (x:=rawInt left) Y ?_));refine(show wpAny _ _ (field (.ref it) 2 >>= _) _ _ s from l7 (MM hit Y (x:=rawInt step) Y ?_));refine(show wpAny _ _ (if left<=0 then _ else _) _ _ s from ?_);rw[if_pos qk];refine l7 (Nq (l7 ?_));refine kF (A:=A.in1) hd fun h' e k' ⟨o',e',c'⟩=>?_
 exact l7 (Nb (T:="StopIteration") (b:=true) ⟨o',e',c'⟩ isSubtype_stop (Mb (hQ h' fun b q _ hq=>k' b q hq)))
theorem IM {items:Array Value}{Q:List Value->Shared->Prop} (hd:Hd A s.heap) (ht:IsTup s.heap t items)
  (hQ:∀ h',Heap.ExtBut s.heap.objs.size s.heap h'->Q items.toList { s with heap:=h' }):wpAny (model prog w) A (unpackItems (.ref t) items.size none) Q E s:=by
 have bp:t≠s.heap.objs.size:=by obtain⟨o,ho,_⟩:=ht;exact Mn (Mc ho)
 unfold unpackItems;refine l7 ?_;unfold notIterableAtAll;refine l7 (OV ht.typeIs slot_tuple_iter.lookup (Mb ?_));simp only[MY,if_false]
 refine l7 (MS (iter_tuple ht (l7 (MS (draw_tuple bp items.size 0 _ _ ⟨_,Mi _ Y,Y,Y⟩ (ht.push _) (by omega) fun h₁ ui dJ=>?_)))));rw[show List.take items.size (List.drop 0 items.toList)=items.toList by rw[List.drop_zero];exact M8 (by simp)];rw[if_neg (by simp)];have Ex:IsTup h₁ t items:=(ht.push _).extBut dJ.extBut bp;have k₁:∀ b o,s.heap.get? b=some o->h₁.get? b=some o:=fun b o e=>dJ.extBut b o (Mn (Mc e)) (Ma _ e)
 refine l7 (MS (wO (hd.keeps k₁) ui (show Heap.IsTuple h₁ t items from Ex) (by simp) fun h₂ FF=>?_));simp only[Option.isSome_none,MY,if_false]
 exact Mb (hQ h₂ fun b o hb e=>FF b o hb (k₁ b o e))
theorem GD {jB:List Expr} {x1}{items:Array Value}{Q:Unit->Shared->Prop} (hd:Hd A s.heap) (ht:IsTup s.heap t items) (hn:(assignEach jB env).length=items.size) (qj:(assignEach jB env).findIdx? (·.1)=none)
  (h:∀ h',Heap.ExtBut s.heap.objs.size s.heap h'->wpAny (model prog w) A (assignInOrder ((assignEach jB env).map (·.2)) items.toList) Q E { s with heap:=h' }):wpAny (model prog w) A (assign (.Tuple jB x1 pos) env (.ref t)) Q E s:=by
 rw[assign_Tuple];refine l7 (NR ?_);unfold unpack;rw[hn,qj];exact l7 (MS (IM hd ht h))
abbrev Key:=Sum Int Str
def mH:Key->Value->Bool
 | .inl k,v=>Value.isInt k v
 | .inr x,v=>Value.isStrOf x v
def keyH (w:World):Key->Int
 | .inl k=>hashInt k
 | .inr x=>hashStr w x
theorem jn:∀ {k:Key}{v:Value},mH k v=true->(∃ i t,k=Sum.inl i/\v=Value.int i t)\/(∃ x t,k=Sum.inr x/\v=Value.str x t)
 | .inl i,v,h=>by
  obtain⟨t,e⟩:=Value.isInt_shape (k:=i) (v:=v) h;exact .inl ⟨i,t,Y,e⟩
 | .inr x,v,h=>by
  obtain⟨t,e⟩:=Value.isStrOf_shape (x:=x) (v:=v) h;exact .inr ⟨x,t,Y,e⟩
theorem J8 (i:Int) (t:Tok):mH (.inl i) (.int i t)=true:=by simp[mH,Value.isInt]
theorem Ki (x:Str) (t:Tok):mH (.inr x) (.str x t)=true:=by simp[mH,Value.isStrOf]
theorem key_ll (a b:Int):decide ((Sum.inl a:Key)=Sum.inl b)=(a == b):=by
 by_cases e:a=b
 ·subst e;simp
 ·have h:¬ (Sum.inl a:Key)=Sum.inl b:=fun q=>e (Sum.inl.inj q)
  rw[ME h];exact(beq_eq_false_iff_ne.mpr e).symm
theorem key_rr (a b:Str):decide ((Sum.inr a:Key)=Sum.inr b)=decide (a=b):=by
 by_cases e:a=b
 ·subst e;simp
 ·have h:¬ (Sum.inr a:Key)=Sum.inr b:=fun q=>e (Sum.inr.inj q)
  rw[ME h,ME e]
theorem key_lr (a:Int) (b:Str):decide ((Sum.inl a:Key)=Sum.inr b)=false:=ME (fun q=>nomatch q)
theorem key_rl (a:Str) (b:Int):decide ((Sum.inr a:Key)=Sum.inl b)=false:=ME (fun q=>nomatch q)
def cf (prog:Program) (w:World):PySem.KeyKind prog w Key where
 is:=mH
 hash:=keyH w
 inj:=fun v a b ha hb=>by
  rcases jn ha with⟨i,t,rfl,rfl⟩|⟨x,t,rfl,rfl⟩
  ·rcases jn hb with⟨j,u,rfl,e⟩|⟨y,u,rfl,e⟩
   ·injection e with e1 _;rw[e1]
   ·exact nomatch e
  ·rcases jn hb with⟨j,u,rfl,e⟩|⟨y,u,rfl,e⟩
   ·exact nomatch e
   ·injection e with e1 _;rw[e1]
 byValue:=fun k v h=>by
  rcases jn h with⟨i,t,rfl,rfl⟩|⟨x,t,rfl,rfl⟩ <;> rfl
 pyHash:=fun hv h=>by
  rcases jn hv with⟨i,t,rfl,rfl⟩|⟨x,t,rfl,rfl⟩
  ·exact wpAny_pyHash_int h
  ·exact wpAny_pyHash_str h
 eqBool:=fun hu hv h=>by
  rcases jn hu with⟨i,t,rfl,rfl⟩|⟨x,t,rfl,rfl⟩
  ·rcases jn hv with⟨j,u,rfl,rfl⟩|⟨y,u,rfl,rfl⟩
   ·rw[key_ll] at h;exact wpAny_eqBool_int h
   ·rw[key_lr] at h;exact SeqAt.EqAt.int_str i t y u _ _ _ _ h
  ·rcases jn hv with⟨j,u,rfl,rfl⟩|⟨y,u,rfl,rfl⟩
   ·rw[key_rl] at h;exact SeqAt.EqAt.str_int x t j u _ _ _ _ h
   ·rw[key_rr] at h;exact wpAny_eqBool_str h
 «strs»:=fun k x t v h=>by
  rcases jn h with⟨i,u,rfl,e⟩|⟨y,u,rfl,e⟩
  ·exact nomatch e
  ·injection e with e1 _
   subst e1;cases v <;> rfl
theorem FM (prog:Program) (w:World) (i:Int) (t:Tok):(cf prog w).is (.inl i) (.int i t)=true:=J8 i t
theorem GG (prog:Program) (w:World) (x:Str) (t:Tok):(cf prog w).is (.inr x) (.str x t)=true:=Ki x t
set_option genInjectivity true
inductive V where
 | non | bl (b:Bool) | int (i:Int) | str (x:Str) | byt (b:Array UInt8) | flt (b:UInt64) | ref (a:Addr) | ty (n:String)
 deriving DecidableEq
set_option genInjectivity false
def ay:V->Value->Prop
 | .non,u=>u=Value.none
 | .bl b,u=>u=Value.bool b
 | .int i,u=>∃ t,u=Value.int i t
 | .str x,u=>∃ t,u=Value.str x t
 | .byt b,u=>∃ t,u=Value.bytes b t
 | .flt b,u=>∃ t,u=Value.float b t
 | .ref a,u=>u=Value.ref a
 | .ty n,u=>u=Value.type n
abbrev av:List V->List Value->Prop:=Paired ay
theorem av.length {xs:List V}{us:List Value} (r:av xs us):xs.length=us.length:=Paired.length r
theorem av.get:∀ {xs:List V}{us:List Value}{i:Nat}{x:V},av xs us->xs[i]?=some x->∃ u,us[i]?=some u/\ay x u
 | _,_,_,_,.nil,e=>by simp at e
 | _,_,0,_,.cons r _,e=>by simp at e;subst e;exact⟨_,Y,r⟩
 | _,_,i + 1,x,.cons _ t,e=>by
  obtain⟨u,h1,h2⟩:=av.get (i:=i) (x:=x) t (by simpa using e);exact⟨u,by simpa using h1,h2⟩
theorem av.set {x:V}{u:Value} (r:ay x u):∀ {xs:List V}{us:List Value} (i:Nat),av xs us->av (xs.set i x) (us.set i u)
 | _,_,_,.nil=>.nil
 | _,_,0,.cons _ t=>.cons r t
 | _,_,i + 1,.cons q t=>.cons q (av.set r i t)
theorem av.append:∀ {xs ys:List V}{us ws:List Value},av xs us->av ys ws->av (xs++ys) (us++ws)
 | _,_,_,_,.nil,s=>s
 | _,_,_,_,.cons r t,s=>.cons r (av.append t s)
theorem av.take:∀ {xs:List V}{us:List Value} (n:Nat),av xs us->av (xs.take n) (us.take n)
 | _,_,0,_=>.nil
 | _,_,_ + 1,.nil=>.nil
 | _,_,n + 1,.cons r t=>.cons r (av.take n t)
theorem av.drop:∀ {xs:List V}{us:List Value} (n:Nat),av xs us->av (xs.drop n) (us.drop n)
 | _,_,0,r=>r
 | _,_,_ + 1,.nil=>.nil
 | _,_,n + 1,.cons _ t=>av.drop n t
def du:Option V->Option Value->Prop
 | some v,some u=>ay v u
 | none,none=>True
 | _,_=>False
def KV {κ:Type}:List (κ×V)->List (κ×Value)->Prop:=Paired fun(p:κ×V) (q:κ×Value)=>p.1=q.1/\ay p.2 q.2
def kV:Key->V
 | .inl i=>.int i
 | .inr x=>.str x
inductive HO where
 | lst (xs:List V)
 | tup (xs:List V)
 | dK (kvs:List (Key×V)) | dT (kvs:List (List Key×V))
 | set (S:Int->Bool) (n:Nat)
 | ins (C dx:Addr) (fs:List (Str×V))
 | own (x:Addr)
 | xd (fs:List (Str×V))
 | met (f x:Addr)
 | rng (lo hi:Int)
 | frz (o:Obj) (u:HO)
 | tbl (pos:Pos) (qual:Str)
 | ext (φ:Heap->Prop)
abbrev Hp:=Addr->Option HO
def upd (H:Hp) (a:Addr) (o:HO):Hp:=fun b=>if b=a then some o else H b
theorem ah {H:Hp}{o:HO}:upd H a o a=some o:=by unfold upd;rw[if_pos rfl]
theorem ak {H:Hp}{o:HO} (h:b≠a):upd H a o b=H b:=by unfold upd;rw[if_neg h]
theorem cz {H:Hp}{o u:HO} (h:H a=some o) (h':H b=some u) (d:o≠u):a≠b:=by
 intro e;subst e;rw[h] at h';exact d (Option.some.inj h')
theorem aE {H:Hp}{o:HO} (h:H a=some o) (h':H b=none):a≠b:=by
 intro e;subst e;rw[h] at h';cases h'
section
variable (P:Program) (w:World)
def bZ (H:Hp) (h:Heap) (a:Addr):HO->Prop
 | .lst xs=>xs.length<=sizeLine/\∃ (ac:List Value) (n:Nat),av xs ac/\h.get? a=some { cls:=.type "list",data:=.seq ac.toArray n }
 | .tup xs=>xs.length<=sizeLine/\∃ ac:List Value,av xs ac/\IsTup h a ac.toArray
 | .dK kvs=>kvs.length<=sizeLine/\(a == sysModules)=false/\∃ vs,KV kvs vs/\h.DictOf (cf P w) a vs
 | .dT kvs=>kvs.length<=sizeLine/\(a == sysModules)=false/\∃ xs:List (List Key×Addr×Value),
   Paired (fun(p:List Key×V) (q:List Key×Addr×Value)=>p.1=q.1/\H q.2.1=some (.tup (p.1.map kV))/\ay p.2 q.2.2) kvs xs /\
   ∃ o es ep,h.get? a=some o/\o.ExactDict/\o.data=.dict es ep/\es.toList=xs.map (entryOfKey (tupleKind (cf P w)))/\(xs.map (·.1)).Nodup
 | .set S n=>h.SetOf (intKind P w) a S n
 | .ins C dx fs=>H dx=some (.own a)/\fs.length<=1000/\dx≠a/\h.get? a=some (PySem.W.instObj C dx) /\
   ∃ mA,h.Ns1 dx mA/\(∀ f,du (fs.lookup f) (mA f))/\PySem.Within mA (fs.map (·.1))
 | .own _=>∃ o,h.get? a=some o
 | .xd fs=>∃ mA,h.Ns1 a mA/\∀ f,du (fs.lookup f) (mA f)
 | .rng lo hi=>∃ t u v,h.get? a=some { cls:=.type "range",data:=.fields #[.int lo t,.int hi u,.int 1 v] }
 | .frz o u=>h.get? a=some o/\bZ H h a u
 | .tbl pos qual=>h.get? a=some { cls:=.none,data:=.fields #[] }\/∃ c oc vs t,H c=some (.frz oc (.own a))/\oc.data=.fields vs/\vs[1]?=some (.str qual t)/\h.get? a=some { cls:=.none,data:=.fields #[rawInt pos.line,rawInt pos.col,.ref c] }
 | .met f x=>h.get? a=some (PySem.W.methodObj (.ref f) (.ref x))
 | .ext φ=>φ h/\(∃ o,h.get? a=some o)/\∀ h1 h2:Heap,φ h1->(∀ o,h1.get? a=some o->h2.get? a=some o)->φ h2
def HOk (H:Hp) (h:Heap):Prop:=∀ a o,H a=some o->bZ P w H h a o
end
section
variable {H H':Hp}{o:HO}
theorem bZ.lt (x:bZ P w H h a o):a<h.objs.size:=by
 cases o with
 | lst xs=>obtain⟨_,_,_,_,e⟩:=x;exact Mc e
 | tup xs=>obtain⟨_,_,_,p⟩:=x;exact p.lt
 | dK kvs=>obtain⟨_,_,_,_,o,_,_,e,_⟩:=x;exact Mc e
 | dT kvs=>obtain⟨_,_,_,_,o,_,_,e,_⟩:=x;exact Mc e
 | set S n=>obtain⟨o,_,_,_,e,_⟩:=x;exact Mc e
 | ins C dx fs=>obtain⟨_,_,_,e,_⟩:=x;exact Mc e
 | own y=>obtain⟨_,e⟩:=x;exact Mc e
 | xd fs=>obtain⟨_,⟨_,_,_,e,_⟩,_⟩:=x;exact Mc e
 | rng lo hi=>obtain⟨_,_,_,e⟩:=x;exact Mc e
 | frz ob u=>obtain⟨e,_⟩:=x;exact Mc e
 | tbl pos qual=>
  rcases x with e|⟨_,_,_,_,_,_,_,e⟩
  ·exact Mc e
  ·exact Mc e
 | met f y=>exact Mc (show h.get? a=some _ from x)
 | ext φ=>obtain⟨_,⟨_,e⟩,_⟩:=x;exact Mc e
theorem Paired.mapP {α β:Type}{F G:α->β->Prop}:∀ {l₁:List α}{l₂:List β},Paired F l₁ l₂->(∀ a b,F a b->G a b)->Paired G l₁ l₂
 | _,_,.nil,_=>.nil
 | _,_,.cons r t,f=>.cons (f _ _ r) (Paired.mapP t f)
theorem bZ.stay (x:bZ P w H h a o) (k:∀ b u,(b=a\/H b=some (.own a))->h.get? b=some u->h'.get? b=some u)
  (ho:∀ b,H b=some (.own a)->H' b=some (.own a)) (ht:∀ b xs,H b=some (.tup xs)->H' b=some (.tup xs)) (hf:∀ b ob,H b=some (.frz ob (.own a))->H' b=some (.frz ob (.own a)):=by exact fun _ _ q=>q):bZ P w H' h' a o:=by
 induction o with
 | lst xs=>obtain⟨z,ac,n,r,e⟩:=x;exact⟨z,ac,n,r,k _ _ (.inl Y) e⟩
 | tup xs=>obtain⟨z,ac,r,ob,e,c⟩:=x;exact⟨z,ac,r,ob,k _ _ (.inl Y) e,c⟩
 | dK kvs=>obtain⟨z,y,vs,r,ob,es,ep,e,c⟩:=x;exact⟨z,y,vs,r,ob,es,ep,k _ _ (.inl Y) e,c⟩
 | dT kvs=>
  obtain⟨z,y,xs,r,ob,es,ep,e,c⟩:=x;exact⟨z,y,xs,Paired.mapP r fun p q z=>⟨z.1,ht _ _ z.2.1,z.2.2⟩,ob,es,ep,k _ _ (.inl Y) e,c⟩
 | set S n=>obtain⟨ob,es,ep,t,e,c⟩:=x;exact⟨ob,es,ep,t,k _ _ (.inl Y) e,c⟩
 | ins C dx fs=>
  obtain⟨d,z,ne,e,mA,⟨od,es,ep,e2,c⟩,r⟩:=x;exact⟨ho _ d,z,ne,k _ _ (.inl Y) e,mA,⟨od,es,ep,k _ _ (.inr d) e2,c⟩,r⟩
 | own y=>obtain⟨ob,e⟩:=x;exact⟨ob,k _ _ (.inl Y) e⟩
 | xd fs=>obtain⟨mA,⟨od,es,ep,e,c⟩,r⟩:=x;exact⟨mA,⟨od,es,ep,k _ _ (.inl Y) e,c⟩,r⟩
 | rng lo hi=>obtain⟨t,u,v,e⟩:=x;exact⟨t,u,v,k _ _ (.inl Y) e⟩
 | frz ob u ih=>obtain⟨e,q⟩:=x;exact⟨k _ _ (.inl Y) e,ih q⟩
 | tbl pos qual=>
  rcases x with e|⟨c,oc,vs,t,e1,e2,e3,e⟩
  ·exact .inl (k a _ (.inl Y) e)
  ·exact .inr ⟨c,oc,vs,t,hf c oc e1,e2,e3,k a _ (.inl Y) e⟩
 | met f y=>
  have e:h.get? a=some (PySem.W.methodObj (.ref f) (.ref y)):=x;show h'.get? a=some (PySem.W.methodObj (.ref f) (.ref y));exact k a _ (.inl Y) e
 | ext φ=>obtain⟨p,⟨o,e⟩,st⟩:=x;exact⟨st _ _ p fun o q=>k _ _ (.inl Y) q,⟨o,k _ _ (.inl Y) e⟩,st⟩
theorem HOk.lt (x:HOk P w H h) (e:H a=some o):a<h.objs.size:=(x a o e).lt
theorem HOk.fresh (x:HOk P w H h) (e:h.objs.size<=a):H a=none:=by
 cases q:H a with
 | none=>rfl
 | some u=>exact absurd (Mv (x.lt q) e) (MF _)
theorem HOk.kept (x:HOk P w H h) (k:∀ b u,h.get? b=some u->h'.get? b=some u):HOk P w H h':=fun a o e=>
 (x a o e).stay (fun b u _ q=>k b u q) (fun _ q=>q) fun _ _ q=>q
theorem HOk.laid (x:HOk P w H h) (k:∀ b u,h.get? b=some u->h'.get? b=some u) (hp:h.objs.size<=a) (new:bZ P w (upd H a o) h' a o):HOk P w (upd H a o) h':=fun b u e=>by
 have hn:=x.fresh hp;by_cases hb:b=a
 ·subst hb;rw[ah] at e;cases e;exact new
 ·rw[ak hb] at e
  exact(x b u e).stay (fun c v _ q=>k c v q) (fun c q=>by rw[ak (aE q hn)];exact q) (fun c xs q=>by rw[ak (aE q hn)];exact q) fun c ob q=>by rw[ak (aE q hn)];exact q
end
def Rd (H:Hp) (a:Addr) (u:HO):Prop:=H a=some u\/∃ o,H a=some (.frz o u)
variable {H H':Hp}{M:Model}{N:List Str}{Q:Value->Shared->Prop}{aa bI:List (Addr×Obj)}{ch:List Addr}{d':Drawn}{e:Expr}{g':Array GenState}{o ob:Obj}{op:CmpOp}{s':Shared}{t':Nat}{u:Value}{v:V}{x:Str}
theorem Rd.ok {u:HO} (r:Rd H a u) (x:HOk P w H h):bZ P w H h a u:=by
 rcases r with r|⟨o,r⟩
 ·exact x a u r
 ·obtain⟨_,q⟩:=x a _ r
  exact q
def Mut:Option HO->Prop
 | some (.lst _)=>True
 | some (.dK _)=>True
 | some (.dT _)=>True
 | some (.set _ _)=>True
 | some (.ins _ _ _)=>True
 | some (.ext _)=>True
 | _=>False
section
variable {x e:Addr}{o':HO}
theorem HOk.write (ok:HOk P w H h) (mu:Mut (H x)) (he:e=x\/H e=some (.own x)) (k:∀ b u,b≠e->h.get? b=some u->h'.get? b=some u) (nH:∃ u,h'.get? e=some u)
  (new:bZ P w (upd H x o') h' x o'):HOk P w (upd H x o') h':=fun b u q=>by
 have py:∀ c y,H c=some (.own y)->c≠x:=fun c y r z=>by subst z;rw[r] at mu;exact mu
 have uE:∀ c xs,H c=some (.tup xs)->c≠x:=fun c xs r z=>by subst z;rw[r] at mu;exact mu
 by_cases hb:b=x
 ·subst hb;rw[ah] at q;cases q;exact new
 ·rw[ak hb] at q
  by_cases ju:b=e
  ·have q':H b=some (.own x):=by
    rcases he with z|z
    ·exact absurd (ju.trans z) hb
    ·rw[ju];exact z
   rw[q] at q';cases q'
   obtain⟨v,hv⟩:=nH;exact⟨v,by rw[ju];exact hv⟩
  ·refine(ok b u q).stay (fun c v hc r=>k c v ?_ r) (fun c r=>by rw[ak (py c b r)];exact r) (fun c xs r=>by rw[ak (uE c xs r)];exact r) fun c ob r=>by rw[ak (fun z=>by subst z;rw[r] at mu;exact mu)];exact r
   rcases hc with rfl|hc
   ·exact ju
   ·rintro rfl
    rcases he with z|z
    ·exact py c b hc z
    ·rw[hc] at z;cases z;exact hb rfl
end
structure Un (fs ex:List Addr) (H H':Hp) (h h':Heap):Prop where
 keep:∀ b o,h.get? b=some o->H b=none->b∉fs->b∉ex->h'.get? b=some o
 slot:∀ b o,h.get? b=some o->H b=none->b∈fs->b∉ex->∃ sl,h'.get? b=some { o with slots:=sl }
 free:∀ b o,h.get? b=some o->H b=none->b∉ex->H' b=none
 there:∀ b o,h.get? b=some o->b∉ex->∃ o',h'.get? b=some o'
 tups:∀ b xs,H b=some (.tup xs)->H' b=some (.tup xs)
 frzs:∀ b o u,H b=some (.frz o u)->H' b=some (.frz o u)
 tbls:∀ b p q,H b=some (.tbl p q)->H' b=some (.tbl p q)
section
variable {fs EA ex LY:List Addr}{H1 H2:Hp}{h1 h2:Heap}{x e:Addr}{o:HO}
theorem Un.any (u:Un fs ex H H1 h h1) (q:h.get? b=some ob) (n:H b=none) (hx:b∉ex):∃ sl,h1.get? b=some { ob with slots:=sl }:=by
 by_cases hb:b∈fs
 ·exact u.slot b ob q n hb hx
 ·exact⟨ob.slots,u.keep b ob q n hb hx⟩
theorem Un.trans (a:Un fs ex H H1 h h1) (b:Un fs ex H1 H2 h1 h2):Un fs ex H H2 h h2 where
 keep:=fun c ob q n hc hx=>b.keep c ob (a.keep c ob q n hc hx) (a.free c ob q n hx) hc hx
 slot:=fun c ob q n hc hx=>by
  obtain⟨sl,e1⟩:=a.slot c ob q n hc hx;obtain⟨vS,e2⟩:=b.slot c _ e1 (a.free c ob q n hx) hc hx;exact⟨vS,e2⟩
 free:=fun c ob q n hx=>by
  obtain⟨o',e1⟩:=a.there c ob q hx;exact b.free c o' e1 (a.free c ob q n hx) hx
 there:=fun c ob q hx=>by
  obtain⟨o',e1⟩:=a.there c ob q hx;exact b.there c o' e1 hx
 tups:=fun c xs q=>b.tups c xs (a.tups c xs q)
 frzs:=fun c ob xs q=>b.frzs c ob xs (a.frzs c ob xs q)
 tbls:=fun c p q z=>b.tbls c p q (a.tbls c p q z)
theorem Un.kept (k:∀ b u,h.get? b=some u->h'.get? b=some u):Un fs ex H H h h':=
 ⟨fun b ob q _ _ _=>k b ob q,fun b ob q _ _ _=>⟨ob.slots,k b ob q⟩,fun _ _ _ n _=>n,fun b ob q _=>⟨ob,k b ob q⟩,fun _ _ q=>q,fun _ _ _ q=>q,fun _ _ _ q=>q⟩
theorem Un.refl:Un fs ex H H h h:=Un.kept fun _ _ q=>q
theorem Un.laid (k:∀ b u,h.get? b=some u->h'.get? b=some u) (hp:h.objs.size<=a) (hn:H a=none):Un fs ex H (upd H a o) h h' where
 keep:=fun b u q _ _ _=>k b u q
 slot:=fun b u q _ _ _=>⟨u.slots,k b u q⟩
 free:=fun b u q n _=>by rw[ak (Mn (Mv (Mc q) hp))];exact n
 there:=fun b u q _=>⟨u,k b u q⟩
 tups:=fun b xs q=>by rw[ak (aE q hn)];exact q
 frzs:=fun b u xs q=>by rw[ak (aE q hn)];exact q
 tbls:=fun b p r q=>by rw[ak (aE q hn)];exact q
theorem Un.write (mu:Mut (H x)) (he:e=x\/H e=some (.own x)) (k:∀ b u,b≠e->h.get? b=some u->h'.get? b=some u) (nH:∃ u,h'.get? e=some u):Un fs ex H (upd H x o) h h':=by
 have hx:∀ b,H b=none->b≠x:=fun b n z=>by subst z;rw[n] at mu;exact mu
 have hb:∀ b,H b=none->b≠e:=fun b n z=>by
  subst z;rcases he with r|r
  ·exact hx b n r
  ·rw[n] at r;cases r
 have hm:∀ b u,H b=some u->¬ Mut (some u)->b≠x:=fun b u q nm z=>by subst z;rw[q] at mu;exact nm mu
 refine⟨fun b u q n _ _=>k b u (hb b n) q,fun b u q n _ _=>⟨u.slots,k b u (hb b n) q⟩,fun b u q n _=>by rw[ak (hx b n)];exact n,fun b u q _=>?_,
  fun b xs q=>by rw[ak (hm b _ q fun z=>z)];exact q,fun b u xs q=>by rw[ak (hm b _ q fun z=>z)];exact q,fun b p r q=>by rw[ak (hm b _ q fun z=>z)];exact q⟩
 by_cases ju:b=e
 ·subst ju;exact nH
 ·exact⟨u,k b u ju q⟩
end
def trk (h:Heap) (H:Hp):List Addr:=(List.range h.objs.size).filter fun a=>(H a).isSome
def lq (h:Heap) (H:Hp):Heap:=PySem.W.hideAll h (trk h H)
theorem JM (h:Heap) (H:Hp):(lq h H).objs.size=h.objs.size:=PySem.W.hideAll_size _ _
theorem wP  (e:h.get? b=some o) (n:H b=none):(lq h H).get? b=some o:=
 PySem.W.hideAll_get _ e fun hm=>by
  have q:(H b).isSome=true:=(List.mem_filter.mp hm).2;rw[n] at q;simp at q
theorem Kg  (e:(lq h H).get? b=some o):h.get? b=some o/\H b=none:=by
 have e':h.get? b=some o:=PySem.W.of_hideAll (trk h H) e;refine⟨e',?_⟩;cases q:H b with
 | none=>rfl
 | some x=>
  have hm:b∈trk h H:=List.mem_filter.mpr ⟨List.mem_range.mpr (Mc e'),by simp[q]⟩;have z:(lq h H).get? b=none:=PySem.W.hideAll_none (trk h H) hm;rw[z] at e;cases e
def Hw (g h:Heap) (L:Addr):List (Addr×Obj):=(List.range h.objs.size).filterMap fun a=>if a=L\/(g.get? a).isSome=true then none else(h.get? a).map fun o=>(a,o)
def aW (g h:Heap) (L d:Addr):List (Addr×Obj):=(Hw g h L).filter fun p=>decide (p.1≠d)
structure Mod (K:PySem.W.Frag) (mg:Str->Option Value) (base:Heap):Prop where
 kin:K.In base
 glob:base.Ns mainGlobals mg
 blt:∃ mb,base.Ns builtinsNs mb/\∀ x:Str,x≠"__name__"->mb x=bootBuiltins x
 nolimit:base.NoLimit
 bmain:∃ bm ob,mg "__builtins__"=some (.ref bm)/\bm≠builtinsNs/\base.get? bm=some ob/\ob.cls=.type "module"/\ob.dict=some builtinsNs/\ob.data=.plain
structure Cx where
 prog:Program
 w:World
 K:PySem.W.Frag
 mg:Str->Option Value
 base:Heap
 A:Around
 N:List Str
 s₀:Shared
 H₀:Hp
 env:Env
 outer:List Env
 stack:List Env
 ex:List Addr
 fn:Str->Bool
 calm:Bool
 pn:List (Addr×Obj)
 xe:Value->Shared->Prop
def frs (l:List Env):List Addr:=l.filterMap (·.frame)
abbrev Cx.fs (X:Cx):List Addr:=frs X.outer
def Vis (sc:Scope) (x:Str):Prop:=sc.names.lookup x=some .local\/sc.names.lookup x=some .cell\/sc.names.lookup x=some .free
def Loc (sc:Scope) (x:Str):Prop:=sc.names.lookup x=some .local\/sc.names.lookup x=some .cell
def Look (env:Env) (h:Heap) (m:Str->Option Value) (x:Str) (u:Value):Prop:=
 (env.kindOf x=some .local/\m x=some u)\/((env.kindOf x=some .cell\/env.kindOf x=some .free)/\∃ c,env.cells.lookup x=some c/\h.IsCell c (some u))
def iJ (H:Hp) (cs:List Addr):Prop:=cs.Nodup/\∀ j a,cs[j]?=some a->∃ o u vs,H a=some (.frz o u)/\o.data=.fields vs/\vs[2]?=some (nxt cs (j + 1))
def gU (A:Around) (H:Hp):Prop:=A.handled=none\/∃ a cs,A.handled=some (.ref a)/\iJ H (a::cs)
structure Cx.Ok (X:Cx):Prop where
 mod:Mod X.K X.mg X.base
 kind:X.env.scope.kind=.function
 glob:X.env.globals=mainGlobals
 blt:X.env.builtins=builtinsNs
 above:X.s₀.heap.objs.size<=X.env.locals
 inj:∀ x y c,X.env.cells.lookup x=some c->X.env.cells.lookup y=some c->x=y
 has:∀ x,(X.env.kindOf x=some .cell\/X.env.kindOf x=some .free)->∃ c,X.env.cells.lookup x=some c
 cab:∀ x c,X.fn x=true->X.env.cells.lookup x=some c->X.s₀.heap.objs.size<=c
 hd:gU X.A X.H₀
 frames:X.A.frames=some X.stack
 stk:X.stack=X.outer\/(X.stack=X.env::X.outer/\X.env.frame=some X.env.locals)
 exf:∀ b∈X.ex,b≠X.env.locals/\∀ x c,X.env.cells.lookup x=some c->c≠b
 bs:∀ b o,X.base.get? b=some o->X.s₀.heap.get? b=some o/\X.H₀ b=none
 bsz:X.base.objs.size<=X.s₀.heap.objs.size
 noex:∀ b o,X.base.get? b=some o->b∉X.ex
 exfs:∀ b∈X.ex,b∉X.fs
 funs:X.s₀.heap.FunFrames X.base X.outer
 frf:∀ b∈X.fs,X.H₀ b=none
structure Inv (X:Cx) (aa:List (Addr×Obj)) (σ:List (Option V)) (H:Hp) (s:Shared):Prop where
 ok:X.Ok
 os:s.os=X.s₀.os
 bare:AllBare s.gens
 base:Un X.fs X.ex X.H₀ H X.s₀.heap s.heap
 loc:∃ m,s.heap.Ns X.env.locals m/\∀ (i:Nat) (x:Str) (v:V),X.N[i]?=some x->σ[i]?=some (some v)->Vis X.env.scope x->∃ u,ay v u/\Look X.env s.heap m x u
 cell:∀ x c,X.env.cells.lookup x=some c->∃ v,s.heap.IsCell c v
 free:H X.env.locals=none
 freeC:∀ x c,X.env.cells.lookup x=some c->H c=none
 pin:∀ p∈X.pn++aa,s.heap.get? p.1=some p.2/\H p.1=none/\p.1≠X.env.locals/\p.1∉X.fs/\∀ v,p.2.data≠.cell v
 hok:HOk X.prog X.w H s.heap
 len:σ.length=X.N.length
section
variable {X:Cx}{σ:List (Option V)}
theorem Cx.Ok.nofr (ok:X.Ok) (e:X.base.get? b=some o):b∉X.fs:=fun hb=>by
 have:=(ok.funs.mem hb).1;rw[e] at this;cases this
theorem Inv.bs (I:Inv X aa σ H s):∀ b o,X.base.get? b=some o->s.heap.get? b=some o/\H b=none:=fun b o e=>
 ⟨I.base.keep b o (I.ok.bs b o e).1 (I.ok.bs b o e).2 (I.ok.nofr e) (I.ok.noex b o e),I.base.free b o (I.ok.bs b o e).1 (I.ok.bs b o e).2 (I.ok.noex b o e)⟩
theorem Inv.bk (I:Inv X aa σ H s):∀ b o,X.base.get? b=some o->s.heap.get? b=some o:=fun b o e=>(I.bs b o e).1
theorem Inv.mod (I:Inv X aa σ H s):Mod X.K X.mg X.base:=I.ok.mod
theorem Inv.kIn (I:Inv X aa σ H s):X.K.In s.heap:=I.ok.mod.kin.keeps I.bk
theorem iJ.mono  (c:iJ H cs) (k:∀ b o u,H b=some (.frz o u)->H' b=some (.frz o u)):iJ H' cs:=⟨c.1,fun j a hj=>by
 obtain⟨o,u,vs,h,r⟩:=c.2 j a hj;exact⟨o,u,vs,k a o u h,r⟩⟩
theorem iJ.chn  (c:iJ H cs) (k:HOk P w H h):Chn h cs:=⟨c.1,fun j a hj=>by
 obtain⟨o,u,vs,q,r⟩:=c.2 j a hj;obtain⟨z,_⟩:=k a _ q;exact⟨o,vs,z,r⟩⟩
theorem iJ.not_mem  (c:iJ H cs) (hb:H b=none):b∉cs:=fun z=>by
 obtain⟨j,hj⟩:=List.mem_iff_getElem?.mp z;obtain⟨o,u,vs,q,_⟩:=c.2 j b hj;rw[hb] at q;cases q
theorem gU.mono {A:Around} (x:gU A H) (k:∀ b o u,H b=some (.frz o u)->H' b=some (.frz o u)):gU A H':=by
 rcases x with e|⟨a,cs,e,c⟩
 ·exact .inl e
 ·exact .inr ⟨a,cs,e,c.mono k⟩
theorem Inv.hdAt (I:Inv X aa σ H s):gU X.A H:=I.ok.hd.mono I.base.frzs
theorem gU.hd  (x:gU A H) (k:HOk P w H h):Hd A h:=by
 rcases x with e|⟨a,cs,e,c⟩
 ·exact .inl e
 ·exact .inr ⟨a,cs,e,c.chn k⟩
theorem gU.new {p:Addr}{u:HO} (x:gU A H) (hn:H p=none):gU A (upd H p u):=x.mono fun b o v q=>by rw[ak (aE q hn)];exact q
theorem Inv.hd (I:Inv X aa σ H s):Hd X.A s.heap:=I.hdAt.hd I.hok
theorem Inv.lt (I:Inv X aa σ H s):X.env.locals<s.heap.objs.size:=let ⟨_,hn,_⟩:=I.loc;hn.lt
theorem Inv.sz (I:Inv X aa σ H s):X.s₀.heap.objs.size<=s.heap.objs.size:=MN I.ok.above (Nk I.lt)
theorem Inv.nofs (I:Inv X aa σ H s) (h:s.heap.objs.size<=a):a∉X.fs:=fun hb=>by
 obtain⟨_,o,ho,_⟩:=I.ok.funs.mem hb;exact absurd (Mv (Mc ho) (MN I.sz h)) (MF _)
theorem Inv.cne (I:Inv X aa σ H s):∀ x c,X.env.cells.lookup x=some c->c≠X.env.locals:=fun x c e z=>by
 obtain⟨v,o,ho,hd⟩:=I.cell x c e;obtain⟨m,⟨o',es,ep,lM,cv,_⟩,_⟩:=I.loc;rw[z,lM] at ho;cases ho;rw[cv] at hd;cases hd
theorem Inv.funs (I:Inv X aa σ H s):s.heap.FunFrames X.base X.outer:=by
 have all:∀ (l:List Env),(∀ b∈frs l,b∈X.fs)->X.s₀.heap.FunFrames X.base l->s.heap.FunFrames X.base l:=by
  intro l
  induction l with
  | nil=>intro _ _;trivial
  | cons env r ih=>
   intro hs hl;obtain⟨hk,⟨L,o,hf,hn,ho,hd⟩,hr⟩:=hl;have hL:L∈X.fs:=hs L (by unfold frs;rw[NS,hf];exact Ms);obtain⟨sl,e⟩:=I.base.slot L o ho (I.ok.frf L hL) hL fun z=>I.ok.exfs L z hL
   exact⟨hk,⟨L,_,hf,hn,e,hd⟩,ih (fun b hb=>hs b (by unfold frs;rw[NS,hf];exact Mo _ hb)) hr⟩
 exact all X.outer (fun _ hb=>hb) I.ok.funs
theorem Inv.stack (I:Inv X aa σ H s):s.heap.FunFrames X.base X.stack:=by
 rcases I.ok.stk with e|⟨e,hf⟩
 ·rw[e];exact I.funs
 ·rw[e]
  obtain⟨m,hn,_⟩:=I.loc;refine .cons (by rw[I.ok.kind];decide) hf hn ?_ I.funs;exact Heap.get?_none_of_le (MN I.ok.bsz I.ok.above)
theorem Inv.stkSub (I:Inv X aa σ H s):∀ b∈frs X.stack,b∈X.env.locals::X.fs:=fun b hb=>by
 rcases I.ok.stk with e|⟨e,hf⟩
 ·rw[e] at hb;exact Mo _ hb
 ·rw[e] at hb
  unfold frs at hb;rw[NS,hf] at hb;exact hb
theorem Inv.stkFree (I:Inv X aa σ H s):∀ b∈frs X.stack,H b=none:=fun b hb=>by
 rcases M5.mp (I.stkSub b hb) with e|hb
 ·rw[e];exact I.free
 ·obtain⟨_,o,ho,_⟩:=I.ok.funs.mem hb
  exact I.base.free b o ho (I.ok.frf b hb) fun z=>I.ok.exfs b z hb
theorem Inv.step  (I:Inv X aa σ H s)
  (eO:∀ b∈ch,(b∈X.ex\/X.s₀.heap.objs.size<=b)/\b≠X.env.locals/\(∀ x c,X.env.cells.lookup x=some c->c≠b)/\∀ p∈X.pn++aa,p.1≠b)
  (keep:∀ b o,b≠X.env.locals->b∉X.fs->b∉ch->s.heap.get? b=some o->H b=none->h'.get? b=some o)
  (slot:∀ b o,b≠X.env.locals->b∈X.fs->b∉ch->s.heap.get? b=some o->H b=none->∃ sl,h'.get? b=some { o with slots:=sl }) (free:∀ b o,b∉ch->s.heap.get? b=some o->H b=none->H' b=none)
  (there:∀ b o,b∉ch->s.heap.get? b=some o->∃ o',h'.get? b=some o')
  (tups:∀ b xs,H b=some (.tup xs)->H' b=some (.tup xs)) (frzs:∀ b o u,H b=some (.frz o u)->H' b=some (.frz o u)) (tbls:∀ b p q,H b=some (.tbl p q)->H' b=some (.tbl p q))
  (ns:∀ m,s.heap.Ns X.env.locals m->h'.Ns X.env.locals m) (hok:HOk X.prog X.w H' h') (hg:AllBare g') :
  Inv X aa σ H' { s with heap:=h',gens:=g',drawn:=d',toks:=t' }:=by
 have zh:∀ b o,X.s₀.heap.get? b=some o->b≠X.env.locals:=fun b o e=>Mn (Mv (Mc e) I.ok.above)
 have sd:∀ b o,X.s₀.heap.get? b=some o->b∉X.ex->b∉ch:=fun b o e hx hb=>by
  rcases(eO b hb).1 with z|z
  ·exact hx z
  ·exact absurd (Mv (Mc e) z) (MF _)
 have j6:∀ x c,X.env.cells.lookup x=some c->∀ v,s.heap.IsCell c v->h'.IsCell c v:=fun x c e v ⟨o,ho,hd⟩=>by
  have pP:c∉ch:=fun z=>(eO c z).2.2.1 x c e rfl
  by_cases hc:c∈X.fs
  ·obtain⟨sl,q⟩:=slot c o (I.cne x c e) hc pP ho (I.freeC x c e)
   exact⟨_,q,hd⟩
  ·exact⟨o,keep c o (I.cne x c e) hc pP ho (I.freeC x c e),hd⟩
 refine⟨I.ok,I.os,hg,⟨fun b o e n hb hx=>?_,fun b o e n hb hx=>?_,fun b o e n hx=>?_,fun b o e hx=>?_,fun b xs e=>tups b xs (I.base.tups b xs e),fun b o xs e=>frzs b o xs (I.base.frzs b o xs e),fun b p q e=>tbls b p q (I.base.tbls b p q e)⟩,?_,fun x c e=>?_,?_,fun x c e=>?_,fun p hp=>?_,hok,I.len⟩
 ·exact keep b o (zh b o e) hb (sd b o e hx) (I.base.keep b o e n hb hx) (I.base.free b o e n hx)
 ·obtain⟨sl,e1⟩:=I.base.slot b o e n hb hx
  obtain⟨vS,e2⟩:=slot b _ (zh b o e) hb (sd b o e hx) e1 (I.base.free b o e n hx);exact⟨vS,e2⟩
 ·obtain⟨o',e1⟩:=I.base.there b o e hx
  exact free b o' (sd b o e hx) e1 (I.base.free b o e n hx)
 ·obtain⟨o',e1⟩:=I.base.there b o e hx
  exact there b o' (sd b o e hx) e1
 ·obtain⟨m,hn,hl⟩:=I.loc
  refine⟨m,ns m hn,fun i x v e1 e2 e3=>?_⟩;obtain⟨u,r,l⟩:=hl i x v e1 e2 e3;refine⟨u,r,?_⟩;rcases l with l|⟨k,c,e,z⟩
  ·exact .inl l
  ·exact .inr ⟨k,c,e,j6 x c e _ z⟩
 ·obtain⟨v,z⟩:=I.cell x c e
  exact⟨v,j6 x c e v z⟩
 ·obtain⟨m,⟨o,_,_,ho,_⟩,_⟩:=I.loc
  exact free _ o (fun z=>(eO _ z).2.1 Y) ho I.free
 ·obtain⟨v,o,ho,hd⟩:=I.cell x c e
  exact free c o (fun z=>(eO c z).2.2.1 x c e Y) ho (I.freeC x c e)
 ·obtain⟨e,n,ne,nf,d⟩:=I.pin p hp
  have pP:p.1∉ch:=fun z=>(eO p.1 z).2.2.2 p hp rfl
  exact⟨keep p.1 p.2 ne nf pP e n,free p.1 p.2 pP e n,ne,nf,d⟩
theorem Inv.un  (I:Inv X aa σ H s) (u:Un X.fs [] H H' s.heap h') (hok:HOk X.prog X.w H' h'):Inv X aa σ H' { s with heap:=h',toks:=t' }:=by
 obtain⟨m,⟨o,es,ep,ho,r⟩,_⟩:=id I.loc;obtain⟨sl,hL⟩:=u.any ho I.free (by simp);exact I.step (g':=s.gens) (d':=s.drawn) (ch:=[]) (fun _ z=>nomatch z) (fun b o _ hb _ e n=>u.keep b o e n hb (by simp)) (fun b o _ hb _ e n=>u.slot b o e n hb (by simp)) (fun b o _ e n=>u.free b o e n (by simp)) (fun b o _ e=>u.there b o e (by simp)) u.tups u.frzs u.tbls (fun m' hm=>by
  obtain⟨o',gJ,vU,lM,r'⟩:=hm;rw[ho] at lM;cases lM
  exact⟨_,gJ,vU,hL,r'⟩) hok I.bare
theorem Inv.call  (I:Inv X aa σ H s) (u:Un (frs X.stack) ch H H' s.heap h') (hok:HOk X.prog X.w H' h') (hg:AllBare g')
  (eO:∀ b∈ch,(b∈X.ex\/X.s₀.heap.objs.size<=b)/\b≠X.env.locals/\(∀ x c,X.env.cells.lookup x=some c->c≠b)/\∀ p∈X.pn++aa,p.1≠b) :
  Inv X aa σ H' { s with heap:=h',gens:=g',drawn:=d',toks:=t' }:=by
 obtain⟨m,⟨o,es,ep,ho,r⟩,_⟩:=id I.loc;obtain⟨sl,hL⟩:=u.any ho I.free fun z=>(eO _ z).2.1 rfl
 exact I.step (ch:=ch) eO (fun b o hL hb hc e n=>u.keep b o e n (fun z=>(M5.mp (I.stkSub b z)).elim hL hb) hc) (fun b o _ _ hc e n=>u.any e n hc) (fun b o hc e n=>u.free b o e n hc) (fun b o hc e=>u.there b o e hc) u.tups u.frzs u.tbls (fun m' hm=>by
  obtain⟨o',gJ,vU,lM,r'⟩:=hm;rw[ho] at lM;cases lM
  exact⟨_,gJ,vU,hL,r'⟩) hok hg
theorem Inv.turned {it:Addr} (I:Inv X aa σ H s) (k:∀ b o,b≠it->s.heap.get? b=some o->h'.get? b=some o) (hn:H it=none) (hL:it≠X.env.locals)
  (h1:it∈X.ex\/X.s₀.heap.objs.size<=it) (h2:∀ x c,X.env.cells.lookup x=some c->c≠it) (h3:∀ p∈X.pn++aa,p.1≠it):Inv X aa σ H { s with heap:=h',toks:=t' }:=by
 have yO:∀ b u,H b=some u->b≠it:=fun b u e z=>by rw[z,hn] at e;cases e
 refine I.step (g':=s.gens) (d':=s.drawn) (ch:=[it]) (fun b hb=>?_) (fun b o _ _ hc e _=>k b o (fun z=>hc (by simp[z])) e) (fun b o _ _ hc e _=>⟨o.slots,k b o (fun z=>hc (by simp[z])) e⟩) (fun _ _ _ _ n=>n)
  (fun b o hc e=>⟨o,k b o (fun z=>hc (by simp[z])) e⟩) (fun _ _ e=>e) (fun _ _ _ e=>e) (fun _ _ _ e=>e) (fun m hm=>?_) (fun b u e=>?_) I.bare
 ·have e:b=it:=by simpa using hb
  subst e;exact⟨h1,hL,h2,h3⟩
 ·obtain⟨o,es,ep,ho,r⟩:=hm
  exact⟨o,es,ep,k _ o (Ne.symm hL) ho,r⟩
 ·refine(I.hok b u e).stay (fun c v hc q=>k c v ?_ q) (fun _ q=>q) fun _ _ q=>q
  rcases hc with z|z
  ·rw[z];exact yO b u e
  ·exact yO c _ z
theorem Inv.tok (I:Inv X aa σ H s) (t:Nat):Inv X aa σ H { s with toks:=t }:=I.un (h':=s.heap) (t':=t) Un.refl I.hok
theorem Inv.kept {t':Nat} (I:Inv X aa σ H s) (k:∀ b u,s.heap.get? b=some u->h'.get? b=some u):Inv X aa σ H { s with heap:=h',toks:=t' }:=I.un (Un.kept k) (I.hok.kept k)
theorem Inv.laid {a:Addr}{o:HO}{t':Nat} (I:Inv X aa σ H s) (k:∀ b u,s.heap.get? b=some u->h'.get? b=some u) (hp:s.heap.objs.size<=a) (new:bZ X.prog X.w (upd H a o) h' a o) :
  Inv X aa σ (upd H a o) { s with heap:=h',toks:=t' }:=I.un (Un.laid k hp (I.hok.fresh hp)) (I.hok.laid k hp new)
theorem Inv.write {x e:Addr}{o:HO}{t':Nat} (I:Inv X aa σ H s) (mu:Mut (H x)) (he:e=x\/H e=some (.own x)) (k:∀ b u,b≠e->s.heap.get? b=some u->h'.get? b=some u) (nH:∃ u,h'.get? e=some u)
  (new:bZ X.prog X.w (upd H x o) h' x o):Inv X aa σ (upd H x o) { s with heap:=h',toks:=t' }:=I.un (Un.write mu he k nH) (I.hok.write mu he k nH new)
theorem Inv.pins_of  (I:Inv X aa σ H s) (h:∀ p∈bI,s.heap.get? p.1=some p.2/\H p.1=none/\p.1≠X.env.locals/\p.1∉X.fs/\∀ v,p.2.data≠.cell v):Inv X bI σ H s:=
 ⟨I.ok,I.os,I.bare,I.base,I.loc,I.cell,I.free,I.freeC,fun p hp=>(List.mem_append.mp hp).elim (fun z=>I.pin p (MC _ z)) (h p),I.hok,I.len⟩
theorem wB  (hN:N.Nodup){j:Nat} (a:N[i]?=some x) (b:N[j]?=some x):i=j:=by
 obtain⟨h1,e1⟩:=List.getElem?_eq_some_iff.mp a;obtain⟨h2,e2⟩:=List.getElem?_eq_some_iff.mp b;exact(List.getElem_inj hN).mp (e1.trans e2.symm)
theorem Be {Q:Unit->Shared->Prop} (I:Inv X aa σ H s) (hN:X.N.Nodup) (hi:X.N[i]?=some x) (hx:Loc X.env.scope x) (r:ay v u)
  (h:∀ s',Inv X aa (σ.set i (some v)) H s'->(∃ a,Heap.SameBut a s.heap s'.heap/\(a=X.env.locals\/X.env.cells.lookup x=some a))->Q () s') (hf:X.fn x=true\/X.env.scope.names.lookup x=some .local:=by first|exact .inl rfl|exact .inr rfl|assumption):wpAny M A (storeName X.env x u) Q E s:=by
 obtain⟨m,hn,hl⟩:=id I.loc;have mf:(X.env.scope.kind == .class || (X.env.scope.kind == .module && X.env.locals != X.env.globals))=false:=by rw[I.ok.kind];rfl
 have sh:i<σ.length:=by rw[I.len];exact(List.getElem?_eq_some_iff.mp hi).1
 have cne:=I.cne;have fW:∀ {a:Addr}{h':Heap},(∃ o,s.heap.get? a=some o/\H a=none)->Heap.SameBut a s.heap h'->HOk X.prog X.w H h':=fun {a h'} ha hs b ob e=>by
  obtain⟨_,_,j8⟩:=ha;refine(I.hok b ob e).stay (fun c w' hc q=>(hs.2 c ?_).trans q) (fun _ q=>q) fun _ _ q=>q
  rintro rfl
  rcases hc with rfl|hc
  ·rw[j8] at e;cases e
  ·rw[j8] at hc;cases hc
 rcases hx with hk|hk
 ·refine wpAny_storeName_local hk hn (fun h' vA hs=>?_) mf
  obtain⟨oL,_,_,yC,_⟩:=id hn;refine h _ ⟨I.ok,I.os,I.bare,⟨fun b o e n hb hx=>?_,fun b o e n hb hx=>?_,I.base.free,fun b o e hx=>?_,I.base.tups,I.base.frzs,I.base.tbls⟩,⟨_,vA,fun j y v' e1 e2 e3=>?_⟩,fun y c e=>?_,I.free,I.freeC,fun p hp=>?_,fW ⟨oL,yC,I.free⟩ hs,by simpa using I.len⟩ ⟨_,hs,.inl rfl⟩
  ·exact(hs.2 b (Mn (Mv (Mc e) I.ok.above))).trans (I.base.keep b o e n hb hx)
  ·obtain⟨sl,e1⟩:=I.base.slot b o e n hb hx
   exact⟨sl,(hs.2 b (Mn (Mv (Mc e) I.ok.above))).trans e1⟩
  ·obtain⟨o',e1⟩:=I.base.there b o e hx
   exact⟨o',(hs.2 b (Mn (Mv (Mc e) I.ok.above))).trans e1⟩
  ·by_cases hj:j=i
   ·subst hj
    rw[hi] at e1;cases e1
    rw[NM sh] at e2;cases e2
    exact⟨u,r,.inl ⟨hk,by simp⟩⟩
   ·rw[NQ (Ne.symm hj)] at e2
    obtain⟨u',r',q⟩:=hl j y v' e1 e2 e3;refine⟨u',r',?_⟩;rcases q with⟨k,e⟩|⟨k,c,e,z⟩
    ·refine .inl ⟨k,?_⟩
     have:y≠x:=fun e=>hj (wB hN e1 (e ▸ hi))
     simp[this,e]
    ·exact .inr ⟨k,c,e,z.sameBut hs (cne y c e)⟩
  ·obtain⟨w',z⟩:=I.cell y c e
   exact⟨w',z.sameBut hs (cne y c e)⟩
  ·obtain⟨e,n,ne,nf,d⟩:=I.pin p hp
   exact⟨(hs.2 p.1 ne).trans e,n,ne,nf,d⟩
 ·have uF:X.fn x=true:=by
   rcases hf with z|z
   ·exact z
   ·rw[z] at hk;cases hk
  obtain⟨c,hc⟩:=I.ok.has x (.inl hk);obtain⟨w',z⟩:=I.cell x c hc;refine wpAny_storeName_cell I.ok.kind hk hc z (fun h' g9 hs=>?_);obtain⟨oc,oV,vd⟩:=id z;refine h { s with heap:=h' } ⟨I.ok,I.os,I.bare,⟨fun b o e n hb hx=>?_,fun b o e n hb hx=>?_,I.base.free,fun b o e hx=>?_,I.base.tups,I.base.frzs,I.base.tbls⟩,⟨m,hn.sameBut hs (Ne.symm (cne x c hc)),fun j y v' e1 e2 e3=>?_⟩,fun y c' e=>?_,I.free,I.freeC,fun p hp=>?_,fW ⟨oc,oV,I.freeC x c hc⟩ hs,by simpa using I.len⟩ ⟨c,hs,.inr hc⟩
  ·exact(hs.2 b (Mn (Mv (Mc e) (I.ok.cab x c uF hc)))).trans (I.base.keep b o e n hb hx)
  ·obtain⟨sl,e1⟩:=I.base.slot b o e n hb hx
   exact⟨sl,(hs.2 b (Mn (Mv (Mc e) (I.ok.cab x c uF hc)))).trans e1⟩
  ·obtain⟨o',e1⟩:=I.base.there b o e hx
   exact⟨o',(hs.2 b (Mn (Mv (Mc e) (I.ok.cab x c uF hc)))).trans e1⟩
  ·by_cases hj:j=i
   ·subst hj
    rw[hi] at e1;cases e1
    rw[NM sh] at e2;cases e2
    exact⟨u,r,.inr ⟨.inl hk,c,hc,g9⟩⟩
   ·rw[NQ (Ne.symm hj)] at e2
    obtain⟨u',r',q⟩:=hl j y v' e1 e2 e3;refine⟨u',r',?_⟩;rcases q with q|⟨k,c',e,z'⟩
    ·exact .inl q
    ·refine .inr ⟨k,c',e,z'.sameBut hs ?_⟩
     rintro rfl
     exact hj (wB hN e1 (I.ok.inj _ _ _ e hc ▸ hi))
  ·by_cases zq:c'=c
   ·subst zq;exact⟨_,g9⟩
   ·obtain⟨w2,z2⟩:=I.cell y c' e
    exact⟨w2,z2.sameBut hs zq⟩
  ·obtain⟨e,n,ne,nf,d⟩:=I.pin p hp
   refine⟨(hs.2 p.1 ?_).trans e,n,ne,nf,d⟩;intro q;rw[q,oV] at e;have q':oc=p.2:=Option.some.inj e;exact d w' (by rw[<- q'];exact vd)
theorem xu {Q:Unit->Shared->Prop} (I:Inv X aa σ H s) (hN:X.N.Nodup) (hi:X.N[i]?=some x) (hx:Loc X.env.scope x) (r:ay v u)
  (h:∀ s',Inv X aa (σ.set i (some v)) H s'->Q () s') (hf:X.fn x=true\/X.env.scope.names.lookup x=some .local:=by first|exact .inl rfl|exact .inr rfl|assumption):wpAny M A (storeName X.env x u) Q E s:=
 Be I hN hi hx r (fun s' I' _=>h s' I') hf
theorem Inv.call'  (I:Inv X aa σ H s) (ho:s'.os=s.os) (u:Un (frs X.stack) ch H H' s.heap s'.heap) (hok:HOk X.prog X.w H' s'.heap) (hg:AllBare s'.gens)
  (eO:∀ b∈ch,(b∈X.ex\/X.s₀.heap.objs.size<=b)/\b≠X.env.locals/\(∀ x c,X.env.cells.lookup x=some c->c≠b)/\∀ p∈X.pn++aa,p.1≠b):Inv X aa σ H' s':=by
 obtain⟨h',g',d',t',o'⟩:=s';have e:o'=s.os:=ho;subst e;exact I.call (g':=g') (t':=t') (d':=d') u hok hg eO
end
abbrev XK:=Value->Option Addr->Hp->Prop
abbrev St:=List (Option V)
abbrev VK:=V->Hp->Prop
abbrev TE:=St->Hp->VK->Prop
abbrev TT:=St->Hp->(Bool->Hp->Prop)->Prop
abbrev TA:=St->Hp->(List V->Hp->Prop)->Prop
structure eF where
 nx:St->Hp->Prop
 rt:VK
 bk:St->Hp->Prop:=fun _ _=>False
 ct:St->Hp->Prop:=fun _ _=>False
abbrev TS:=eF->St->Hp->Prop
def EP (X:Cx) (aa:List (Addr×Obj)) (σ:St) (Q:VK) (u:Value) (s':Shared):Prop:=∃ v H',Inv X aa σ H' s'/\ay v u/\Q v H'
def TP (X:Cx) (aa:List (Addr×Obj)) (σ:St) (Q:Bool->Hp->Prop) (b:Bool) (s':Shared):Prop:=∃ H',Inv X aa σ H' s'/\Q b H'
def AP (X:Cx) (aa:List (Addr×Obj)) (σ:St) (Q:List V->Hp->Prop) (us:List Value) (s':Shared):Prop:=∃ vs H',Inv X aa σ H' s'/\av vs us/\Q vs H'
def SP (X:Cx) (aa:List (Addr×Obj)) (D:eF) (f:Flow) (s':Shared):Prop:=
 match f with
 | .next=>∃ σ' H',Inv X aa σ' H' s'/\D.nx σ' H'
 | .brk=>∃ σ' H',Inv X aa σ' H' s'/\D.bk σ' H'
 | .cont=>∃ σ' H',Inv X aa σ' H' s'/\D.ct σ' H'
 | .ret u=>∃ v σ' H',Inv X aa σ' H' s'/\ay v u/\D.rt v H'
def PE (X:Cx) (e:Expr) (t:TE):Prop:=
 ∀ (aa:List (Addr×Obj)) (s:Shared) (σ:St) (H:Hp) (Q:VK),Inv X aa σ H s->t σ H Q->wpAny (model X.prog X.w) X.A (eval e X.env) (EP X aa σ Q) X.xe s
def PT (X:Cx) (e:Expr) (t:TT):Prop:=
 ∀ (aa:List (Addr×Obj)) (s:Shared) (σ:St) (H:Hp) (Q:Bool->Hp->Prop),Inv X aa σ H s->t σ H Q->wpAny (model X.prog X.w) X.A (isTrue e X.env (eval e X.env)) (TP X aa σ Q) X.xe s
def PW (X:Cx) (e:Expr) (t:TT):Prop:=
 ∀ (cD:Sem Value) (aa:List (Addr×Obj)) (s:Shared) (σ:St) (H:Hp) (Q:Bool->Hp->Prop),Inv X aa σ H s->t σ H Q->wpAny (model X.prog X.w) X.A (isTrue e X.env cD) (TP X aa σ Q) X.xe s
theorem PW.pt {X:Cx}{t:TT} (h:PW X e t):PT X e t:=h _
def PA (X:Cx) (es:List Expr) (t:TA):Prop:=
 ∀ (pos:Pos) (aa:List (Addr×Obj)) (s:Shared) (σ:St) (H:Hp) (Q:List V->Hp->Prop),Inv X aa σ H s->t σ H Q->wpAny (model X.prog X.w) X.A (spliced (backTo pos (starEach es X.env))) (AP X aa σ Q) X.xe s
def PS (X:Cx) (st:Stmt) (t:TS):Prop:=
 ∀ (aa:List (Addr×Obj)) (s:Shared) (σ:St) (H:Hp) (D:eF),Inv X aa σ H s->t D σ H->wpAny (model X.prog X.w) X.A (exec st X.env) (SP X aa D) X.xe s
def PSs (X:Cx) (st:List Stmt) (t:TS):Prop:=
 ∀ (aa:List (Addr×Obj)) (s:Shared) (σ:St) (H:Hp) (D:eF),Inv X aa σ H s->t D σ H->wpAny (model X.prog X.w) X.A (execs st X.env) (SP X aa D) X.xe s
theorem thn {α:Type}{t:Sem α}{Q Q':α->Shared->Prop} (h:wpAny M A t Q E s) (hQ:∀ a s,Q a s->Q' a s):wpAny M A t Q' E s:=MV h hQ fun _ _ x=>x
section
variable {X:Cx}
def tVar (i:Nat):TE:=fun σ H Q=>∃ v,σ[i]?=some (some v)/\Q v H
def tC (v:V):TE:=fun _ H Q=>Q v H
theorem pe_var  (hN:X.N[i]?=some x) (hv:Vis X.env.scope x) (hd:(x == ("__debug__":Str))=false:=by decide) (eM:(x == ("__classdict__":Str))=false:=by decide):PE X (.Name x pos) (tVar i):=by
 intro aa s σ H Q I h;obtain⟨v,e,h⟩:=h;obtain⟨m,hn,hl⟩:=I.loc;obtain⟨u,r,l⟩:=hl i x v hN e hv;have fin:EP X aa σ Q u s:=⟨v,H,I,r,h⟩;rcases l with⟨hk,hm⟩|⟨hk,c,hc,bA⟩
 ·exact PB (wpAny_loadName_local I.ok.kind hk hn hm fin) hd
 ·rcases hk with hk|hk
  ·exact PB (wpAny_loadName_cell I.ok.kind hk hc bA fin) hd
  ·exact PB (wpAny_loadName_free I.ok.kind hk hc bA fin eM) hd
theorem am {i j pos}:PE X (.Constant (.int i) j pos) (tC (.int i)):=fun _ _ _ H _ I h=>Pj ⟨.int i,H,I.tok _,⟨_,Y⟩,h⟩
theorem gY {b j pos}:PE X (.Constant (.bool b) j pos) (tC (.bl b)):=fun _ _ _ H _ I h=>Constant_bool ⟨.bl b,H,I,Y,h⟩
theorem pe_non {j pos}:PE X (.Constant .none j pos) (tC .non):=fun _ _ _ H _ I h=>Constant_none ⟨.non,H,I,Y,h⟩
theorem lw {x j pos}:PE X (.Constant (.str x) j pos) (tC (.str x)):=fun _ _ _ H _ I h=>Calls.Constant_str ⟨.str x,H,I.tok _,⟨_,Y⟩,h⟩
def Gl (X:Cx) (x:Str):Prop:=X.env.kindOf x=some .globalImplicit
theorem nr {σ:St} (I:Inv X aa σ H s) (hg:Gl X x) (hm:X.mg x=some u) (h:Q u s)
  (hd:(x == ("__debug__":Str))=false:=by decide):wpAny (model X.prog X.w) X.A (eval (.Name x pos) X.env) Q E s:=
 Calls.Name_function_global I.ok.kind hg (Calls.loadGlobal_global (by rw[I.ok.glob];exact I.mod.glob.keeps I.bk) hm h) hd
theorem jk {σ:St} (I:Inv X aa σ H s) (hg:Gl X x) (hm:X.mg x=none) (hv:bootBuiltins x=some u) (h:Q u s)
  (hn:x≠"__name__":=by decide) (hd:(x == ("__debug__":Str))=false:=by decide):wpAny (model X.prog X.w) X.A (eval (.Name x pos) X.env) Q E s:=by
 obtain⟨mb,h1,h2⟩:=I.mod.blt;exact Calls.Name_function_global I.ok.kind hg (Calls.loadGlobal_builtin (by rw[I.ok.glob];exact I.mod.glob.keeps I.bk) hm (by rw[I.ok.blt];exact h1.keeps I.bk) ((h2 x hn).trans hv) h) hd
theorem wc  (hg:Gl X x) (hm:X.mg x=some u) (r:ay v u) (hd:(x == ("__debug__":Str))=false:=by decide):PE X (.Name x pos) (tC v):=
 fun _ _ _ H _ I h=>nr I hg hm ⟨v,H,I,r,h⟩ hd
theorem Jw  (hg:Gl X x) (hm:X.mg x=none) (hv:bootBuiltins x=some u) (r:ay v u) (hn:x≠"__name__":=by decide) (hd:(x == ("__debug__":Str))=false:=by decide):PE X (.Name x pos) (tC v):=
 fun _ _ _ H _ I h=>jk I hg hm hv ⟨v,H,I,r,h⟩ hn hd
variable {a b:Expr}{ta tb:TE}
def PC (X:Cx) (op:CmpOp) (a b:Expr) (t:TE):Prop:=
 ∀ (aa:List (Addr×Obj)) (s:Shared) (σ:St) (H:Hp) (Q:VK),Inv X aa σ H s->t σ H Q ->
  wpAny (model X.prog X.w) X.A (eval a X.env) (fun v s₁=>wpAny (model X.prog X.w) X.A (eval b X.env) (fun u s₂=>wpAny (model X.prog X.w) X.A (compareOp op v u) (EP X aa σ Q) X.xe s₂) X.xe s₁) X.xe s
theorem Cu (b:Expr) (h:op≠.In) (h2:op≠.NotIn):behindInMarks op b=false:=by
 have e1:(op == CmpOp.In)=false:=by cases op <;> first|rfl|exact absurd Y h
 have e2:(op == CmpOp.NotIn)=false:=by cases op <;> first|rfl|exact absurd Y h2
 cases b <;> simp[behindInMarks,e1,e2]
def tIsN (ta:TE):TE:=fun σ H Q=>ta σ H fun x H1=>Q (.bl (decide (x=.non))) H1
theorem ay.none_iff {x:V}{v:Value} (r:ay x v):(v == Value.none)=decide (x=.non):=by
 cases x with
 | non=>cases r;rfl
 | bl _=>cases r;rfl
 | int _=>obtain⟨t,rfl⟩:=r;rfl
 | str _=>obtain⟨t,rfl⟩:=r;rfl
 | byt _=>obtain⟨t,rfl⟩:=r;rfl
 | flt _=>obtain⟨t,rfl⟩:=r;rfl
 | ref _=>cases r;rfl
 | ty _=>cases r;rfl
theorem wZ {j aS} (ha:PE X a ta):PC X .Is a (.Constant .none j aS) (tIsN ta):=by
 intro aa s σ H Q I h;refine thn (ha aa s σ H _ I h) fun v s1=>L2.ex5 fun x H1 I1 r1 q1=>?_
 exact Constant_none (is_none_gen ⟨.bl _,H1,I1,by rw[r1.none_iff];rfl,q1⟩)
def tB (t:TE):TT:=fun σ H Q=>t σ H fun x H1=>∃ c,x=.bl c/\Q c H1
theorem pe_cmp {t:TE} (h:PC X op a b t) (h1:behindInMarks op b=false:=by first|exact Cu _ (by decide) (by decide)|rfl):PE X (.Compare a [op] [b] pos) t:=fun aa s σ H Q I hw=>wpAny_Compare1 (h aa s σ H Q I hw) h1
theorem qE {t:TE} (h:PC X op a b t) (h1:behindInMarks op b=false:=by first|exact Cu _ (by decide) (by decide)|rfl):PT X (.Compare a [op] [b] pos) (tB t):=by
 intro aa s σ H Q I hw;refine O5 (thn (h aa s σ H _ I hw) fun v s1 h1=>thn h1 fun u s2 h2=>thn h2 fun c s3=>L2.ex5 fun x H1 I1 r1 q1=>?_) h1;obtain⟨d,rfl,q⟩:=q1;cases r1
 exact Nn ⟨H1,I1,q⟩
theorem fL {t:TE} (h:PE X e t) (he:∀ cD,isTrue e X.env cD=(do let v <- cD;standAt e.pos;holding [v] (truthy v)):=by intro _;rfl):PT X e (tB t):=by
 intro aa s σ H Q I hw;refine isTrue_plain (thn (h aa s σ H _ I hw) fun v s1=>L2.ex5 fun x H1 I1 r1 q1=>?_) (he _);obtain⟨d,rfl,q⟩:=q1;cases r1
 exact Nn ⟨H1,I1,q⟩
variable {tA rW:TT}{aW:List Expr}
def tAnd (t u:TT):TT:=fun σ H Q=>t σ H fun c H1=>if c=true then u σ H1 Q else Q false H1
def tOr (t u:TT):TT:=fun σ H Q=>t σ H fun c H1=>if c=true then Q true H1 else u σ H1 Q
def tNot (t:TT):TT:=fun σ H Q=>t σ H fun c H1=>Q (!c) H1
theorem wb (ha:PT X a tA):PW X (.BoolOp .And [a] pos) tA:=by
 intro wh aa s σ H Q I h;refine isTrue_and (thn (ha aa s σ H Q I h) fun c s1 e=>?_);cases c with
 | true=>exact isTrue_and_nil e
 | false=>exact e
theorem gH (ha:PT X a tA):PW X (.BoolOp .Or [a] pos) tA:=by
 intro wh aa s σ H Q I h;refine isTrue_or (thn (ha aa s σ H Q I h) fun c s1 e=>?_);cases c with
 | false=>exact isTrue_or_nil e
 | true=>exact e
theorem wW (ha:PT X a tA) (hb:PW X (.BoolOp .And (b::aW) pos) rW):PW X (.BoolOp .And (a::b::aW) pos) (tAnd tA rW):=by
 intro wh aa s σ H Q I h;refine isTrue_and (thn (ha aa s σ H _ I h) fun c s1=>L2.ex3 fun H1 I1 q1=>?_);cases c with
 | true=>exact hb wh aa s1 σ H1 Q I1 q1
 | false=>exact⟨H1,I1,q1⟩
theorem eJ (ha:PT X a tA) (hb:PW X (.BoolOp .Or (b::aW) pos) rW):PW X (.BoolOp .Or (a::b::aW) pos) (tOr tA rW):=by
 intro wh aa s σ H Q I h;refine isTrue_or (thn (ha aa s σ H _ I h) fun c s1=>L2.ex3 fun H1 I1 q1=>?_);cases c with
 | true=>exact⟨H1,I1,q1⟩
 | false=>exact hb wh aa s1 σ H1 Q I1 q1
theorem gS (ha:PT X a tA):PT X (.UnaryOp .Not a pos) (tNot tA):=by
 intro aa s σ H Q I h;exact isTrue_not (ha aa s σ H (fun c H1=>Q (!c) H1) I h)
def tAndV (ta tb:TE):TE:=fun σ H Q=>ta σ H fun x H1=>∃ c,x=.bl c/\if c=true then tb σ H1 Q else Q (.bl false) H1
def tNotV (ta:TE):TE:=fun σ H Q=>ta σ H fun x H1=>∃ c,x=.bl c/\Q (.bl (!c)) H1
theorem xC {op}{t:TE} (h:PE X a t):PE X (.BoolOp op [a] pos) t:=fun aa s σ H Q I hw=>BoolOp_one (h aa s σ H Q I hw)
theorem tm (ha:PE X a ta) (hb:PE X (.BoolOp .And (b::aW) pos) tb):PE X (.BoolOp .And (a::b::aW) pos) (tAndV ta tb):=by
 intro aa s σ H Q I h;refine BoolOp_and (thn (ha aa s σ H _ I h) fun v s1=>L2.ex5 fun x H1 I1 r1 q1=>?_);obtain⟨c,rfl,q1⟩:=q1;cases r1
 refine Nn ?_;cases c with
 | true=>exact hb aa s1 σ H1 Q I1 q1
 | false=>exact⟨.bl false,H1,I1,Y,q1⟩
theorem pe_not (ha:PE X a ta):PE X (.UnaryOp .Not a pos) (tNotV ta):=by
 intro aa s σ H Q I h;refine UnaryOp_ (thn (ha aa s σ H _ I h) fun v s1=>L2.ex5 fun x H1 I1 r1 q1=>?_);obtain⟨c,rfl,q1⟩:=q1;cases r1
 exact not_of (Nn ⟨.bl (!c),H1,I1,Y,q1⟩)
end
def SqL (K:PySem.W.Frag) (H:Hp) (a:Addr) (xs:List V):Prop:=
 Rd H a (.lst xs) \/
  ∃ (o:Obj) (ac:Array Value) (n:Nat),K.lookup a=some o/\o.cls=.type "list"/\o.dict=none/\o.data=.seq ac n/\ac.size<=sizeLine/\av xs ac.toList
def SqT (K:PySem.W.Frag) (H:Hp) (a:Addr) (xs:List V):Prop:=
 Rd H a (.tup xs) \/
  ∃ (o:Obj) (ac:Array Value) (n:Nat),K.lookup a=some o/\o.cls=.type "tuple"/\o.data=.seq ac n/\ac.size<=sizeLine/\av xs ac.toList
def absV:Value->Option V
 | .none=>some .non
 | .bool b=>some (.bl b)
 | .int i _=>some (.int i)
 | .str x _=>some (.str x)
 | .bytes b _=>some (.byt b)
 | .float b _=>some (.flt b)
 | .ref a=>some (.ref a)
 | .type n=>some (.ty n)
 | _=>none
variable {D:eF}{X:Cx}{aS:Pos}{body st:List Stmt}{c iter l tg:Expr}{es:List Expr}{fp:List Addr}{lo:Int}{n:Nat}{ta:TA}{tb:TS}{tc:TT}{te tl:TE}{xs:List V}{σ:St}
theorem ay.abs {x:V} (r:ay x u):absV u=some x:=by
 cases x with
 | non=>cases r;rfl
 | bl _=>cases r;rfl
 | int _=>obtain⟨t,rfl⟩:=r;rfl
 | str _=>obtain⟨t,rfl⟩:=r;rfl
 | byt _=>obtain⟨t,rfl⟩:=r;rfl
 | flt _=>obtain⟨t,rfl⟩:=r;rfl
 | ref _=>cases r;rfl
 | ty _=>cases r;rfl
theorem ay.inj {x y:V}{u:Value} (r:ay x u) (q:ay y u):x=y:=Option.some.inj (r.abs.symm.trans q.abs)
theorem av.inj:∀ {xs ys:List V}{us:List Value},av xs us->av ys us->xs=ys
 | _,_,_,.nil,.nil=>rfl
 | _,_,_,.cons r t,.cons r' t'=>by rw[r.inj r',av.inj t t']
section
variable {ys:List V}
theorem SqL.of {K:PySem.W.Frag} (h:H a=some (.lst xs)):SqL K H a xs:=.inl (.inl h)
theorem SqT.of {K:PySem.W.Frag} (h:H a=some (.tup xs)):SqT K H a xs:=.inl (.inl h)
theorem Inv.list (I:Inv X aa σ H s) (h:SqL X.K H a xs):∃ ac:List Value,av xs ac/\PlainL s.heap a ac.toArray/\xs.length<=sizeLine:=by
 rcases h with h|⟨o,ac,n,hk,hc,hd,hs,hz,r⟩
 ·obtain⟨z,ac,n,r,e⟩:=h.ok I.hok
  exact⟨ac,r,⟨_,n,e,Y,Y,Y⟩,z⟩
 ·refine⟨ac.toList,r,⟨o,n,I.kIn a o hk,hc,hd,by simpa using hs⟩,?_⟩
  have e:=r.length;simp only[ML] at e
  omega
theorem Inv.tuple (I:Inv X aa σ H s) (h:SqT X.K H a xs):∃ ac:List Value,av xs ac/\IsTup s.heap a ac.toArray/\xs.length<=sizeLine:=by
 rcases h with h|⟨o,ac,n,hk,hc,hs,hz,r⟩
 ·obtain⟨z,ac,r,p⟩:=h.ok I.hok
  exact⟨ac,r,p,z⟩
 ·refine⟨ac.toList,r,⟨o,I.kIn a o hk,hc,n,by simpa using hs⟩,?_⟩
  have e:=r.length;simp only[ML] at e
  omega
theorem Inv.list_inj (I:Inv X aa σ H s) (h:SqL X.K H a xs) (h':SqL X.K H a ys):xs=ys:=by
 obtain⟨ac,r,⟨o,n,e,_,_,d⟩,_⟩:=I.list h;obtain⟨its',r',⟨o',n',e',_,_,d'⟩,_⟩:=I.list h';rw[e] at e';cases e'
 rw[d] at d';injection d' with d1 _
 have:ac=its':=by simpa using congrArg Array.toList d1
 subst this;exact r.inj r'
theorem Inv.tuple_inj (I:Inv X aa σ H s) (h:SqT X.K H a xs) (h':SqT X.K H a ys):xs=ys:=by
 obtain⟨ac,r,⟨o,e,_,n,d⟩,_⟩:=I.tuple h;obtain⟨its',r',⟨o',e',_,n',d'⟩,_⟩:=I.tuple h';rw[e] at e';cases e'
 rw[d] at d';injection d' with d1 _
 have:ac=its':=by simpa using congrArg Array.toList d1
 subst this;exact r.inj r'
end
abbrev Cx.wish (X:Cx) (E:Value->Shared->Prop):Cx:={ X with xe:=E }
abbrev Cx.nox (X:Cx):Cx:=X.wish fun _ _=>False
theorem Cx.Ok.wish {X:Cx} (ok:X.Ok) (E:Value->Shared->Prop):(X.wish E).Ok:=
 ⟨ok.mod,ok.kind,ok.glob,ok.blt,ok.above,ok.inj,ok.has,ok.cab,ok.hd,ok.frames,ok.stk,ok.exf,ok.bs,ok.bsz,ok.noex,ok.exfs,ok.funs,ok.frf⟩
theorem Cx.Ok.unwish  (ok:(X.wish E).Ok):X.Ok:=
 ⟨ok.mod,ok.kind,ok.glob,ok.blt,ok.above,ok.inj,ok.has,ok.cab,ok.hd,ok.frames,ok.stk,ok.exf,ok.bs,ok.bsz,ok.noex,ok.exfs,ok.funs,ok.frf⟩
theorem Inv.wish (I:Inv X aa σ H s) (E:Value->Shared->Prop):Inv (X.wish E) aa σ H s:=⟨I.ok.wish E,I.os,I.bare,I.base,I.loc,I.cell,I.free,I.freeC,I.pin,I.hok,I.len⟩
theorem Inv.unwish (I:Inv (X.wish E) aa σ H s):Inv X aa σ H s:=⟨I.ok.unwish,I.os,I.bare,I.base,I.loc,I.cell,I.free,I.freeC,I.pin,I.hok,I.len⟩
theorem SP.unwish {D:eF}{f:Flow}{s':Shared} (h:SP (X.wish E) aa D f s'):SP X aa D f s':=by
 cases f with
 | next=>obtain⟨σ',H',I,q⟩:=h;exact⟨σ',H',I.unwish,q⟩
 | brk=>obtain⟨σ',H',I,q⟩:=h;exact⟨σ',H',I.unwish,q⟩
 | cont=>obtain⟨σ',H',I,q⟩:=h;exact⟨σ',H',I.unwish,q⟩
 | ret u=>obtain⟨v,σ',H',I,r,q⟩:=h;exact⟨v,σ',H',I.unwish,r,q⟩
theorem PSs.nox {t:TS} (h:PSs X.nox st t):PSs X st t:=fun aa s σ H D I hw=>
 MV (h aa s σ H D (I.wish _) hw) (fun _ _ q=>q.unwish) fun _ _ z=>False.elim z
section
variable {st:Stmt}{aW:List Stmt}{t u:TS}
def tNext:TS:=fun D σ H=>D.nx σ H
def tSeq (t u:TS):TS:=fun D σ H=>t { D with nx:=u D } σ H
theorem bO:PSs X [] tNext:=fun _ _ σ H _ I h=>Og ⟨σ,H,I,h⟩
theorem ao (h1:PS X st t) (h2:PSs X aW u):PSs X (st::aW) (tSeq t u):=by
 intro aa s σ H D I h;refine wpAny_execs_cons (thn (h1 aa s σ H { D with nx:=u D } I h) fun f s1 q=>?_);cases f with
 | next=>
  obtain⟨σ',H',I',q⟩:=q;exact h2 aa s1 σ' H' D I' q
 | ret v=>exact q
 | brk=>exact q
 | cont=>exact q
theorem aq (h1:PS X st t):PSs X [st] t:=by
 intro aa s σ H D I h;refine wpAny_execs_cons (thn (h1 aa s σ H D I h) fun f s1 q=>?_);cases f with
 | next=>exact Og q
 | ret v=>exact q
 | brk=>exact q
 | cont=>exact q
theorem Inv.quiet  (I:Inv X aa σ H s):interactive X.env=false:=by simp[interactive,I.ok.kind]
def tDrop (te:TE):TS:=fun D σ H=>te σ H fun _ H1=>D.nx σ H1
theorem ck (he:PE X e te) (hs:swapsWith e none pos.line X.env=pure false:=by rfl):PS X (.Expr e pos) (tDrop te):=by
 intro aa s σ H D I h;exact wpAny_Expr_any (thn (he aa s σ H _ I h) fun v s1=>L2.ex5 fun x H1 I1 r1 q1=>⟨σ,H1,I1,q1⟩) I.quiet hs
def tRet (te:TE):TS:=fun D σ H=>te σ H D.rt
theorem aO (he:PE X e te):PS X (.Return (some e) pos) (tRet te):=by
 intro aa s σ H D I h;exact wpAny_Return_some (thn (he aa s σ H _ I h) fun v s1=>L2.ex5 fun x H1 I1 r1 q1=>⟨x,σ,H1,I1,r1,q1⟩)
def tIfS (c:TT) (t u:TS):TS:=fun D σ H=>c σ H fun b H1=>if b=true then t D σ H1 else u D σ H1
theorem bG {a b:List Stmt} (hc:PT X c tc) (ha:PSs X a t) (hb:PSs X b u):PS X (.If c a b pos) (tIfS tc t u):=by
 intro aa s σ H D I h;refine wpAny_If (thn (hc aa s σ H _ I h) fun d s1=>L2.ex3 fun H1 I1 q1=>?_);cases d with
 | true=>exact ha aa s1 σ H1 D I1 q1
 | false=>exact hb aa s1 σ H1 D I1 q1
end
abbrev TG:=V->St->Hp->(St->Hp->Prop)->Prop
abbrev TGs:=List V->St->Hp->(St->Hp->Prop)->Prop
def PG (X:Cx) (b8:Expr) (t:TG):Prop:=
 ∀ (aa:List (Addr×Obj)) (s:Shared) (σ:St) (H:Hp) (v:V) (u:Value) (Q:St->Hp->Prop),Inv X aa σ H s->ay v u->t v σ H Q ->
  wpAny (model X.prog X.w) X.A (assign b8 X.env u) (fun _ s'=>∃ σ' H',Inv X aa σ' H' s'/\Q σ' H') X.xe s
def PGs (X:Cx) (ts:List Expr) (t:TGs):Prop:=
 ∀ (aa:List (Addr×Obj)) (s:Shared) (σ:St) (H:Hp) (vs:List V) (us:List Value) (Q:St->Hp->Prop),Inv X aa σ H s->av vs us->t vs σ H Q ->
  wpAny (model X.prog X.w) X.A (assignInOrder ((assignEach ts X.env).map (·.2)) us) (fun _ s'=>∃ σ' H',Inv X aa σ' H' s'/\Q σ' H') X.xe s
abbrev TSet:=V->V->V->Hp->(Hp->Prop)->Prop
def PSet (X:Cx) (t:TSet):Prop:=
 ∀ (aa:List (Addr×Obj)) (s:Shared) (σ:St) (H:Hp) (o i v:V) (ov iv u:Value) (Q:Hp->Prop),Inv X aa σ H s->ay o ov->ay i iv->ay v u->t o i v H Q ->
  wpAny (model X.prog X.w) X.A (setItem ov iv u) (fun _ s'=>∃ H',Inv X aa σ H' s'/\Q H') X.xe s
def aV (i:Nat):TG:=fun v σ H Q=>Q (σ.set i (some v)) H
theorem aD  (hN:X.N.Nodup) (hi:X.N[i]?=some x) (hx:Loc X.env.scope x) (hf:X.fn x=true\/X.env.scope.names.lookup x=some .local:=by first|exact .inl rfl|exact .inr rfl|assumption):PG X (.Name x pos) (aV i):=by
 intro aa s σ H v u Q I r h;exact Pr (xu I hN hi hx r (fun s' I'=>⟨_,H,I',h⟩) hf)
def gNil:TGs:=fun vs σ H Q=>vs=[]/\Q σ H
def gCons (t:TG) (u:TGs):TGs:=fun vs σ H Q=>∃ v r,vs=v::r/\t v σ H fun σ' H'=>u r σ' H' Q
theorem fU:PGs X [] gNil:=by
 intro aa s σ H vs us Q I r h;obtain⟨e,h⟩:=h;subst e;cases r
 exact assignInOrder_nil ⟨σ,H,I,h⟩
theorem aQ {t:TG}{u:TGs} (h1:PG X e t) (h2:PGs X es u)
  (hs:(assignEach (e::es) X.env).map (·.2)=assign e X.env::(assignEach es X.env).map (·.2):=by rfl):PGs X (e::es) (gCons t u):=by
 intro aa s σ H vs us Q I r h;obtain⟨v,vr,e1,h⟩:=h;subst e1;cases r with
 | cons r rr=>
  rw[hs];refine assignInOrder_cons (thn (h1 aa s σ H _ _ _ I r h) fun _ s1=>L2.ex4 fun σ1 H1 I1 q1=>?_);exact h2 aa s1 σ1 H1 _ _ Q I1 rr q1
def gTup (K:PySem.W.Frag) (n:Nat) (t:TGs):TG:=fun v σ H Q=>∃ a xs,v=.ref a/\SqT K H a xs/\xs.length=n/\t xs σ H Q
theorem gR {k:Nat}{t:TGs} (hc:X.calm=true) (h:PGs X es t)
  (hn:(assignEach es X.env).length=n:=by rfl) (dG:(assignEach es X.env).findIdx? (·.1)=none:=by rfl):PG X (.Tuple es k pos) (gTup X.K n t):=by
 intro aa s σ H v u Q I r hw;obtain⟨a,xs,e1,hq,hl,hw⟩:=hw;subst e1;cases r
 obtain⟨ac,rv,ht,hz⟩:=I.tuple hq;refine GD I.hd ht (by simp[hn,<- hl,rv.length]) dG fun h' hx=>?_
 have I1:Inv X aa σ H { s with heap:=h' }:=I.kept (t':=s.toks) fun b o e=>hx b o (Mn (Mc e)) e
 exact h aa _ σ H xs _ Q I1 (by simpa using rv) hw
def gSub (to ti:TE) (t:TSet):TG:=fun v σ H Q=>to σ H fun o H1=>ti σ H1 fun i H2=>t o i v H2 fun H3=>Q σ H3
theorem pg_sub {o i:Expr}{to ti:TE}{t:TSet} (ho:PE X o to) (hi:PE X i ti) (hs:PSet X t)
  (ha:∀ v,assign (.Subscript o i pos) X.env v=(do
   let ov <- holding [v] (eval o X.env)
   let iv <- holding [v,ov] (eval i X.env)
   standAt pos
   holding [v,ov,iv] (setItem ov iv v)
   release [v,ov,iv] []):=by intro _;rfl):PG X (.Subscript o i pos) (gSub to ti t):=by
 intro aa s σ H v u Q I r h;rw[ha];refine l7 (MS (thn (ho aa s σ H _ I h) fun ov s1=>L2.ex5 fun x H1 I1 r1 q1=>?_));refine l7 (MS (thn (hi aa s1 σ H1 _ I1 q1) fun iv s2=>L2.ex5 fun y H2 I2 r2 q2=>?_));refine l7 (NR (l7 (MS (thn (hs aa s2 σ H2 x y v ov iv u _ I2 r1 r2 r q2) fun _ s3=>L2.ex3 fun H3 I3 q3=>?_))));exact wpAny_release ⟨σ,H3,I3,q3⟩
def tAsg (te:TE) (g:TG):TS:=fun D σ H=>te σ H fun x H1=>g x σ H1 D.nx
theorem At {g:TG} (he:PE X e te) (hg:PG X tg g) (hs:swapsWithSole [tg] e pos.line X.env=pure false:=by rfl) (hw:swappedStores [tg] e X.env=pure none:=by rfl)
  (h1:(assignEach [tg] X.env).map (·.2)=[assign tg X.env]:=by rfl):PS X (.Assign [tg] e pos) (tAsg te g):=by
 intro aa s σ H D I h;refine wpAny_Assign_stores (thn (he aa s σ H _ I h) fun v s1=>L2.ex5 fun x H1 I1 r1 q1=>?_) hs hw;rw[h1];exact thn (hg aa s1 σ H1 x v _ I1 r1 q1) fun _ s2 q=>q
theorem aU  (hN:X.N.Nodup) (hi:X.N[i]?=some x) (hx:Loc X.env.scope x) (he:PE X e te) (hs:swapsWith e (some (.Name x aS)) pos.line X.env=pure false:=by rfl) (hf:X.fn x=true\/X.env.scope.names.lookup x=some .local:=by first|exact .inl rfl|exact .inr rfl|assumption) :
  PS X (.Assign [.Name x aS] e pos) (tAsg te (aV i)):=by
 intro aa s σ H D I h;refine wpAny_Assign_Name (thn (he aa s σ H _ I h) fun v s1=>L2.ex5 fun y H1 I1 r1 q1=>?_) hs;exact xu I1 hN hi hx r1 (fun s2 I2=>⟨_,H1,I2,q1⟩) hf
def tWhile (c:TT) (tb:TS):TS:=fun D σ H=>∃ W:Nat->St->Hp->Prop,(∃ m,W m σ H)/\∀ m σ H,W m σ H ->
 c σ H fun b H1=>if b=true then ∃ N:St->Hp->Prop,(∀ σ' H',N σ' H'->∃ m',m'<m/\W m' σ' H')/\tb { D with nx:=N,ct:=N,bk:=D.nx } σ H1 else D.nx σ H1
theorem JS  (hp:PassesOwn (model X.prog X.w) X.A X.env X.xe) (hc:PT X c tc) (hb:PSs X body tb):PS X (.While c body [] pos) (tWhile tc tb):=by
 intro aa s σ H D I h;obtain⟨W,⟨m0,w0⟩,turn⟩:=h;refine wpAny_While (codeAny_whileLoop (fun n s'=>∃ σ' H',Inv X aa σ' H' s'/\W n σ' H') ?_ m0 ⟨σ,H,I,w0⟩);rintro n s1 ⟨σ1,H1,I1,w1⟩
 refine Nx hp (thn (hc aa s1 σ1 H1 _ I1 (turn n σ1 H1 w1)) fun b s2=>L2.ex3 fun H2 I2 q2=>?_);cases b with
 | true=>
  obtain⟨N,hN,q2⟩:=q2;rw[if_pos rfl];refine Nx hp (thn (hb aa s2 σ1 H2 _ I2 q2) fun f s3 q3=>?_);cases f with
  | next=>
   obtain⟨σ3,H3,I3,n3⟩:=q3;obtain⟨m',hm,w3⟩:=hN σ3 H3 n3;exact⟨m',hm,σ3,H3,I3,w3⟩
  | cont=>
   obtain⟨σ3,H3,I3,n3⟩:=q3;obtain⟨m',hm,w3⟩:=hN σ3 H3 n3;exact⟨m',hm,σ3,H3,I3,w3⟩
  | brk=>exact q3
  | ret v=>exact q3
 | false=>
  rw[if_neg Mq];exact Og ⟨σ1,H2,I2,q2⟩
structure It where
 go:Nat->Hp->Prop
 yld:Nat->Hp->V->Hp->Prop
 stop:Nat->Hp->Prop
def bv (X:Cx) (aa:List (Addr×Obj)) (H:Hp) (b:Addr):Prop:=
 H b=none/\b≠X.env.locals/\b∉X.fs/\(b∈X.ex\/X.s₀.heap.objs.size<=b)/\(∀ x c,X.env.cells.lookup x=some c->c≠b)/\∀ p∈X.pn++aa,p.1≠b
theorem Inv.fpOk  (I:Inv X aa σ H s) (hb:s.heap.objs.size<=b) (hn:H' b=none):bv X aa H' b:=by
 refine⟨hn,Nf (Mv I.lt hb),I.nofs hb,.inr (MN I.sz hb),fun x c e z=>?_,fun p hp z=>?_⟩
 ·obtain⟨v,q⟩:=I.cell x c e
  exact absurd (Mv q.lt (by rw[z];exact hb)) (MF _)
 ·exact absurd (Mv (Mc (I.pin p hp).1) (by rw[z];exact hb)) (MF _)
structure jG (P:Program) (w:World) (K:PySem.W.Frag) (tg:Expr) (J:It) (fp:List Addr) (it:Addr) (tn:Nat->Heap->Prop):Prop where
 mem:it∈fp
 obj:∀ i h,tn i h->∀ b∈fp,∃ o,h.get? b=some o/\∀ v,o.data≠.cell v
 keep:∀ i h h',tn i h->(∀ b∈fp,∀ o,h.get? b=some o->h'.get? b=some o)->tn i h'
 item:∀ (X:Cx),X.prog=P->X.w=w->X.K=K->X.calm=true->∀ (i:Nat) (aa:List (Addr×Obj)) (s:Shared) (σ:St) (H:Hp) (E:Value->Shared->Prop),Inv X aa σ H s->(∀ b∈fp,bv X aa H b)->tn i s.heap->J.go i H ->
  wpAny (model P w) X.A (pyNext (.ref it)) (fun r s1=>∃ u,r=some u /\
   wpAny (model P w) X.A (letOwnedTupleGo tg (.ref it) u) (fun _ s2=>∃ x H',Inv X aa σ H' s2/\ay x u/\J.yld i H x H'/\tn (i + 1) s2.heap/\∀ b∈fp,H' b=none) E s1) E s
 done:∀ (X:Cx),X.prog=P->X.w=w->X.K=K->X.calm=true->∀ (i:Nat) (aa:List (Addr×Obj)) (s:Shared) (σ:St) (H:Hp) (E:Value->Shared->Prop),Inv X aa σ H s->(∀ b∈fp,bv X aa H b)->tn i s.heap->J.stop i H ->
  wpAny (model P w) X.A (pyNext (.ref it)) (fun r s1=>r=none/\Inv X aa σ H s1) E s
 self:∀ (A:Around) (i:Nat) (s:Shared) (Q:Value->Shared->Prop) (E:Value->Shared->Prop),tn i s.heap->Q (.ref it) s->wpAny (model P w) A (pyIter (.ref it)) Q E s
abbrev TI:=St->Hp->(It->Hp->Prop)->Prop
def PIE (X:Cx) (aa:List (Addr×Obj)) (σ:St) (tg:Expr) (R:It->Hp->Prop) (rS:Value) (s2:Shared):Prop:=
 ∃ (it:Addr) (fp:List Addr) (tn:Nat->Heap->Prop) (J:It) (H':Hp),rS=.ref it/\Inv X aa σ H' s2/\jG X.prog X.w X.K tg J fp it tn/\tn 0 s2.heap/\(∀ b∈fp,bv X aa H' b)/\R J H'
def PI (X:Cx) (tg iter:Expr) (wi:TI):Prop:=
 ∀ (aa:List (Addr×Obj)) (s:Shared) (σ:St) (H:Hp) (R:It->Hp->Prop),Inv X aa σ H s->wi σ H R ->
  wpAny (model X.prog X.w) X.A (eval iter X.env) (fun v s1=>wpAny (model X.prog X.w) X.A (pyIter v) (PIE X aa σ tg R) X.xe s1) X.xe s
theorem re {it:Addr}{n:String}{Q:Unit->Shared->Prop} (ho:s.heap.get? it=some o) (hc:o.cls=.type n) (hd:o.data=.fields vs)
    (hn:["enumerate","zip","dict_itemiterator","dict_reverseitemiterator","odict_iterator","itertools.zip_longest","itertools.pairwise"].contains n=false) (hQ:Q () s):wpAny M A (letOwnedTupleGo tg (.ref it) u) Q E s:=by
  unfold letOwnedTupleGo;cases tg <;> first
    | exact Mb hQ
    | (cases u <;> first
        | exact Mb hQ
        | (refine l7 (wpAny_load ho ?_)
           rw[hc,hd];show wpAny M A (if (["enumerate","zip","dict_itemiterator","dict_reverseitemiterator","odict_iterator","itertools.zip_longest","itertools.pairwise"].contains n && vs[0]? == some (rawInt _))=true then _ else _) Q E s;rw[if_neg (by intro h;rw[hn,Bool.false_and] at h;cases h)];exact Mb hQ))
def Itl (K:PySem.W.Frag) (a:Addr):It:=
 ⟨fun i H=>∃ xs x,SqL K H a xs/\xs[i]?=some x,fun i H x H'=>H'=H/\∀ xs,SqL K H a xs->xs[i]?=some x,fun i H=>∃ xs,SqL K H a xs/\xs.length<=i⟩
def Itt (K:PySem.W.Frag) (a:Addr):It:=
 ⟨fun i H=>∃ xs x,SqT K H a xs/\xs[i]?=some x,fun i H x H'=>H'=H/\∀ xs,SqT K H a xs->xs[i]?=some x,fun i H=>∃ xs,SqT K H a xs/\xs.length<=i⟩
def Itr (lo:Int) (n:Nat):It:=⟨fun i _=>i<n,fun i H x H'=>H'=H/\x=.int (lo + i),fun i _=>n<=i⟩
theorem HS {K:PySem.W.Frag} (a it:Addr):jG P w K tg (Itl K a) [it] it (fun i h=>h.IsListIter it a i) where
 mem:=by simp
 obj:=fun i h st b hb=>by
  have e:b=it:=by simpa using hb
  subst e;obtain⟨o,e,c,d⟩:=st;exact⟨o,e,fun v z=>by rw[d] at z;cases z⟩
 keep:=fun i h h' st k=>st.at fun o e=>k it (by simp) o e
 item:=by
  intro X hP hw hK hc i aa s σ H E I hf st hg;subst hP hw hK;obtain⟨xs,x,hq,hx⟩:=hg;obtain⟨ac,rv,p,hz⟩:=I.list hq;obtain⟨u,hu,ru⟩:=rv.get hx;obtain⟨f0,f1,f2,f3,f4,f5⟩:=hf it (by simp);refine O0 st p.isList (x:=u) (by simpa using hu) fun h' aL sb=>?_
  have I1:Inv X aa σ H { s with heap:=h' }:=I.turned (t':=s.toks) (fun b o hb e=>(sb.2 b hb).trans e) f0 f1 f3 f4 f5;obtain⟨o,e,c,d⟩:=id aL;exact⟨u,Y,re (s:={ s with heap:=h' }) e c d (by decide) ⟨x,H,I1,ru,⟨Y,fun ys hy=>by rw[I.list_inj hy hq];exact hx⟩,aL,fun b hb=>(hf b hb).1⟩⟩
 done:=by
  intro X hP hw hK hc i aa s σ H E I hf st hg;subst hP hw hK;obtain⟨xs,hq,hx⟩:=hg;obtain⟨ac,rv,p,hz⟩:=I.list hq;obtain⟨f0,f1,f2,f3,f4,f5⟩:=hf it (by simp);have hl:=rv.length;exact Ae I.hd st p.isList (by simp;omega) fun h' eb=>⟨Y,I.turned (t':=s.toks) (fun b o hb e=>eb b o hb e) f0 f1 f3 f4 f5⟩
 self:=fun _ _ _ _ _ st h=>O6 st h
theorem Ka {K:PySem.W.Frag} (a it:Addr):jG P w K tg (Itt K a) [it] it (fun i h=>h.IsTupleIter it a i) where
 mem:=by simp
 obj:=fun i h st b hb=>by
  have e:b=it:=by simpa using hb
  subst e;obtain⟨o,e,c,d⟩:=st;exact⟨o,e,fun v z=>by rw[d] at z;cases z⟩
 keep:=fun i h h' st k=>st.at fun o e=>k it (by simp) o e
 item:=by
  intro X hP hw hK hc i aa s σ H E I hf st hg;subst hP hw hK;obtain⟨xs,x,hq,hx⟩:=hg;obtain⟨ac,rv,p,hz⟩:=I.tuple hq;obtain⟨u,hu,ru⟩:=rv.get hx;obtain⟨f0,f1,f2,f3,f4,f5⟩:=hf it (by simp);refine OR st (show s.heap.IsTuple a ac.toArray from p) (x:=u) (by simpa using hu) fun h' aL sb=>?_
  have I1:Inv X aa σ H { s with heap:=h' }:=I.turned (t':=s.toks) (fun b o hb e=>(sb.2 b hb).trans e) f0 f1 f3 f4 f5;obtain⟨o,e,c,d⟩:=id aL;exact⟨u,Y,re (s:={ s with heap:=h' }) e c d (by decide) ⟨x,H,I1,ru,⟨Y,fun ys hy=>by rw[I.tuple_inj hy hq];exact hx⟩,aL,fun b hb=>(hf b hb).1⟩⟩
 done:=by
  intro X hP hw hK hc i aa s σ H E I hf st hg;subst hP hw hK;obtain⟨xs,hq,hx⟩:=hg;obtain⟨ac,rv,p,hz⟩:=I.tuple hq;obtain⟨f0,f1,f2,f3,f4,f5⟩:=hf it (by simp);have hl:=rv.length;exact wO I.hd st (show s.heap.IsTuple a ac.toArray from p) (by simp;omega) fun h' eb=>⟨Y,I.turned (t':=s.toks) (fun b o hb e=>eb b o hb e) f0 f1 f3 f4 f5⟩
 self:=fun _ _ _ _ _ st h=>O2 st h
theorem Kq {K:PySem.W.Frag} (it:Addr) (lo:Int) (n:Nat):jG P w K tg (Itr lo n) [it] it (fun i h=>IsRangeIter h it (lo + (i:Nat) * 1) ((n:Int) - (i:Nat)) 1) where
 mem:=by simp
 obj:=fun i h st b hb=>by
  have e:b=it:=by simpa using hb
  subst e;exact⟨_,st,fun v z=>by
   have z':Data.fields _=Data.cell v:=z;cases z'⟩
 keep:=fun i h h' st k=>k it (by simp) _ st
 item:=by
  intro X hP hw hK hc i aa s σ H E I hf st hg;subst hP hw hK;obtain⟨f0,f1,f2,f3,f4,f5⟩:=hf it (by simp);refine wpAny_pyNext_range_item st (by have:i<n:=hg;omega) fun h' iR sb=>?_
  have aL:IsRangeIter h' it (lo + ((i + 1:Nat):Int) * 1) ((n:Int) - ((i + 1:Nat):Int)) 1:=by
   rw[show lo + ((i + 1:Nat):Int) * 1=lo + (i:Int) * 1 + 1 by omega,show(n:Int) - ((i + 1:Nat):Int)=(n:Int) - (i:Int) - 1 by omega];exact iR
  have I1:Inv X aa σ H { s with heap:=h',toks:=s.toks + 1 }:=I.turned (fun b o hb e=>sb.extBut b o hb e) f0 f1 f3 f4 f5;exact⟨_,Y,re (s:={ s with heap:=h',toks:=s.toks + 1 }) (n:="range_iterator") aL Y Y (by decide) ⟨.int (lo + i),H,I1,⟨_,by rw[Int.mul_one]⟩,⟨Y,Y⟩,aL,fun b hb=>(hf b hb).1⟩⟩
 done:=by
  intro X hP hw hK hc i aa s σ H E I hf st hg;subst hP hw hK;obtain⟨f0,f1,f2,f3,f4,f5⟩:=hf it (by simp);exact JD I.hd st (by have:n<=i:=hg;omega) fun h' eb=>⟨Y,I.turned (t':=s.toks) (fun b o hb e=>eb b o hb e) f0 f1 f3 f4 f5⟩
 self:=fun _ _ _ _ _ st h=>wpAny_pyIter_rangeiter st h
def iList (K:PySem.W.Frag) (tl:TE):TI:=fun σ H R=>tl σ H fun x H1=>∃ a,x=.ref a/\(∃ xs,SqL K H1 a xs)/\R (Itl K a) H1
def iTup (K:PySem.W.Frag) (tl:TE):TI:=fun σ H R=>tl σ H fun x H1=>∃ a,x=.ref a/\(∃ xs,SqT K H1 a xs)/\R (Itt K a) H1
theorem cw  (hl:PE X l tl):PI X tg l (iList X.K tl):=by
 intro aa s σ H R I h;refine thn (hl aa s σ H _ I h) fun v s1=>L2.ex5 fun x H1 I1 r1 q1=>?_
 obtain⟨a,e,⟨xs,hq⟩,q⟩:=q1;subst e;cases r1
 obtain⟨ac,rv,p,hz⟩:=I1.list hq;refine NB p.isList ?_;refine⟨s1.heap.objs.size,[s1.heap.objs.size],_,_,H1,Y,I1.kept (t':=s1.toks) fun b o e=>Ma _ e,HS a _,⟨_,Mi _ Y,Y,Y⟩,fun b hb=>?_,q⟩;have e:b=s1.heap.objs.size:=by simpa using hb
 subst e;exact I1.fpOk (Md _) (I1.hok.fresh (Md _))
theorem pi_tup  (hl:PE X l tl):PI X tg l (iTup X.K tl):=by
 intro aa s σ H R I h;refine thn (hl aa s σ H _ I h) fun v s1=>L2.ex5 fun x H1 I1 r1 q1=>?_
 obtain⟨a,e,⟨xs,hq⟩,q⟩:=q1;subst e;cases r1
 obtain⟨ac,rv,p,hz⟩:=I1.tuple hq;refine Pk (show s1.heap.IsTuple a ac.toArray from p) ?_;refine⟨s1.heap.objs.size,[s1.heap.objs.size],_,_,H1,Y,I1.kept (t':=s1.toks) fun b o e=>Ma _ e,Ka a _,⟨_,Mi _ Y,Y,Y⟩,fun b hb=>?_,q⟩;have e:b=s1.heap.objs.size:=by simpa using hb
 subst e;exact I1.fpOk (Md _) (I1.hok.fresh (Md _))
theorem Av {R:It->Hp->Prop}{hi:Int}{t u v:Tok}{tk:Nat} (I:Inv X aa σ H s) (h1:-(2 ^ 62)<=lo) (h2:lo<2 ^ 62) (h3:-(2 ^ 62)<=hi) (h4:hi<2 ^ 62)
  (q:R (Itr lo (hi - lo).toNat) H):wpAny (model X.prog X.w) X.A (pyIter (.ref s.heap.objs.size)) (PIE X aa σ tg R) E { s with heap:=s.heap.push { cls:=.type "range",data:=.fields #[.int lo t,.int hi u,.int 1 v] },toks:=tk }:=by
 refine wpAny_pyIter_range (IsRange.new ..) (small_one h1 h2 h3 h4) ?_;have I1:Inv X aa σ H { s with heap:=s.heap.push { cls:=.type "range",data:=.fields #[.int lo t,.int hi u,.int 1 v] },toks:=tk }:=I.kept fun b o e=>Ma _ e
 refine⟨(s.heap.push { cls:=.type "range",data:=.fields #[.int lo t,.int hi u,.int 1 v] }).objs.size,[(s.heap.push { cls:=.type "range",data:=.fields #[.int lo t,.int hi u,.int 1 v] }).objs.size],_,_,H,Y,
  I1.kept (t':=tk) fun b o e=>Ma _ e,Kq _ lo (hi - lo).toNat,?_,fun b hb=>?_,q⟩
 ·have e1:lo + ((0:Nat):Int) * 1=lo:=by simp
  have e2:(((hi - lo).toNat:Nat):Int) - ((0:Nat):Int)=Builtin.Range.rangeSize lo hi 1:=by rw[rangeSize_one];split <;> omega
  show IsRangeIter _ _ (lo + ((0:Nat):Int) * 1) ((((hi - lo).toNat:Nat):Int) - ((0:Nat):Int)) 1;rw[e1,e2];exact Mi _ rfl
 ·have e:b=(s.heap.push { cls:=.type "range",data:=.fields #[.int lo t,.int hi u,.int 1 v] }).objs.size:=by simpa using hb
  subst e;exact I1.fpOk (Md _) (I1.hok.fresh (Md _))
def iRng1 (ta:TA):TI:=fun σ H R=>ta σ H fun vs H1=>∃ j:Int,vs=[.int j]/\-(2 ^ 62)<=j/\j<2 ^ 62/\R (Itr 0 j.toNat) H1
def iRng2 (ta:TA):TI:=fun σ H R=>ta σ H fun vs H1=>∃ i j:Int,vs=[.int i,.int j]/\(-(2 ^ 62)<=i/\i<2 ^ 62/\-(2 ^ 62)<=j/\j<2 ^ 62)/\R (Itr i (j - i).toNat) H1
theorem kQ {a:Expr}{p:Pos} (hg:Gl X "range") (hm:X.mg "range"=none) (ha:PA X [a] ta) (hs:starEach [a] X.env=[(false,eval a X.env)]:=by rfl):PI X tg (.Call (.Name "range" p) [a] [] pos) (iRng1 ta):=by
 intro aa s σ H R I h;refine Call_ (jk I hg hm boot_range (PyProof.Rows.callWith_type1 (thn (ha pos aa s σ H _ I h) fun us s1=>L2.ex5 fun vs H1 I1 r1 q1=>?_) hs Y));obtain⟨j,e,q1,q2,q⟩:=q1;subst e;cases r1 with
 | cons r rr=>
  cases rr
  obtain⟨t,rfl⟩:=r;exact call_range_1 (Av I1 (by omega) (by omega) q1 q2 (by simpa using q))
theorem Al {a b:Expr}{p:Pos} (hg:Gl X "range") (hm:X.mg "range"=none) (ha:PA X [a,b] ta) (hs:starEach [a,b] X.env=[(false,eval a X.env),(false,eval b X.env)]:=by rfl) (fX:starEach [b] X.env=[(false,eval b X.env)]:=by rfl) :
  PI X tg (.Call (.Name "range" p) [a,b] [] pos) (iRng2 ta):=by
 intro aa s σ H R I h;refine Call_ (jk I hg hm boot_range (PyProof.Rows.callWith_type1 (thn (ha pos aa s σ H _ I h) fun us s1=>L2.ex5 fun vs H1 I1 r1 q1=>?_) (by rw[hs,fX]) (by rw[fX];rfl)));obtain⟨i,j,e,⟨q1,q2,q3,q4⟩,q⟩:=q1;subst e;cases r1 with
 | cons r rr=>
  cases rr with
  | cons r' rr=>
   cases rr
   obtain⟨t,rfl⟩:=r;obtain⟨t',rfl⟩:=r';exact call_range_2 (Av I1 q1 q2 q3 q4 q)
def tFor (wi:TI) (g:TG) (tb:TS):TS:=fun D σ H=>wi σ H fun J H1=>∃ W:Nat->Nat->St->Hp->Prop,(∃ m,W 0 m σ H1)/\∀ i m σ H,W i m σ H ->
 (J.stop i H/\D.nx σ H)\/(J.go i H/\∃ N:St->Hp->Prop,(∀ σ' H',N σ' H'->∃ m',m'<m/\W (i + 1) m' σ' H')/\∀ x H',J.yld i H x H'->g x σ H' fun σ2 H2=>tb { D with nx:=N,ct:=N,bk:=D.nx } σ2 H2)
def qL (fp:List Addr) (h:Heap):List (Addr×Obj):=fp.filterMap fun b=>(h.get? b).map fun o=>(b,o)
theorem sX  (hb:b∈fp) (e:h.get? b=some o):(b,o)∈qL fp h:=List.mem_filterMap.mpr ⟨b,hb,by rw[e];rfl⟩
theorem JF {p:Addr×Obj} (hp:p∈qL fp h):p.1∈fp/\h.get? p.1=some p.2:=by
 obtain⟨b,hb,e⟩:=List.mem_filterMap.mp hp;cases q:h.get? b with
 | none=>rw[q] at e;cases e
 | some o=>
  rw[q] at e;have e':(b,o)=p:=Option.some.inj e;subst e';exact⟨hb,q⟩
theorem Inv.pinned  (I:Inv X aa σ H s) (hf:∀ b∈fp,bv X aa H b) (ho:∀ b∈fp,∃ o,s.heap.get? b=some o/\∀ v,o.data≠.cell v):Inv X (aa++qL fp s.heap) σ H s:=
 I.pins_of fun p hp=>(List.mem_append.mp hp).elim (fun z=>I.pin p (Mr _ z)) fun z=>by
  obtain⟨hb,e⟩:=JF z;obtain⟨f0,f1,f2,_⟩:=hf p.1 hb;obtain⟨o,e',d⟩:=ho p.1 hb;rw[e] at e';cases e'
  exact⟨e,f0,f1,f2,d⟩
theorem Inv.unpinned {pl:List (Addr×Obj)} (I:Inv X (aa++pl) σ H s):Inv X aa σ H s:=I.pins_of fun p hp=>I.pin p (Mr _ (MC _ hp))
theorem cP {wi:TI}{g:TG} (hp:PassesOwn (model X.prog X.w) X.A X.env X.xe) (hc:X.calm=true) (hi:PI X tg iter wi) (hg:PG X tg g) (hb:PSs X body tb)
  (hs:∀ x,foldedSetIterable iter X.env x=pure x:=by intro _;rfl):PS X (.For tg iter body [] pos) (tFor wi g tb):=by
 intro aa s σ H D I h;refine wpAny_For (thn (hi aa s σ H _ I h) fun v s1 h1=>thn h1 fun rS s2 h2=>?_) hs;obtain⟨it,fp,tn,J,H2,e,I2,T,bR,f2,W,⟨m0,w0⟩,turn⟩:=h2;subst e;have fi:∀ {H':Hp},(∀ b∈fp,H' b=none)->∀ b∈fp,bv X aa H' b:=fun hn b hb=>⟨hn b hb,(f2 b hb).2⟩
 refine codeAny_forLoop_any (fun n s'=>∃ i σ' H',Inv X aa σ' H' s'/\tn i s'.heap/\(∀ b∈fp,H' b=none)/\W i n σ' H') ?_ m0 ⟨0,σ,H2,I2,bR,fun b hb=>(f2 b hb).1,w0⟩;rintro n s3 ⟨i,σ3,H3,I3,rH,pe,w3⟩
 rcases turn i n σ3 H3 w3 with⟨stop,qn⟩|⟨go,N,hN,step⟩
 ·refine Nx hp (thn (T.done X Y Y Y hc i aa s3 σ3 H3 X.xe I3 (fi pe) rH stop) fun r s4 ⟨hr,I4⟩=>?_)
  subst hr;exact Og ⟨σ3,H3,I4,qn⟩
 ·refine Nx hp (thn (T.item X Y Y Y hc i aa s3 σ3 H3 X.xe I3 (fi pe) rH go) fun r s4 ⟨u,hr,h4⟩=>?_)
  subst hr;refine Nx hp (thn h4 fun _ s5=>L2.ex5 fun x H5 I5 r5 aX=>?_);obtain⟨y5,l4,vz⟩:=aX;have uQ:=I5.pinned (fi vz) (T.obj _ _ l4);refine Nx hp (thn (hg _ s5 σ3 H5 x u _ uQ r5 (step x H5 y5)) fun _ s6=>L2.ex4 fun σ6 H6 I6 q6=>?_);refine Nx hp (thn (hb _ s6 σ6 H6 _ I6 q6) fun f s7 q7=>?_);have again:∀ {σ7:St}{H7:Hp},Inv X (aa++qL fp s5.heap) σ7 H7 s7->N σ7 H7->∃ m,m<n/\∃ i σ' H',Inv X aa σ' H' s7/\tn i s7.heap/\(∀ b∈fp,H' b=none)/\W i m σ' H':=fun {σ7 H7} I7 n7=>by
   obtain⟨m',hm,w7⟩:=hN σ7 H7 n7;refine⟨m',hm,i + 1,σ7,H7,I7.unpinned,T.keep _ _ _ l4 fun b hb o e=>(I7.pin (b,o) (Mr _ (Mr _ (sX hb e)))).1,fun b hb=>?_,w7⟩;obtain⟨o,e,d⟩:=T.obj _ _ l4 b hb;exact(I7.pin (b,o) (Mr _ (Mr _ (sX hb e)))).2.1
  cases f with
  | next=>obtain⟨σ7,H7,I7,n7⟩:=q7;exact again I7 n7
  | cont=>obtain⟨σ7,H7,I7,n7⟩:=q7;exact again I7 n7
  | brk=>obtain⟨σ7,H7,I7,q7⟩:=q7;exact⟨σ7,H7,I7.unpinned,q7⟩
  | ret v=>obtain⟨x7,σ7,H7,I7,r7,q7⟩:=q7;exact⟨x7,σ7,H7,I7.unpinned,r7,q7⟩
def WkW (J:It) (E:St->Hp->Prop) (B:(St->Hp->Prop)->V->St->Hp->Prop) (σ:St) (H:Hp):Prop:=∃ W:Nat->Nat->St->Hp->Prop,(∃ m,W 0 m σ H)/\∀ i m σ H,W i m σ H->(J.stop i H/\E σ H)\/(J.go i H/\∃ N:St->Hp->Prop,(∀ σ' H',N σ' H'->∃ m',m'<m/\W (i + 1) m' σ' H')/\∀ x H',J.yld i H x H'->B N x σ H')
theorem wk_ {J:It}{E:St->Hp->Prop}{B:(St->Hp->Prop)->V->St->Hp->Prop} (Pv:Nat->St->Hp->Prop) (h0:Pv 0 σ H) (hg:∀ i σ H,i<=n->Pv i σ H->(i<n->J.go i H)/\(n<=i->J.stop i H)) (hs:∀ i x σ H H',i<n->Pv i σ H->J.yld i H x H'->B (Pv (i + 1)) x σ H') (hd:∀ σ H,Pv n σ H->E σ H):WkW J E B σ H:=by
 refine⟨fun i m σ H=>m=n - i/\i<=n/\Pv i σ H,⟨n,by simp,MW _,h0⟩,?_⟩;rintro i m σ H ⟨rfl,hi,p⟩
 obtain⟨q1,q2⟩:=hg i σ H hi p;by_cases bp:i<n
 ·exact .inr ⟨q1 bp,Pv (i + 1),fun σ' H' p'=>⟨n - (i + 1),by omega,Y,bp,p'⟩,fun x H' y=>hs i x σ H H' bp p y⟩
 ·have e:i=n:=by omega
  subst e;exact .inl ⟨q2 (Md _),hd σ H p⟩
def ForW (J:It) (D:eF) (g:TG) (tb:TS) (σ:St) (H:Hp):Prop:=WkW J D.nx (fun N x σ H'=>g x σ H' fun σ2 H2=>tb { D with nx:=N,ct:=N,bk:=D.nx } σ2 H2) σ H
theorem gE {K:PySem.W.Frag}{g:TG} (Pv:Nat->St->Hp->Prop) (h0:Pv 0 σ H) (hl:∀ i σ H,i<=xs.length->Pv i σ H->SqL K H a xs)
  (hs:∀ i x σ H,xs[i]?=some x->Pv i σ H->g x σ H fun σ2 H2=>tb { D with nx:=Pv (i + 1),ct:=Pv (i + 1),bk:=D.nx } σ2 H2) (hd:∀ σ H,Pv xs.length σ H->D.nx σ H):ForW (Itl K a) D g tb σ H:=
 wk_ (n:=xs.length) Pv h0 (fun i σ H hi p=>⟨fun h=>⟨xs,xs[i],hl i σ H hi p,by simp[h]⟩,fun h=>⟨xs,hl i σ H hi p,h⟩⟩) (fun i x σ H H' hi p y=>by
 obtain⟨rfl,y⟩:=y;exact hs i x σ _ (y xs (hl i σ _ (Nk hi) p)) p) hd
theorem sG {g:TG} (Pv:Nat->St->Hp->Prop) (h0:Pv 0 σ H)
  (hs:∀ i σ H,i<n->Pv i σ H->g (.int (lo + i)) σ H fun σ2 H2=>tb { D with nx:=Pv (i + 1),ct:=Pv (i + 1),bk:=D.nx } σ2 H2) (hd:∀ σ H,Pv n σ H->D.nx σ H):ForW (Itr lo n) D g tb σ H:=
 wk_ (n:=n) Pv h0 (fun _ _ _ _ _=>⟨id,id⟩) (fun i x σ H H' hi p y=>by
 obtain⟨rfl,rfl⟩:=y;exact hs i σ _ hi p) hd
abbrev R2:=V->V->Hp->VK->Prop
def OpR (X:Cx) (f:Value->Value->Sem Value) (r:R2):Prop:=
 ∀ (aa:List (Addr×Obj)) (s:Shared) (σ:St) (H:Hp) (x y:V) (v u:Value) (Q:VK),Inv X aa σ H s->ay x v->ay y u->r x y H Q ->
  wpAny (model X.prog X.w) X.A (f v u) (EP X aa σ Q) X.xe s
def UnR (X:Cx) (f:Value->Sem Value) (r:V->Hp->VK->Prop):Prop:=
 ∀ (aa:List (Addr×Obj)) (s:Shared) (σ:St) (H:Hp) (x:V) (v:Value) (Q:VK),Inv X aa σ H s->ay x v->r x H Q ->
  wpAny (model X.prog X.w) X.A (f v) (EP X aa σ Q) X.xe s
def fP (X:Cx) (f:Value) (r:List V->Hp->VK->Prop):Prop:=
 ∀ (aa:List (Addr×Obj)) (s:Shared) (σ:St) (H:Hp) (xs:List V) (us:List Value) (Q:VK),Inv X aa σ H s->av xs us->r xs H Q ->
  wpAny (model X.prog X.w) X.A (call f us) (EP X aa σ Q) X.xe s
def TruR (X:Cx) (r:V->Hp->(Bool->Hp->Prop)->Prop):Prop:=
 ∀ (aa:List (Addr×Obj)) (s:Shared) (σ:St) (H:Hp) (x:V) (v:Value) (Q:Bool->Hp->Prop),Inv X aa σ H s->ay x v->r x H Q ->
  wpAny (model X.prog X.w) X.A (truthy v) (TP X aa σ Q) X.xe s
def tOp (r:R2) (ta tb:TE):TE:=fun σ H Q=>ta σ H fun x H1=>tb σ H1 fun y H2=>r x y H2 Q
def tUn (r:V->Hp->VK->Prop) (ta:TE):TE:=fun σ H Q=>ta σ H fun x H1=>r x H1 Q
def rI (C:Int->Int->Prop) (g:Int->Int->V):R2:=fun x y H Q=>∃ i j,x=.int i/\y=.int j/\C i j/\Q (g i j) H
def rI0 (g:Int->Int->V):R2:=fun x y H Q=>∃ i j,x=.int i/\y=.int j/\Q (g i j) H
def rU (g:Int->V):V->Hp->VK->Prop:=fun x H Q=>∃ i,x=.int i/\Q (g i) H
variable {C dx:Addr}{b expr:Bool}{f:Value->Value->Sem Value}{g:Int->Int->Int}{kw:List (Str×Value)}{m name:Str}{mA:Str->Option Value}{o:Option Value}{pl:Sem Bool}{us vs:List Value}{x y:V}
section
variable {a b:Expr}{ta tb tc:TE}
theorem binT (ha:PE X a ta) (hb:PE X b tb){R:V->V->Hp->Prop} (I:Inv X aa σ H s)
  (h:ta σ H fun x H1=>tb σ H1 fun y H2=>R x y H2)
  (hf:∀ v u s2 x y H2,Inv X aa σ H2 s2->ay x v->ay y u->R x y H2->wpAny (model X.prog X.w) X.A (f v u) Q X.xe s2) :
  wpAny (model X.prog X.w) X.A (eval a X.env) (fun v s₁=>wpAny (model X.prog X.w) X.A (eval b X.env) (fun u s₂=>wpAny (model X.prog X.w) X.A (f v u) Q X.xe s₂) X.xe s₁) X.xe s:=by
 refine thn (ha aa s σ H _ I h) fun v s1=>L2.ex5 fun x H1 I1 r1 q1=>?_
 refine thn (hb aa s1 σ H1 _ I1 q1) fun u s2=>L2.ex5 fun y H2 I2 r2 q2=>?_
 exact hf v u s2 x y H2 I2 r1 r2 q2
theorem aG {op:Operator}{r:R2} (ho:OpR X (binaryOp op) r) (ha:PE X a ta) (hb:PE X b tb):PE X (.BinOp a op b pos) (tOp r ta tb):=by
 intro aa s σ H Q I h;exact wpAny_BinOp (binT ha hb I h fun v u s2 x y H2 I2 rx ry q=>ho aa s2 σ H2 x y v u Q I2 rx ry q)
theorem pe_un {op:UnaryOp}{r:V->Hp->VK->Prop} (ho:UnR X (unaryOp op) r) (ha:PE X a ta):PE X (.UnaryOp op a pos) (tUn r ta):=by
 intro aa s σ H Q I h;exact UnaryOp_ (thn (ha aa s σ H _ I h) fun v s1=>L2.ex5 fun x H1 I1 r1 q1=>ho aa s1 σ H1 x v Q I1 r1 q1)
theorem opI {C:Int->Int->Prop}
  (rule:∀ (i j:Int) (t u:Tok) (s:Shared) (Q:Value->Shared->Prop) (E:Value->Shared->Prop),C i j->Q (.int (g i j) s.toks) { s with toks:=s.toks + 1 }->wpAny (model X.prog X.w) X.A (f (.int i t) (.int j u)) Q E s) :
  OpR X f (rI C fun i j=>.int (g i j)):=by
 intro aa s σ H x y v u Q I rx ry h;obtain⟨i,j,rfl,rfl,hc,q⟩:=h;obtain⟨t,rfl⟩:=rx;obtain⟨t',rfl⟩:=ry;exact rule i j t t' s _ _ hc ⟨.int (g i j),H,I.tok _,⟨_,Y⟩,q⟩
theorem opI0 
  (rule:∀ (i j:Int) (t u:Tok) (s:Shared) (Q:Value->Shared->Prop) (E:Value->Shared->Prop),Q (.int (g i j) s.toks) { s with toks:=s.toks + 1 }->wpAny (model X.prog X.w) X.A (f (.int i t) (.int j u)) Q E s) :
  OpR X f (rI0 fun i j=>.int (g i j)):=by
 intro aa s σ H x y v u Q I rx ry h;obtain⟨i,j,rfl,rfl,q⟩:=h;obtain⟨t,rfl⟩:=rx;obtain⟨t',rfl⟩:=ry;exact rule i j t t' s _ _ ⟨.int (g i j),H,I.tok _,⟨_,Y⟩,q⟩
theorem opB0 {g:Int->Int->Bool}
  (rule:∀ (i j:Int) (t u:Tok) (s:Shared) (Q:Value->Shared->Prop) (E:Value->Shared->Prop),Q (.bool (g i j)) s->wpAny (model X.prog X.w) X.A (f (.int i t) (.int j u)) Q E s) :
  OpR X f (rI0 fun i j=>.bl (g i j)):=by
 intro aa s σ H x y v u Q I rx ry h;obtain⟨i,j,rfl,rfl,q⟩:=h;obtain⟨t,rfl⟩:=rx;obtain⟨t',rfl⟩:=ry;exact rule i j t t' s _ _ ⟨.bl (g i j),H,I,Y,q⟩
def CDiv (i j:Int):Prop:=0<j/\j<1073741824
def CPow (i j:Int):Prop:=0<=j/\j<=1000000/\i.natAbs<2 ^ 64
def CMul (i j:Int):Prop:=(-(2 ^ 64)<i/\i<2 ^ 64)\/(-(2 ^ 64)<j/\j<2 ^ 64)
theorem CMul.ok {i j:Int} (h:CMul i j):IntMulOk i j:=by
 rcases h with⟨h1,h2⟩|⟨h1,h2⟩
 ·exact .of_left (intBits_le_64 h1 h2)
 ·exact .of_right (intBits_le_64 h1 h2)
theorem dZ:OpR X (binaryOp .Add) (rI0 fun i j=>.int (i + j)):=opI0 fun _ _ _ _ _ _ _ q=>add_int q
theorem mU:OpR X (binaryOp .Sub) (rI0 fun i j=>.int (i - j)):=opI0 fun _ _ _ _ _ _ _ q=>sub_int q
theorem tw:OpR X (binaryOp .Mult) (rI CMul fun i j=>.int (i * j)):=opI fun _ _ _ _ _ _ _ hc q=>mul_int q hc.ok
theorem lr:OpR X (binaryOp .FloorDiv) (rI CDiv fun i j=>.int (i / j)):=opI fun i j _ _ _ _ _ hc q=>by
 have h1:(0:Int)<j:=hc.1;have h2:j<1073741824:=hc.2;exact floordiv_int (by omega) (by rw[Int.fdiv_eq_ediv_of_nonneg i (by omega)];exact q) (.inl (PyProof.noPylong_small (by omega)))
theorem dz:OpR X (binaryOp .Mod) (rI (fun _ j=>0<j) fun i j=>.int (i % j)):=opI fun i j _ _ _ _ _ hc q=>by
 have h1:(0:Int)<j:=hc;exact mod_int' (by omega) (by rw[Int.fmod_eq_emod_of_nonneg i (by omega)];exact q)
theorem op_pow:OpR X (binaryOp .Pow) (rI CPow fun i j=>.int (i ^ j.toNat)):=opI fun _ _ _ _ _ _ _ hc q=>pow_int_small hc.1 hc.2.1 hc.2.2 q
theorem unI {f:Value->Sem Value}{g:Int->Int}
  (rule:∀ (i:Int) (t:Tok) (s:Shared) (Q:Value->Shared->Prop) (E:Value->Shared->Prop),Q (.int (g i) s.toks) { s with toks:=s.toks + 1 }->wpAny (model X.prog X.w) X.A (f (.int i t)) Q E s) :
  UnR X f (rU fun i=>.int (g i)):=by
 intro aa s σ H x v Q I rx h;obtain⟨i,rfl,q⟩:=h;obtain⟨t,rfl⟩:=rx;exact rule i t s _ _ ⟨.int (g i),H,I.tok _,⟨_,Y⟩,q⟩
theorem Cj:UnR X (unaryOp .USub) (rU fun i=>.int (-i)):=unI fun _ _ _ _ _ q=>neg_int q
end
def scal:V->V->Bool
 | .non,.non=>true | .non,.int _=>true | .int _,.non=>true | .non,.bl _=>true | .bl _,.non=>true | .non,.str _=>true | .str _,.non=>true
 | .int _,.int _=>true | .bl _,.bl _=>true | .str _,.str _=>true | .byt _,.byt _=>true
 | .int _,.str _=>true | .str _,.int _=>true | .bl _,.str _=>true | .str _,.bl _=>true
 | _,_=>false
def rEq:R2:=fun x y H Q=>scal x y=true/\Q (.bl (decide (x=y))) H
def rNe:R2:=fun x y H Q=>scal x y=true/\Q (.bl (!decide (x=y))) H
theorem CF {i j:Int}:decide (V.int i=V.int j)=(i == j):=by
 rw[NH];simp
theorem Bv {i j:Bool}:decide (V.bl i=V.bl j)=(i == j):=by
 rw[NH];simp
theorem AX {i j:Str}:decide (V.str i=V.str j)=(i == j):=by
 rw[NH];simp
theorem Bn {i j:Array UInt8}:decide (V.byt i=V.byt j)=(i.toList == j.toList):=by
 rw[NH];cases i
 cases j
 simp
section
variable {a b:Expr}{ta tb tc:TE}
theorem bQ {Q:VK}{k k':Bool} (I:Inv X aa σ H s) (q:Q (.bl k) H) (e:k=k'):EP X aa σ Q (.bool k') s:=by
 subst e;exact⟨.bl k,H,I,Y,q⟩
theorem rz:OpR X (compareOp .Eq) rEq:=by
 intro aa s σ H x y v u Q I rx ry h;obtain⟨hs,q⟩:=h;cases x with
 | non=>
  cases rx
  cases y with
  | non=>cases ry;exact PySem.EqNone.eq_none_none (bQ I q (by simp))
  | bl j=>cases ry;exact PySem.EqNone.eq_none_bool (bQ I q (by simp))
  | int j=>obtain⟨t',rfl⟩:=ry;exact PySem.EqNone.eq_none_int (bQ I q (by simp))
  | str j=>obtain⟨t',rfl⟩:=ry;exact PySem.EqNone.eq_none_str (bQ I q (by simp))
  | _=>exact absurd (show false=true from hs) Mq
 | bl i=>
  cases rx
  cases y with
  | non=>cases ry;exact PySem.EqNone.eq_bool_none (bQ I q (by simp))
  | bl j=>cases ry;exact eq_bool (bQ I q Bv)
  | str j=>obtain⟨t',rfl⟩:=ry;exact PySem.EqMixed.eq_bool_str (bQ I q (by simp))
  | _=>exact absurd (show false=true from hs) Mq
 | int i=>
  obtain⟨t,rfl⟩:=rx;cases y with
  | non=>cases ry;exact PySem.EqNone.eq_int_none (bQ I q (by simp))
  | int j=>obtain⟨t',rfl⟩:=ry;exact eq_int (bQ I q CF)
  | str j=>obtain⟨t',rfl⟩:=ry;exact PySem.EqMixed.eq_int_str (bQ I q (by simp))
  | _=>exact absurd (show false=true from hs) Mq
 | str i=>
  obtain⟨t,rfl⟩:=rx;cases y with
  | non=>cases ry;exact PySem.EqNone.eq_str_none (bQ I q (by simp))
  | bl j=>cases ry;exact PySem.EqMixed.eq_str_bool (bQ I q (by simp))
  | int j=>obtain⟨t',rfl⟩:=ry;exact PySem.EqMixed.eq_str_int (bQ I q (by simp))
  | str j=>obtain⟨t',rfl⟩:=ry;exact eq_str (bQ I q AX)
  | _=>exact absurd (show false=true from hs) Mq
 | byt i=>
  obtain⟨t,rfl⟩:=rx;cases y with
  | byt j=>obtain⟨t',rfl⟩:=ry;exact PySem.W.eq_bytes (bQ I q Bn)
  | _=>exact absurd (show false=true from hs) Mq
 | _=>cases y <;> exact absurd (show false=true from hs) Mq
theorem iE:OpR X (compareOp .NotEq) rNe:=by
 intro aa s σ H x y v u Q I rx ry h;obtain⟨hs,q⟩:=h;cases x with
 | non=>
  cases rx
  cases y with
  | non=>cases ry;exact PySem.EqNone.ne_none_none (bQ I q (by simp))
  | bl j=>cases ry;exact PySem.EqNone.ne_none_bool (bQ I q (by simp))
  | int j=>obtain⟨t',rfl⟩:=ry;exact PySem.EqNone.ne_none_int (bQ I q (by simp))
  | str j=>obtain⟨t',rfl⟩:=ry;exact PySem.EqNone.ne_none_str (bQ I q (by simp))
  | _=>exact absurd (show false=true from hs) Mq
 | bl i=>
  cases rx
  cases y with
  | non=>cases ry;exact PySem.EqNone.ne_bool_none (bQ I q (by simp))
  | bl j=>cases ry;exact ne_bool (bQ I q (congrArg not Bv))
  | str j=>obtain⟨t',rfl⟩:=ry;exact PySem.EqMixed.ne_bool_str (bQ I q (by simp))
  | _=>exact absurd (show false=true from hs) Mq
 | int i=>
  obtain⟨t,rfl⟩:=rx;cases y with
  | non=>cases ry;exact PySem.EqNone.ne_int_none (bQ I q (by simp))
  | int j=>obtain⟨t',rfl⟩:=ry;exact ne_int (bQ I q (congrArg not CF))
  | str j=>obtain⟨t',rfl⟩:=ry;exact PySem.EqMixed.ne_int_str (bQ I q (by simp))
  | _=>exact absurd (show false=true from hs) Mq
 | str i=>
  obtain⟨t,rfl⟩:=rx;cases y with
  | non=>cases ry;exact PySem.EqNone.ne_str_none (bQ I q (by simp))
  | bl j=>cases ry;exact PySem.EqMixed.ne_str_bool (bQ I q (by simp))
  | int j=>obtain⟨t',rfl⟩:=ry;exact PySem.EqMixed.ne_str_int (bQ I q (by simp))
  | str j=>obtain⟨t',rfl⟩:=ry;exact ne_str (bQ I q (congrArg not AX))
  | _=>exact absurd (show false=true from hs) Mq
 | byt i=>
  obtain⟨t,rfl⟩:=rx;cases y with
  | byt j=>obtain⟨t',rfl⟩:=ry;exact PySem.W.ne_bytes (bQ I q (congrArg not Bn))
  | _=>exact absurd (show false=true from hs) Mq
 | _=>cases y <;> exact absurd (show false=true from hs) Mq
theorem qU:OpR X (compareOp .Lt) (rI0 fun i j=>.bl (decide (i<j))):=opB0 fun _ _ _ _ _ _ _ q=>lt_int q
theorem op_le:OpR X (compareOp .LtE) (rI0 fun i j=>.bl (decide (i<=j))):=opB0 fun _ _ _ _ _ _ _ q=>le_int q
theorem oz:OpR X (compareOp .Gt) (rI0 fun i j=>.bl (decide (j<i))):=opB0 fun _ _ _ _ _ _ _ q=>gt_int q
theorem wv:OpR X (compareOp .GtE) (rI0 fun i j=>.bl (decide (j<=i))):=opB0 fun _ _ _ _ _ _ _ q=>ge_int q
theorem Bu:OpR X (compareOp .In) (fun x y H Q=>∃ i j,x=.str i/\y=.str j/\Q (.bl (!(Builtin.Str.occurrences j i 0 j.length 1).isEmpty)) H):=by
 intro aa s σ H x y v u Q I rx ry h;obtain⟨i,j,rfl,rfl,q⟩:=h;obtain⟨t,rfl⟩:=rx;obtain⟨t',rfl⟩:=ry;exact in_str (bQ I q Y)
theorem br (b:Expr) (h:op≠.In:=by decide) (h2:op≠.NotIn:=by decide):behindInMarks op b=false:=by
 have e1:(op == CmpOp.In)=false:=by cases op <;> first|rfl|exact absurd Y h
 have e2:(op == CmpOp.NotIn)=false:=by cases op <;> first|rfl|exact absurd Y h2
 cases b <;> simp[behindInMarks,e1,e2]
theorem mG {r:R2} (ho:OpR X (compareOp op) r) (ha:PE X a ta) (hb:PE X b tb) (hm:behindInMarks op b=false):PE X (.Compare a [op] [b] pos) (tOp r ta tb):=by
 intro aa s σ H Q I h;exact wpAny_Compare1 (binT ha hb I h fun v u s2 x y H2 I2 rx ry q=>ho aa s2 σ H2 x y v u Q I2 rx ry q) hm
def tTest (t:TE):TT:=fun σ H Q=>t σ H fun x H'=>∃ k,x=.bl k/\Q k H'
theorem bw {r:R2} (ho:OpR X (compareOp op) r) (ha:PE X a ta) (hb:PE X b tb) (hm:behindInMarks op b=false):PT X (.Compare a [op] [b] pos) (tTest (tOp r ta tb)):=by
 intro aa s σ H Q I h;refine O5 (thn (ha aa s σ H _ I h) fun v s1=>L2.ex5 fun x H1 I1 r1 q1=>thn (hb aa s1 σ H1 _ I1 q1) fun u s2=>L2.ex5 fun y H2 I2 r2 q2=>
  thn (ho aa s2 σ H2 x y v u _ I2 r1 r2 q2) fun c s3 ⟨z,H3,I3,r3,k,e,q3⟩=>?_) hm
 subst e;cases r3
 exact Nn ⟨H3,I3,q3⟩
def TruV (K:PySem.W.Frag) (x:V) (H:Hp) (k:Bool):Prop:=
 match x with
 | .non=>k=false
 | .bl b=>k=b
 | .int i=>k=(i != 0)
 | .str y=>y.length<=sizeLine/\k=((y.length:Int) != 0)
 | .byt y=>y.size<=sizeLine/\k=((y.size:Int) != 0)
 | .ref p=>(∃ xs,SqL K H p xs/\k=!xs.isEmpty)\/(∃ xs,SqT K H p xs/\k=!xs.isEmpty)\/∃ kvs,H p=some (.dK kvs)/\k=!kvs.isEmpty
 | _=>False
theorem IP {κ:Type}{kvs:List (κ×V)}{vs:List (κ×Value)} (r:KV kvs vs):(!vs.isEmpty)=!kvs.isEmpty:=by
 cases r <;> rfl
theorem zX {ac:List Value} (r:av xs ac):(!ac.toArray.isEmpty)=!xs.isEmpty:=by
 cases r <;> simp
theorem on:(sizeLine:Nat)<2 ^ 63:=by rw[Mh];decide
theorem tru_ok:TruR X (fun x H Q=>∃ k,TruV X.K x H k/\Q k H):=by
 intro aa s σ H x v Q I rx h;obtain⟨k,e,q⟩:=h;have hl:=on;have hs:sizeLine=16777216:=Mh;cases x with
 | non=>
  cases rx
  have e':k=false:=e;subst e';exact truthy_none ⟨H,I,q⟩
 | bl b=>
  cases rx
  have e':k=b:=e;subst e';exact Nn ⟨H,I,q⟩
 | int i=>
  obtain⟨t,rfl⟩:=rx;have e':k=(i != 0):=e;subst e';exact PySem.P.truthy_int ⟨H,I,q⟩
 | str y=>
  obtain⟨t,rfl⟩:=rx;obtain⟨hy,e'⟩:y.length<=sizeLine/\k=((y.length:Int) != 0):=e;subst e';exact PySem.P.truthy_str (by omega) ⟨H,I.tok _,q⟩
 | byt y=>
  obtain⟨t,rfl⟩:=rx;obtain⟨hy,e'⟩:y.size<=sizeLine/\k=((y.size:Int) != 0):=e;subst e';exact PySem.W.truthy_bytes (by omega) ⟨H,I.tok _,q⟩
 | ref p=>
  cases rx
  have e':(∃ xs,SqL X.K H p xs/\k=!xs.isEmpty)\/(∃ xs,SqT X.K H p xs/\k=!xs.isEmpty)\/∃ kvs,H p=some (.dK kvs)/\k=!kvs.isEmpty:=e;rcases e' with⟨xs,hx,e'⟩|⟨xs,hx,e'⟩|⟨kvs,hx,e'⟩
  ·subst e'
   obtain⟨ac,r,pl,hz⟩:=I.list hx;have az:=r.length;exact wpAny_truthy_list pl.isList (by simp only[Mp];omega) ⟨H,I.tok _,by rw[zX r];exact q⟩
  ·subst e'
   obtain⟨ac,r,pl,hz⟩:=I.tuple hx;have az:=r.length;exact truthy_tuple pl (by simp only[Mp];omega) ⟨H,I.tok _,by rw[zX r];exact q⟩
  ·subst e'
   obtain⟨hz,hS,vs,r,m⟩:kvs.length<=sizeLine/\(p == sysModules)=false/\∃ vs,KV kvs vs/\s.heap.DictOf (cf X.prog X.w) p vs:=I.hok p _ hx;have az:kvs.length=vs.length:=Paired.length r;exact wpAny_truthy_dict hS m (by omega) ⟨H,I.tok _,by rw[IP r];exact q⟩
 | _=>exact(show False from e).elim
theorem JC (ha:PE X a ta) (he:∀ cD,isTrue a X.env cD=(do let v <- cD;standAt a.pos;holding [v] (truthy v))) :
  PT X a (fun σ H Q=>ta σ H fun x H'=>∃ k,TruV X.K x H' k/\Q k H'):=by
 intro aa s σ H Q I h;exact isTrue_plain (thn (ha aa s σ H _ I h) fun v s1=>L2.ex5 fun x H1 I1 r1 q1=>tru_ok aa s1 σ H1 x v Q I1 r1 q1) (he _)
theorem oj:OpR X (binaryOp .Add) (fun x y H Q=>∃ i j,x=.str i/\y=.str j/\i.length + j.length<=sizeLine/\Q (.str (i++j)) H):=by
 intro aa s σ H x y v u Q I rx ry h;obtain⟨i,j,rfl,rfl,hz,q⟩:=h;obtain⟨t,rfl⟩:=rx;obtain⟨t',rfl⟩:=ry;exact add_str (fun t' tk=>⟨.str (i++j),H,I.tok _,⟨_,Y⟩,q⟩) hz
theorem eV  (r:av [x] us):∃ u,us=[u]/\ay x u:=by
 cases r with
 | cons r1 r2=>cases r2;exact⟨_,Y,r1⟩
theorem tQ  (r:av [x,y] us):∃ u w',us=[u,w']/\ay x u/\ay y w':=by
 cases r with
 | cons r1 r2=>
  cases r2 with
  | cons r3 r4=>cases r4;exact⟨_,_,Y,r1,r3⟩
theorem Ay:fP X (.type "int") (fun xs H Q=>(∃ i,xs=[.int i]/\Q (.int i) H)\/∃ k,xs=[.bl k]/\Q (.int (if k then 1 else 0)) H):=by
 intro aa s σ H xs us Q I r h;rcases h with⟨i,rfl,q⟩|⟨k,rfl,q⟩
 ·obtain⟨u,rfl,t,rfl⟩:=eV r
  exact call_int_int ⟨.int i,H,I,⟨_,Y⟩,q⟩
 ·obtain⟨u,rfl,r1⟩:=eV r
  cases r1
  exact call_int_bool ⟨.int (if k then 1 else 0),H,I.tok _,⟨_,Y⟩,q⟩
theorem oK:fP X (.type "str") (fun xs H Q=>∃ i,xs=[.int i]/\i.natAbs.log2<1920/\Q (.str (toString i)) H):=by
 intro aa s σ H xs us Q I r h;obtain⟨i,rfl,hz,q⟩:=h;obtain⟨u,rfl,t,rfl⟩:=eV r;exact PySem.P.str_of_int hz ⟨.str _,H,I.tok _,⟨_,Y⟩,q⟩
end
structure mE (h:Heap) (x dx C:Addr) (mA:Str->Option Value):Prop where
 obj:h.get? x=some (PySem.W.instObj C dx)
 ns:h.Ns1 dx mA
 ne:dx≠x
theorem IY  (n:h.Ns1 dx mA):∃ od,h.get? dx=some od/\∀ name,PySem.W.lookIn name od=some (mA name):=by
 obtain⟨o,es,ep,ho,hd,hk,_,hm⟩:=n;refine⟨o,ho,fun name=>?_⟩;have e:=hm name;unfold nsFind findBy at e;rw[<- Array.find?_toList] at e;unfold PySem.W.lookIn;rw[hd];dsimp only;split
 ·rename_i y q
  rw[q] at e;exact congrArg some e
 ·rename_i q
  rw[q] at e;have a:es.toList.any (·.refKey)=false:=by
   rw[List.any_eq_false];intro y hy;obtain⟨z,t,dI⟩:=hk y (Array.mem_toList_iff.mp hy);simp[DictEntry.refKey,dI]
  have a':¬ es.toList.any (·.refKey)=true:=by rw[a];exact Mq
  rw[if_neg a'];exact congrArg some e
theorem mE.look {x:Addr} (I:mE h x dx C mA):∃ od,PySem.W.InstAt h x (PySem.W.instObj C dx) C (some od)/\∀ name,PySem.W.lookIn name od=some (mA name):=
 let ⟨od,ho,hl⟩:=IY I.ns
 ⟨od,⟨I.obj,rfl,rfl,ho⟩,hl⟩
section
variable {K:PySem.W.Frag}{x f:Addr}{v:Value}
theorem HX  (X:K.In s.heap) (I:mE s.heap x dx C mA) (hg:PySem.W.plainGet K C name=true) (hh:PySem.W.hasDictIn K C=true)
  (ha:PySem.W.findIn K (.ref C) name=some none) (hv:mA name=some v) (eC:PySem.W.handedIn v=true) (h:Q v { s with toks:=s.toks + 1 }) :
  wpAny (model prog w) A (getAttr (.ref x) name expr) Q E s:=by
 obtain⟨od,J,hl⟩:=I.look;exact PySem.W.get_value X J (PySem.W.plainGet_of hg).1 (PySem.W.findObj_own hh ha Y (by rw[hl,hv])) eC h
theorem Gk {Q:Value×List Value->Shared->Prop} (X:K.In s.heap) (I:mE s.heap x dx C mA) (hg:PySem.W.plainGet K C name=true)
  (hf:PySem.W.findIn K (.ref C) name=some (some (.ref f))) (ht:PySem.W.isFn K (.ref f)=true) (hv:mA name=none) (h:Q (.ref f,[.ref x]) s) :
  wpAny (model prog w) A (getMethod (.ref x) name pl) Q E s:=by
 obtain⟨od,J,hl⟩:=I.look;exact PySem.W.method_fn X J (PySem.W.plainGet_of hg).1 (PySem.W.plainGet_of hg).2 hf (beq_iff_eq.mp ht) (by show(PySem.W.lookIn name od).map (·.isSome)=some false;rw[hl,hv];rfl) h
theorem IF {ns:List Str}{Q:Unit->Shared->Prop} (X:K.In s.heap) (I:mE s.heap x dx C mA)
  (hs:PySem.W.findIn K (.ref C) "__setattr__"=some (some (.builtin "object.__setattr__"))) (hp:PySem.W.plainOver K C=true) (ht:PySem.W.takerIn K C name=some none) (hh:PySem.W.hasDictIn K C=true)
  (hw:PySem.Within mA ns) (hsz:ns.length<=sizeLine)
  (h:∀ h',mE h' x dx C (fun y=>if y=name then some v else mA y)->Heap.SameBut dx s.heap h'->Q () { s with heap:=h',toks:=s.toks + 2 }) :
  wpAny (model prog w) A (setAttr (.ref x) name v) Q E s:=by
 obtain⟨od,J,hl⟩:=I.look;refine PySem.W.set_plain X J hs (PySem.W.osa_open (s:={ s with toks:=s.toks + 1 }) (r:=none) X J hp ht fun b=>?_);obtain⟨cd,hc,cv⟩:=PySem.W.any_some hh;have hx:s.heap.get? x=some ⟨.ref C,some dx,.plain,#[]⟩:=I.obj;refine l7 (Mb (l7 (l7 (O7 hx (l7 (PySem.W.Looks.here (s:={ s with toks:=s.toks + 1 }) (PySem.W.looks_clsIn X hc) ?_))))));rw[cv];refine Mb (a:=some dx) (l7 (Mb (l7 ?_)));refine wpAny_nsSet1 (s:={ s with toks:=s.toks + 1 }) I.ns fun h' iz fX=>?_
 obtain⟨oD,DH,E2,vB,vQ,uL⟩:=iz.count (PySem.Within.cons name v hw);refine l7 (wpAny_lookBehind vB (by rw[vQ];exact pastItsLine_dict (MN uL (by rw[Mt];omega))) ?_);exact Mb (h _ ⟨(fX.2 _ (Ne.symm I.ne)).trans I.obj,iz,I.ne⟩ fX)
theorem J7  (X:K.In s.heap) (hm:PySem.W.makesIn K C=true)
  (hi:PySem.W.findIn K (.ref C) "__init__"=some (some (.ref f))) (hf:PySem.W.typeIn K (.ref f)=some (.type "function"))
  (h:codeAny (model prog w) (A.under (.builtin "type.__call__" ⟨.ref C::vs,kw⟩)) (.call (.ref f) ⟨.ref (s.heap.objs.size + 1)::vs,kw⟩) (PySem.W.InitBack (s.heap.objs.size + 1) R)
   { s with heap:=(s.heap.push PySem.W.emptyDict).push (PySem.W.instObj C s.heap.objs.size) }) :
  codeAny (model prog w) A (.call (.ref C) ⟨vs,kw⟩) R s:=by
 obtain⟨hh,g,d,t,os⟩:=s;exact PySem.W.make_core (PySem.W.makes_of X hm) (PySem.W.looks_findIn X hi) (fun self=>PySem.W.bind_fn X self hf) (.inl Y) h
end
def cm (f:Str) (v:V):List (Str×V)->List (Str×V)
 | []=>[(f,v)]
 | (g,x)::r=>if g=f then(g,v)::r else(g,x)::cm f v r
theorem Bq (f g:Str) (v:V):∀ fs:List (Str×V),(cm f v fs).lookup g=if g=f then some v else fs.lookup g
 | []=>by
  show List.lookup g [(f,v)]=_;by_cases h:g=f
  ·have hb:(g == f)=true:=beq_iff_eq.mpr h
   simp only[List.lookup,hb,if_pos h]
  ·have hb:(g == f)=false:=beq_eq_false_iff_ne.mpr h
   simp only[List.lookup,hb,if_neg h]
 | (k,x)::r=>by
  have ih:=Bq f g v r;rw[show cm f v ((k,x)::r)=(if k=f then(k,v)::r else(k,x)::cm f v r) from rfl];by_cases hk:k=f
  ·rw[if_pos hk]
   by_cases h:g=k
   ·have hb:(g == k)=true:=beq_iff_eq.mpr h
    simp only[List.lookup,hb,if_pos (h.trans hk)]
   ·have hb:(g == k)=false:=beq_eq_false_iff_ne.mpr h
    simp only[List.lookup,hb,if_neg (fun e:g=f=>h (e.trans hk.symm))]
  ·rw[if_neg hk]
   by_cases h:g=k
   ·have hb:(g == k)=true:=beq_iff_eq.mpr h
    simp only[List.lookup,hb,if_neg (fun e:g=f=>hk (h.symm.trans e))]
   ·have hb:(g == k)=false:=beq_eq_false_iff_ne.mpr h
    simp only[List.lookup,hb]
    exact ih
theorem wI (f:Str) (v:V):∀ fs:List (Str×V),f∈(cm f v fs).map (·.1)/\∀ g,g∈fs.map (·.1)->g∈(cm f v fs).map (·.1)
 | []=>⟨by simp[cm],fun g h=>by simp at h⟩
 | (k,x)::r=>by
  obtain⟨i1,i2⟩:=wI f v r;rw[show cm f v ((k,x)::r)=(if k=f then(k,v)::r else(k,x)::cm f v r) from rfl];by_cases hk:k=f
  ·rw[if_pos hk]
   subst hk;exact⟨by simp,fun g h=>by simpa using h⟩
  ·rw[if_neg hk]
   refine⟨?_,fun g h=>?_⟩
   ·rw[MG]
    exact Mo _ i1
   ·rw[MG] at h ⊢
    rcases M5.mp h with e|e
    ·exact M5.mpr (.inl e)
    ·exact Mo _ (i2 g e)
theorem Bc (f:Str) (v:V):∀ fs:List (Str×V),(cm f v fs).length<=fs.length + 1
 | []=>by simp[cm]
 | (k,x)::r=>by
  have ih:=Bc f v r;rw[show cm f v ((k,x)::r)=(if k=f then(k,v)::r else(k,x)::cm f v r) from rfl];by_cases hk:k=f
  ·rw[if_pos hk,Mt,Mt];omega
  ·rw[if_neg hk,Mt,Mt];omega
theorem du.some_of  (r:du (some v) o):∃ u,o=some u/\ay v u:=by
 cases o with
 | none=>exact(show False from r).elim
 | some u=>exact⟨u,Y,r⟩
theorem du.none_of  (r:du none o):o=none:=by
 cases o with
 | none=>rfl
 | some u=>exact(show False from r).elim
theorem KS  (r:ay v u):PySem.W.handedIn u=true:=by
 cases v with
 | non=>cases (show u=Value.none from r);rfl
 | bl b=>cases (show u=Value.bool b from r);rfl
 | int i=>obtain⟨t,e⟩:=(show ∃ t,u=Value.int i t from r);cases e;rfl
 | str x=>obtain⟨t,e⟩:=(show ∃ t,u=Value.str x t from r);cases e;rfl
 | byt b=>obtain⟨t,e⟩:=(show ∃ t,u=Value.bytes b t from r);cases e;rfl
 | flt b=>obtain⟨t,e⟩:=(show ∃ t,u=Value.float b t from r);cases e;rfl
 | ref a=>cases (show u=Value.ref a from r);rfl
 | ty n=>cases (show u=Value.type n from r);rfl
section
variable {fs EA:List (Str×V)}
theorem sC (hok:HOk P w H h) (e:H a=some (.ins C dx fs)):∃ mA,mE h a dx C mA/\(∀ f,du (fs.lookup f) (mA f))/\PySem.Within mA (fs.map (·.1))/\fs.length<=1000/\H dx=some (.own a):=by
 obtain⟨d,z,ne,ob,mA,n,r,q⟩:=(show bZ P w H h a (.ins C dx fs) from hok a _ e);exact⟨mA,⟨ob,n,ne⟩,r,q,z,d⟩
end
structure Cls (K:PySem.W.Frag) (C:Addr):Prop where
 pg:PySem.W.plainGet K C Str.empty=true
 hd:PySem.W.hasDictIn K C=true
 po:PySem.W.plainOver K C=true
 sa:PySem.W.findIn K (.ref C) "__setattr__"=some (some (.builtin "object.__setattr__"))
theorem Cls.get {K:PySem.W.Frag}{C:Addr} (c:Cls K C) (f:Str):PySem.W.plainGet K C f=true:=c.pg
def zbH (K:PySem.W.Frag) (C:Addr) (f:Str):Prop:=PySem.W.findIn K (.ref C) f=some none
theorem zbH.taker {K:PySem.W.Frag}{f:Str} (n:zbH K C f):PySem.W.takerIn K C f=some none:=by
 unfold PySem.W.takerIn;rw[show PySem.W.findIn K (.ref C) f=some none from n];rfl
structure Con (K:PySem.W.Frag) (C:Addr) (f:Str) (v:V) (u:Value):Prop where
 at_:PySem.W.findIn K (.ref C) f=some (some u)
 rel:ay v u
 get:PySem.W.specialIn K u "__get__"=some none
 cp:PySem.W.copiedNames.contains f=false
structure Meth (K:PySem.W.Frag) (C:Addr) (m:Str) (f:Addr):Prop where
 at_:PySem.W.findIn K (.ref C) m=some (some (.ref f))
 fn:PySem.W.isFn K (.ref f)=true
 kp:PySem.W.keepIn K (.ref f)=true
section
variable {fs:List (Str×V)}{f:Str}
theorem Jn  (I:Inv X aa σ H s) (e:H a=some (.ins C dx fs)) (c:Cls X.K C) (n:zbH X.K C f) (l:fs.lookup f=some v)
  (h:∀ u s',Inv X aa σ H s'->ay v u->Q u s'):wpAny (model X.prog X.w) A (getAttr (.ref a) f b) Q E s:=by
 obtain⟨mA,O,r,_,_,_⟩:=sC I.hok e;obtain⟨u,hu,ru⟩:=du.some_of (v:=v) (o:=mA f) (by rw[<- l];exact r f);exact HX I.kIn O (c.get f) c.hd n hu (KS ru) (h u _ (I.tok _) ru)
theorem wN {g:Addr}{Q:Value×List Value->Shared->Prop} (I:Inv X aa σ H s) (e:H a=some (.ins C dx fs)) (c:Cls X.K C) (k:Meth X.K C m g) (l:fs.lookup m=none)
  (h:Q (.ref g,[.ref a]) s):wpAny (model X.prog X.w) A (getMethod (.ref a) m pl) Q E s:=by
 obtain⟨mA,O,r,_,_,_⟩:=sC I.hok e;have hn:mA m=none:=du.none_of (by rw[<- l];exact r m);exact Gk I.kIn O (c.get m) k.at_ k.fn hn h
theorem Gs {Q:Unit->Shared->Prop} (I:Inv X aa σ H s) (e:H a=some (.ins C dx fs)) (c:Cls X.K C) (n:zbH X.K C f) (hl:fs.length<1000) (ry:ay y u)
  (h:∀ s',Inv X aa σ (upd H a (.ins C dx (cm f y fs))) s'->Q () s'):wpAny (model X.prog X.w) A (setAttr (.ref a) f u) Q E s:=by
 obtain⟨mA,O,r,wi,_,ho⟩:=sC I.hok e;have hz:(fs.map (·.1)).length<=sizeLine:=by rw[L9,Mh];omega
 refine IF I.kIn O c.sa c.po n.taker c.hd wi hz fun h' O' sb=>h _ ?_
 have hd:∃ o,h'.get? dx=some o:=let ⟨o,_,_,e',_⟩:=O'.ns;⟨o,e'⟩
 refine I.write (x:=a) (e:=dx) (by rw[e];exact True.intro) (.inr ho) (fun b q hb z=>(sb.2 b hb).trans z) hd ?_;refine⟨by rw[ak O.ne];exact ho,?_,O.ne,O'.obj,_,O'.ns,fun g=>?_,fun g hg=>?_⟩
 ·have:=Bc f y fs;omega
 ·show du ((cm f y fs).lookup g) (if g=f then some u else mA g)
  rw[Bq];by_cases q:g=f
  ·rw[if_pos q,if_pos q];exact ry
  ·rw[if_neg q,if_neg q];exact r g
 ·by_cases q:g=f
  ·rw[q];exact(wI f y fs).1
  ·refine(wI f y fs).2 g (wi g fun z=>hg ?_)
   show(if g=f then some u else mA g)=none;rw[if_neg q];exact z
theorem Inv.made (I:Inv X aa σ H s):Inv X aa σ (upd (upd H s.heap.objs.size (.own (s.heap.objs.size + 1))) (s.heap.objs.size + 1) (.ins C s.heap.objs.size []))
  { s with heap:=(s.heap.push PySem.W.emptyDict).push (PySem.W.instObj C s.heap.objs.size) }:=by
 have e1:(s.heap.push PySem.W.emptyDict).get? s.heap.objs.size=some PySem.W.emptyDict:=Mi s.heap rfl;have e2:((s.heap.push PySem.W.emptyDict).push (PySem.W.instObj C s.heap.objs.size)).get? (s.heap.objs.size + 1)=some (PySem.W.instObj C s.heap.objs.size):=by
  have:=Mi (s.heap.push PySem.W.emptyDict) (o:=PySem.W.instObj C s.heap.objs.size) rfl
  rwa [MI] at this
 have e3:(s.heap.push PySem.W.emptyDict).Ns s.heap.objs.size (fun _=>none):=⟨PySem.W.emptyDict,#[],_,e1,Y,(fun e he=>absurd he (by simp)),fun _=>Y⟩;have I1:=I.laid (a:=s.heap.objs.size) (o:=.own (s.heap.objs.size + 1)) (h':=s.heap.push PySem.W.emptyDict) (t':=s.toks) (fun b u q=>Ma _ q) (Md _) ⟨_,e1⟩;refine I1.laid (a:=s.heap.objs.size + 1) (o:=.ins C s.heap.objs.size []) (t':=s.toks) (fun b u q=>Ma _ q) (NN (MI _ _)) ?_;have ne:s.heap.objs.size≠s.heap.objs.size + 1:=Mn (Nc _);refine⟨by rw[ak ne,ah],MW _,ne,e2,fun _=>none,(Ps e3).at fun o q=>Ma _ q,fun _=>True.intro,fun y hy=>absurd Y hy⟩
theorem Ir {f:Str} (hb:attributeBase e f env (eval e env)=eval e env)
  (h:wpAny (model prog w) A (eval e env) (fun o s₁=>wpAny (model prog w) A (getAttr o f true) Q E s₁) E s):wpAny (model prog w) A (eval (.Attribute e f pos) env) Q E s:=
 Attribute_any_ h (by rw[arm_eval_Attribute,hb])
end
def tFld (K:PySem.W.Frag) (ta:TE) (f:Str):TE:=fun σ H Q=>ta σ H fun x H1=>∃ a C dx fs v,x=.ref a/\H1 a=some (.ins C dx fs)/\Cls K C/\zbH K C f/\fs.lookup f=some v/\Q v H1
def sFld (K:PySem.W.Frag) (ta tv:TE) (f:Str):TS:=fun D σ H=>tv σ H fun y H1=>ta σ H1 fun x H2=>∃ a C dx fs,x=.ref a/\H2 a=some (.ins C dx fs)/\Cls K C/\zbH K C f/\fs.length<1000 /\
 D.nx σ (upd H2 a (.ins C dx (cm f y fs)))
section
variable {o value:Expr}{f:Str}{tpos:Pos}{ta tv:TE}
theorem cO (he:PE X e ta) (hb:attributeBase e f X.env (eval e X.env)=eval e X.env):PE X (.Attribute e f pos) (tFld X.K ta f):=by
 intro aa s σ H Q I h;refine Ir hb (thn (he aa s σ H _ I h) fun u s1=>L2.ex5 fun x H1 I1 rx aX=>?_);obtain⟨a,C,dx,fs,v,ex,ea,c,n,l,q⟩:=aX;subst ex;obtain rfl:u=Value.ref a:=rx;exact Jn I1 ea c n l fun u' s2 I2 ru=>⟨v,H1,I2,ru,q⟩
theorem jm (ha:PE X o ta) (hv:PE X value tv) (hs:swapsWith value (some (.Attribute o f aS)) pos.line X.env=pure false):PS X (.Assign [.Attribute o f aS] value pos) (sFld X.K ta tv f):=by
 intro aa s σ H D I h;refine plainObj_wpAny_Assign_Attribute (thn (hv aa s σ H _ I h) fun u s1=>L2.ex5 fun y H1 I1 ry q=>thn (ha aa s1 σ H1 _ I1 q) fun ov s2=>L2.ex5 fun x H2 I2 rx aX=>?_) hs;obtain⟨a,C,dx,fs,ex,ea,c,n,l,q2⟩:=aX;subst ex;obtain rfl:ov=Value.ref a:=rx;exact Gs I2 ea c n l ry fun s3 I3=>⟨σ,_,I3,q2⟩
end
section
variable {c:Value}
inductive fR (K:PySem.W.Frag) (H:Hp):V->Value->Prop where
 | non:fR K H .non (.type "NoneType")
 | bl (x:Bool):fR K H (.bl x) (.type "bool")
 | int (i:Int):fR K H (.int i) (.type "int")
 | str (x:Str):fR K H (.str x) (.type "str")
 | flt (x:UInt64):fR K H (.flt x) (.type "float")
 | lst {a:Addr}{xs:List V} (e:H a=some (.lst xs)):fR K H (.ref a) (.type "list")
 | frz {a:Addr}{o:Obj}{xs:List V} (e:H a=some (.frz o (.lst xs))):fR K H (.ref a) (.type "list")
 | tup {a:Addr}{xs:List V} (e:H a=some (.tup xs)):fR K H (.ref a) (.type "tuple")
 | dK {a:Addr}{kvs:List (Key×V)} (e:H a=some (.dK kvs)):fR K H (.ref a) (.type "dict")
 | dT {a:Addr}{kvs:List (List Key×V)} (e:H a=some (.dT kvs)):fR K H (.ref a) (.type "dict")
 | ins {a C dx:Addr}{fs:List (Str×V)} (e:H a=some (.ins C dx fs)) (cl:Cls K C) (ha:PySem.W.findIn K (.ref C) "__class__"=some (some (.builtin "object.__class__")))
   (hn:PySem.W.specialIn K (.builtin "object.__class__") "__get__"=some (some (.builtin "getset_descriptor.__get__"))) (htk:PySem.W.takesIn K (.builtin "object.__class__")=some true)
   (hm:PySem.W.mroIn K C (.type "object")=some true):fR K H (.ref a) (.ref C)
theorem Kj {t:Value} (I:Inv X aa σ H s) (rx:ay x u) (ty:fR X.K H x t) (e:PySem.W.kitOne X.K t c=some b) (h:∀ tk,Q (.bool b) { s with toks:=tk }) :
  wpAny (model X.prog X.w) A (call (.builtin "isinstance") [u,c]) Q E s:=by
 cases ty with
 | non=>cases (show u=Value.none from rx);exact PySem.W.kia_one PySem.W.kitx_none I.kIn True.intro e (fun z=>nomatch z) h
 | bl y=>cases (show u=Value.bool y from rx);exact PySem.W.kia_one PySem.W.kitx_bool I.kIn True.intro e (fun z=>nomatch z) h
 | int i=>obtain⟨t,q⟩:=(show ∃ t,u=Value.int i t from rx);cases q;exact PySem.W.kia_one PySem.W.kitx_int I.kIn True.intro e (fun z=>nomatch z) h
 | str y=>obtain⟨t,q⟩:=(show ∃ t,u=Value.str y t from rx);cases q;exact PySem.W.kia_one PySem.W.kitx_str I.kIn True.intro e (fun z=>nomatch z) h
 | flt y=>obtain⟨t,q⟩:=(show ∃ t,u=Value.float y t from rx);cases q;exact PySem.W.kia_one PySem.W.kitx_float I.kIn True.intro e (fun z=>nomatch z) h
 | @lst a xs ea=>
  cases (show u=Value.ref a from rx)
  obtain⟨_,_,n,_,h1⟩:=(show bZ X.prog X.w H s.heap a (.lst xs) from I.hok a _ ea);exact PySem.W.kia_one PySem.W.kitx_list I.kIn ⟨_,h1,Y⟩ e (fun z=>nomatch z) h
 | @frz a ob xs ea=>
  cases (show u=Value.ref a from rx)
  obtain⟨_,_,_,n,_,h1⟩:=(show bZ X.prog X.w H s.heap a (.frz ob (.lst xs)) from I.hok a _ ea);exact PySem.W.kia_one PySem.W.kitx_list I.kIn ⟨_,h1,Y⟩ e (fun z=>nomatch z) h
 | @tup a xs ea=>
  cases (show u=Value.ref a from rx)
  obtain⟨_,_,_,p⟩:=(show bZ X.prog X.w H s.heap a (.tup xs) from I.hok a _ ea);obtain⟨o,h1,h2,_⟩:=p;exact PySem.W.kia_one PySem.W.kitx_tuple I.kIn ⟨o,h1,h2⟩ e (fun z=>nomatch z) h
 | @dK a kvs ea=>
  cases (show u=Value.ref a from rx)
  obtain⟨_,_,vs,_,p⟩:=(show bZ X.prog X.w H s.heap a (.dK kvs) from I.hok a _ ea);obtain⟨o,es,ep,h1,h2,_⟩:=p;exact PySem.W.kia_one PySem.W.kitx_dict I.kIn ⟨o,h1,h2.1⟩ e (fun z=>nomatch z) h
 | @dT a kvs ea=>
  cases (show u=Value.ref a from rx)
  obtain⟨_,_,xs,_,o,es,ep,h1,h2,_⟩:=(show bZ X.prog X.w H s.heap a (.dT kvs) from I.hok a _ ea);exact PySem.W.kia_one PySem.W.kitx_dict I.kIn ⟨o,h1,h2.1⟩ e (fun z=>nomatch z) h
 | @ins a C dx fs ea cl ha hn htk hm=>
  cases (show u=Value.ref a from rx)
  obtain⟨mA,O,_⟩:=sC I.hok ea;obtain⟨od,J,_⟩:=O.look;exact PySem.W.kia_one (PySem.W.kitx_own (cl.get _) cl.hd ha hn htk hm) I.kIn J e (fun z=>nomatch z) h
end
structure aZ (k:Nat) (A:Around):Prop where
 dp:A.depth + 3 * k + 5<recursionLimit
 un:A.units + 16 * k + 200<cLine
theorem aZ.mono {j k:Nat} (r:aZ k A) (h:j<=k):aZ j A:=⟨by have:=r.dp;omega,by have:=r.un;omega⟩
theorem aZ.deeper {k:Nat}{A:Around} (r:aZ (k + 1) A) (env:Env):aZ k (A.deeper env):=
 ⟨by have:=r.dp;show A.depth + 1 + 3 * k + 5<_;omega,by have:=r.un;show A.units + 3 + 16 * k + 200<_;omega⟩
theorem aZ.in1 {k:Nat}{A:Around} (r:aZ (k + 1) A):aZ k A.in1:=
 ⟨by have:=r.dp;show A.depth + 3 * k + 5<_;omega,by have:=r.un;show A.units + 1 + 16 * k + 200<_;omega⟩
theorem IR:(A.under (.builtin "type.__call__" ⟨.ref C::us,kw⟩)).depth=A.depth + 1:=by
 first|rfl|simp[Around.under,Code.weight,Code.isCreation,Code.isGuard,Code.isCaller,Code.frames,Code.isFrame,guardIds]
theorem Gu:(A.under (.builtin "type.__call__" ⟨.ref C::us,kw⟩)).units=A.units + 1:=by
 first|rfl|simp[Around.under,Code.cUnits,Code.frames,Code.isFrame]
theorem aZ.make {k:Nat} (r:aZ (k + 1) A) (C:Addr) (us:List Value) (kw:List (Str×Value)):aZ k (A.under (.builtin "type.__call__" ⟨.ref C::us,kw⟩)):=
 ⟨by have:=r.dp;rw[IR];omega,by have:=r.un;rw[Gu];omega⟩
theorem aZ.depth {k:Nat}{A:Around} (r:aZ k A):A.depth<recursionLimit:=by have:=r.dp;omega
theorem aZ.units {k:Nat}{A:Around} (r:aZ k A):A.units + 64<cLine:=by have:=r.un;omega
def eS:TA:=fun _ H Q=>Q [] H
def tP (ta:TE) (tr:TA):TA:=fun σ H Q=>ta σ H fun x H1=>tr σ H1 fun xs H2=>Q (x::xs) H2
section
variable {t:TA}
theorem aj:PA X [] eS:=fun _ _ _ _ H Q I h=>Calls.spliced_nil ⟨[],H,I,.nil,h⟩
theorem ag (ha:PE X e te) (hr:PA X es t) (hs:starEach (e::es) X.env=(false,eval e X.env)::starEach es X.env:=by rfl):PA X (e::es) (tP te t):=by
 intro pos aa s σ H Q I h;rw[hs];show wpAny _ _ (spliced ((false,eval e X.env)::backTo pos (starEach es X.env))) _ _ s;refine Calls.spliced_cons (thn (ha aa s σ H _ I h) fun u s1=>L2.ex5 fun x H1 I1 r1 q1=>?_);exact thn (hr pos aa s1 σ H1 _ I1 q1) fun us s2 ⟨xs,H2,I2,r2,q2⟩=>⟨x::xs,H2,I2,.cons r1 r2,q2⟩
def tTup (t:TA):TE:=fun σ H Q=>t σ H fun xs H1=>xs.length<=sizeLine/\∀ p,H1 p=none->Q (.ref p) (upd H1 p (.tup xs))
def oh (t:TA):TE:=fun σ H Q=>t σ H fun xs H1=>xs.length<=sizeLine/\∀ p,H1 p=none->Q (.ref p) (upd H1 p (.lst xs))
theorem gk {x1} (h:PA X es t):PE X (.Tuple es x1 pos) (tTup t):=by
 intro aa s σ H Q I hq;refine wpAny_Tuple_spliced (thn (h pos aa s σ H _ I hq) fun us s1 ⟨xs,H1,I1,r,z,q⟩=>⟨by rw[<- r.length];exact z,?_⟩);have hf:H1 s1.heap.objs.size=none:=I1.hok.fresh (Md _);refine⟨.ref s1.heap.objs.size,upd H1 s1.heap.objs.size (.tup xs),I1.laid (t':=s1.toks) (fun b u e=>Ma _ e) (Md _) ?_,Y,q _ hf⟩;exact⟨z,us,r,⟨_,Mi _ Y,Y,_,Y⟩⟩
theorem bH (h:PA X es t):PE X (.List es pos) (oh t):=by
 intro aa s σ H Q I hq;refine wpAny_List_spliced (thn (h pos aa s σ H _ I hq) fun us s1 ⟨xs,H1,I1,r,z,q⟩=>⟨by rw[<- r.length];exact z,?_⟩);have hf:H1 s1.heap.objs.size=none:=I1.hok.fresh (Md _);refine⟨.ref s1.heap.objs.size,upd H1 s1.heap.objs.size (.lst xs),I1.laid (t':=s1.toks) (fun b u e=>Ma _ e) (Md _) ?_,Y,q _ hf⟩;exact⟨z,us,0,r,Mi _ Y⟩
end
abbrev Sp:=List V->Hp->VK->XK->Prop
abbrev CXT:=List Env->Hp->Shared->XK->Value->Shared->Prop
structure mI (P:Program) (w:World) (K:PySem.W.Frag) (mg:Str->Option Value) (base:Heap) (A:Around) (outer:List Env) (s:Shared) (H:Hp):Prop where
 frames:A.frames=some outer
 mod:Mod K mg base
 bs:∀ b o,base.get? b=some o->s.heap.get? b=some o/\H b=none
 bsz:base.objs.size<=s.heap.objs.size
 funs:s.heap.FunFrames base outer
 frf:∀ b∈frs outer,H b=none
 hok:HOk P w H s.heap
 bare:AllBare s.gens
 hd:gU A H
def CE (outer:List Env) (P:Program) (w:World) (H:Hp) (s:Shared) (Q:VK) (u:Value) (s':Shared):Prop:=
 ∃ v H',s'.os=s.os/\AllBare s'.gens/\Un (frs outer) [] H H' s.heap s'.heap/\HOk P w H' s'.heap/\ay v u/\Q v H'
variable {CX:CXT}{E:XK}{Q:VK}{base:Heap}{f:Addr}{fd:FuncData}{mg:Str->Option Value}{outer:List Env}{ps:List Str}{qual x:Str}{scope:Scope}{sp:Sp}{t:TA}{ta:TE}{vs:List V}
def CR (CX:CXT) (outer:List Env) (P:Program) (w:World) (H:Hp) (s:Shared) (Q:VK) (E:XK) (r:Result) (s':Shared):Prop:=
 match r with
 | .ok (.ret u)=>CE outer P w H s Q u s'
 | .ok _=>False
 | .error e=>CX outer H s E e s'
structure bX (P:Program) (w:World) (K:PySem.W.Frag) (mg:Str->Option Value) (base:Heap) (CX:CXT) (k:Nat) (f:Addr) (fd:FuncData) (ps:List Str) (sp:Sp):Prop where
 len:∀ vs H Q E,sp vs H Q E->vs.length=ps.length
 run:∀ (A:Around) (outer:List Env) (s:Shared) (H:Hp) (args:Args) (us:List Value) (vs:List V) (Q:VK) (E:XK),aZ k A->mI P w K mg base A outer s H->BindsTo s fd args (ps.zip us)->av vs us->sp vs H Q E ->
  codeAny (model P w) A (.call (.ref f) args) (CR CX outer P w H s Q E) s
theorem mI.make {K:PySem.W.Frag} (e:mI P w K mg base A outer s H) (C:Addr) (us:List Value) (kw:List (Str×Value)) :
  mI P w K mg base (A.under (.builtin "type.__call__" ⟨.ref C::us,kw⟩)) outer s H:=⟨by first|exact e.frames|(simpa [Around.under,Code.envs,Code.isFrame,pushEnvs] using e.frames),e.mod,e.bs,e.bsz,e.funs,e.frf,e.hok,e.bare,e.hd⟩
theorem Inv.env0 (I:Inv X aa σ H s):mI X.prog X.w X.K X.mg X.base X.A X.stack s H:=
 ⟨I.ok.frames,I.ok.mod,I.bs,MN I.ok.bsz I.sz,I.stack,I.stkFree,I.hok,I.bare,I.hdAt⟩
theorem Inv.after  (I:Inv X aa σ H s) (h:CE X.stack X.prog X.w H s Q u s'):EP X aa σ Q u s':=by
 obtain⟨v,H',os,bare,un,hok,r,q⟩:=h;obtain⟨hh,g,d,t,rC⟩:=s';obtain rfl:rC=s.os:=os;exact⟨v,H',I.call (h':=hh) (g':=g) (d':=d) (t':=t) (ch:=[]) un hok bare (fun b z=>absurd z (by simp)),r,q⟩
def tCall (sp:Sp) (aI:List V) (E:XK) (t:TA):TE:=fun σ H Q=>t σ H fun vs H1=>sp (vs++aI) H1 Q E
def iF (C:Addr) (m:Str) (sp:Sp) (aI:List V) (E:XK) (ta:TE) (t:TA):TE:=fun σ H Q=>ta σ H fun x H1=>∃ a dx fs,x=.ref a/\H1 a=some (.ins C dx fs)/\fs.lookup m=none /\
 t σ H1 fun vs H2=>sp (x::(vs++aI)) H2 Q E
def tM (C:Addr) (sp:Sp) (aI:List V) (E:XK) (t:TA):TE:=fun σ H Q=>t σ H fun vs H1=>∀ x dx,H1 x=none->H1 dx=none->dx≠x ->
 sp (.ref x::(vs++aI)) (upd (upd H1 dx (.own x)) x (.ins C dx [])) (fun v H2=>v=.non/\Q (.ref x) H2) E
def dc (K:PySem.W.Frag) (fd:FuncData) (ps:List Str) (ds:List Value):Prop:=
 ∀ (s:Shared) (us:List Value),K.In s.heap->(us++ds).length=ps.length->BindsTo s fd ⟨us,[]⟩ (ps.zip (us++ds))
theorem dc.all {K:PySem.W.Frag} (h:∀ us:List Value,us.length=ps.length->bindArgs fd ⟨us,[]⟩=pure (ps.zip us)):dc K fd ps []:=fun s us _ hl=>by
 rw[Nj] at hl ⊢;exact .of_eq (h us hl)
def jR (CX:CXT) (X:Cx) (E:XK):Prop:=∀ (aa:List (Addr×Obj)) (σ:St) (H:Hp) (s:Shared) (e:Value) (s':Shared),Inv X aa σ H s->CX X.stack H s E e s'->X.xe e s'
section
variable {k:Nat}{aI:List V}{ds:List Value}{p aK:Pos}{o:Expr}
theorem wM  (F:bX X.prog X.w X.K X.mg X.base CX k f fd ps sp) (hr:aZ k X.A) (hb:dc X.K fd ps ds) (hd:av aI ds) (hx:jR CX X E)
  (I:Inv X aa σ H s) (r:av vs us) (h:sp (vs++aI) H Q E):wpAny (model X.prog X.w) X.A (call (.ref f) us) (EP X aa σ Q) X.xe s:=by
 have r2:av (vs++aI) (us++ds):=r.append hd;have hl:(us++ds).length=ps.length:=by rw[<- r2.length];exact F.len _ _ _ _ h
 refine NI (codeAny_mono (F.run X.A X.stack s H ⟨us,[]⟩ (us++ds) (vs++aI) Q E hr I.env0 (hb s us I.kIn hl) r2 h) fun r s' hq=>?_);cases r with
 | error e=>exact hx aa σ H s e s' I hq
 | ok fl=>
  cases fl with
  | ret u=>exact I.after hq
  | next=>exact False.elim hq
  | brk=>exact False.elim hq
  | cont=>exact False.elim hq
theorem J4 (F:bX X.prog X.w X.K X.mg X.base CX k f fd ps sp) (hr:aZ k X.A) (hg:Gl X x) (hm:X.mg x=some (.ref f)) (hk:PySem.W.keepIn X.K (.ref f)=true) (hb:dc X.K fd ps ds) (hd:av aI ds) (hx:jR CX X E)
  (ha:PA X (e::es) t) (hdb:(x == ("__debug__":Str))=false:=by decide) (he:starEach (e::es) X.env=(false,eval e X.env)::starEach es X.env:=by rfl) (cu:(backTo pos (starEach es X.env)).any (·.1)=false:=by rfl) :
  PE X (.Call (.Name x p) (e::es) [] pos) (tCall sp aI E t):=by
 intro aa s σ H Q I h;refine M4 (nr I hg hm ?_ hdb);refine PySem.W.callWith_K (h₀:=X.base) I.ok.mod.kin hk (thn (ha pos aa s σ H _ I h) fun us s1=>L2.ex5 fun vs H1 I1 r q=>⟨I1.kIn,?_⟩) he cu;exact wM F hr hb hd hx I1 r q
theorem pe_meth  (he:PE X o ta) (c:Cls X.K C) (hm:Meth X.K C m f) (F:bX X.prog X.w X.K X.mg X.base CX k f fd ps sp) (hr:aZ k X.A) (hb:dc X.K fd ps ds) (hd:av aI ds) (hx:jR CX X E) (ha:PA X (e::es) t)
  (dG:starEach (e::es) X.env=(false,eval e X.env)::starEach es X.env:=by rfl) (cu:(backTo pos (starEach es X.env)).any (·.1)=false:=by rfl)
  (ht:eval (.Call (.Attribute o m aK) (e::es) [] pos) X.env=(do
   let ov <- eval o X.env
   standAt aK.atName
   let (f,first) <- holding [ov] (getMethod ov m pl)
   callWith pos f first (backTo pos (starEach (e::es) X.env)) (backToKw pos (keywordEach [] X.env))):=by rfl) :
  PE X (.Call (.Attribute o m aK) (e::es) [] pos) (iF C m sp aI E ta t):=by
 intro aa s σ H Q I h;refine PySem.W.methodCall_KW (pl:=pl) (thn (he aa s σ H _ I h) fun u s1=>L2.ex5 fun x H1 I1 rx aX=>?_) ht;obtain⟨a,dx,fs,ex,ea,l,q⟩:=aX;subst ex;obtain rfl:u=Value.ref a:=rx;refine wN I1 ea c hm l ?_;refine PySem.W.callWith_K (first:=[.ref a]) (h₀:=X.base) I.ok.mod.kin hm.kp (thn (ha pos aa s1 σ H1 _ I1 q) fun us s2=>L2.ex5 fun vs H2 I2 r q2=>⟨I2.kIn,?_⟩) dG cu;exact wM (us:=.ref a::us) (vs:=.ref a::vs) F hr hb hd hx I2 (.cons Y r) q2
theorem JB  (he:PE X o ta) (c:Cls X.K C) (hm:Meth X.K C m f) (F:bX X.prog X.w X.K X.mg X.base CX k f fd ps sp) (hr:aZ k X.A) (hb:dc X.K fd ps ds) (hd:av aI ds) (hx:jR CX X E)
  (ht:eval (.Call (.Attribute o m aK) [] [] pos) X.env=(do
   let ov <- eval o X.env
   standAt aK.atName
   let (f,first) <- holding [ov] (getMethod ov m pl)
   callWith pos f first (backTo pos (starEach [] X.env)) (backToKw pos (keywordEach [] X.env))):=by rfl) :
  PE X (.Call (.Attribute o m aK) [] [] pos) (iF C m sp aI E ta eS):=by
 intro aa s σ H Q I h;refine PySem.W.methodCall_KW (pl:=pl) (thn (he aa s σ H _ I h) fun u s1=>L2.ex5 fun x H1 I1 rx aX=>?_) ht;obtain⟨a,dx,fs,ex,ea,l,q⟩:=aX;subst ex;obtain rfl:u=Value.ref a:=rx;refine wN I1 ea c hm l ?_;exact PySem.W.callWith_K0 (first:=[.ref a]) I1.kIn hm.kp (wM (us:=[.ref a]) (vs:=[.ref a]) F hr hb hd hx I1 (.cons Y .nil) q)
structure Mk (K:PySem.W.Frag) (C f:Addr):Prop where
 makes:PySem.W.makesIn K C=true
 init:PySem.W.findIn K (.ref C) "__init__"=some (some (.ref f))
 fn:PySem.W.isFn K (.ref f)=true
 kp:PySem.W.keepIn K (.ref C)=true
theorem AF  (M:Mk X.K C f) (F:bX X.prog X.w X.K X.mg X.base CX k f fd ps sp) (hr:aZ (k + 1) X.A) (hb:dc X.K fd ps ds) (hd:av aI ds)
  (hx:jR CX X E) (I:Inv X aa σ H s) (r:av vs us)
  (h:∀ x dx,H x=none->H dx=none->dx≠x->sp (.ref x::(vs++aI)) (upd (upd H dx (.own x)) x (.ins C dx [])) (fun v H2=>v=.non/\Q (.ref x) H2) E) :
  wpAny (model X.prog X.w) X.A (call (.ref C) us) (EP X aa σ Q) X.xe s:=by
 have hq:=h (s.heap.objs.size + 1) s.heap.objs.size (I.hok.fresh (M3 _)) (I.hok.fresh (Md _)) (Mn (Nc _));have I2:=Inv.made (C:=C) I;have r2:av (V.ref (s.heap.objs.size + 1)::(vs++aI)) (Value.ref (s.heap.objs.size + 1)::(us++ds)):=.cons Y (r.append hd);have hl:(Value.ref (s.heap.objs.size + 1)::us++ds).length=ps.length:=by
  have e:=r2.length;rw[F.len _ _ _ _ hq] at e;exact e.symm
 refine NI (J7 (f:=f) I.kIn M.makes M.init (beq_iff_eq.mp M.fn) (codeAny_mono (F.run _ X.stack _ _ ⟨Value.ref (s.heap.objs.size + 1)::us,[]⟩ (Value.ref (s.heap.objs.size + 1)::(us++ds)) _ _ E (hr.make C us [])
  (I2.env0.make C us []) (hb _ (Value.ref (s.heap.objs.size + 1)::us) I2.kIn hl) r2 hq) fun r s' dA=>?_))
 cases r with
 | error e=>exact hx aa σ _ _ e s' I2 dA
 | ok fl=>
  cases fl with
  | ret u=>
   obtain⟨v,H',I3,rv,ev,q3⟩:=I2.after dA;subst ev;exact⟨rv,⟨V.ref (s.heap.objs.size + 1),H',I3,Y,q3⟩⟩
  | next=>exact False.elim dA
  | brk=>exact False.elim dA
  | cont=>exact False.elim dA
theorem HG (M:Mk X.K C f) (F:bX X.prog X.w X.K X.mg X.base CX k f fd ps sp) (hr:aZ (k + 1) X.A) (hg:Gl X x) (hm:X.mg x=some (.ref C)) (hb:dc X.K fd ps ds) (hd:av aI ds) (hx:jR CX X E)
  (ha:PA X (e::es) t) (hdb:(x == ("__debug__":Str))=false:=by decide) (he:starEach (e::es) X.env=(false,eval e X.env)::starEach es X.env:=by rfl) (cu:(backTo pos (starEach es X.env)).any (·.1)=false:=by rfl) :
  PE X (.Call (.Name x p) (e::es) [] pos) (tM C sp aI E t):=by
 intro aa s σ H Q I h;refine M4 (nr I hg hm ?_ hdb);refine PySem.W.callWith_K (h₀:=X.base) I.ok.mod.kin M.kp (thn (ha pos aa s σ H _ I h) fun us s1=>L2.ex5 fun vs H1 I1 r q=>⟨I1.kIn,?_⟩) he cu;exact AF M F hr hb hd hx I1 r q
theorem Jd (M:Mk X.K C f) (F:bX X.prog X.w X.K X.mg X.base CX k f fd ps sp) (hr:aZ (k + 1) X.A) (hg:Gl X x) (hm:X.mg x=some (.ref C)) (hb:dc X.K fd ps ds) (hd:av aI ds) (hx:jR CX X E)
  (hdb:(x == ("__debug__":Str))=false:=by decide):PE X (.Call (.Name x p) [] [] pos) (tM C sp aI E eS):=by
 intro aa s σ H Q I h;refine M4 (nr I hg hm ?_ hdb);exact PySem.W.callWith_K0 I.kIn M.kp (AF (us:=[]) M F hr hb hd hx I .nil h)
end
section
variable {k:Nat}{ks:List Str}{p aK bK:Pos}{o:Expr}{Lk:List Keyword}{tk:TA}{nm:Option Str}
structure KBinds (K:PySem.W.Frag) (fd:FuncData) (ps ks:List Str) (g:List Value->List Value->List Value) (gV:List V->List V->List V):Prop where
 to:∀ (s:Shared) (us ws:List Value),K.In s.heap->(g us ws).length=ps.length->BindsTo s fd ⟨us,ks.zip ws⟩ (ps.zip (g us ws))
 rel:∀ {vs:List V}{us:List Value}{zs:List V}{ws:List Value},av vs us->av zs ws->av (gV vs zs) (g us ws)
variable {g:List Value->List Value->List Value}{gV:List V->List V->List V}
end
structure aN (N P:List Str) (sc:Scope):Prop where
 kind:sc.kind=.function
 co:sc.isCoroutine=false
 gen:sc.isGenerator=false
 nd:N.Nodup
 pre:N.take P.length=P
 par:∀ x∈P,sc.names.lookup x=some .local\/sc.names.lookup x=some .cell
 nofree:∀ y∈sc.names,y.2≠.free
theorem BQ {kindOf:Str->Option NameKind}{x:Str}:∀ {et:List (Str×Value)}{m:Str->Option Value},(∀ v,(x,v)∉et)->bindL kindOf et m x=m x
 | [],_,_=>rfl
 | (n,v)::r,m,h=>by
  unfold bindL;rw[BQ fun w hw=>h w (Mo _ hw)];split
  ·have:x≠n:=by rintro rfl;exact h v Ms
   simp[this]
  ·rfl
theorem B8 {kindOf:Str->Option NameKind}{x:Str}:∀ {et:List (Str×Value)}{m:Str->Option Value},(∀ v,(x,v)∉et)->bindC kindOf et m x=m x
 | [],_,_=>rfl
 | (n,v)::r,m,h=>by
  unfold bindC;rw[B8 fun w hw=>h w (Mo _ hw)];split
  ·rfl
  ·have:x≠n:=by rintro rfl;exact h v Ms
   simp[this]
theorem BJ {kindOf:Str->Option NameKind}{x:Str}{v:Value}:∀ {P:List Str}{vs:List Value}{i:Nat}{m:Str->Option Value},P.Nodup->P[i]?=some x->vs[i]?=some v->kindOf x=some .local ->
  bindL kindOf (P.zip vs) m x=some v
 | [],_,_,_,_,h,_,_=>by simp at h
 | _::_,[],_,_,_,_,h,_=>by simp at h
 | p::P,w::vs,0,m,nd,h1,h2,hk=>by
  simp at h1 h2;subst h1;subst h2
  show bindL kindOf ((p,w)::P.zip vs) m p=_;unfold bindL;rw[BQ fun v hv=>(List.nodup_cons.mp nd).1 (OW hv).1,if_pos hk];simp
 | p::P,w::vs,i + 1,m,nd,h1,h2,hk=>by
  show bindL kindOf ((p,w)::P.zip vs) m x=_;unfold bindL;exact BJ (i:=i) (List.nodup_cons.mp nd).2 (by simpa using h1) (by simpa using h2) hk
theorem AU {kindOf:Str->Option NameKind}{x:Str}{v:Value}:∀ {P:List Str}{vs:List Value}{i:Nat}{m:Str->Option Value},P.Nodup->P[i]?=some x->vs[i]?=some v->kindOf x≠some .local ->
  bindC kindOf (P.zip vs) m x=some v
 | [],_,_,_,_,h,_,_=>by simp at h
 | _::_,[],_,_,_,_,h,_=>by simp at h
 | p::P,w::vs,0,m,nd,h1,h2,hk=>by
  simp at h1 h2;subst h1;subst h2
  show bindC kindOf ((p,w)::P.zip vs) m p=_;unfold bindC;rw[B8 fun v hv=>(List.nodup_cons.mp nd).1 (OW hv).1,if_neg hk];simp
 | p::P,w::vs,i + 1,m,nd,h1,h2,hk=>by
  show bindC kindOf ((p,w)::P.zip vs) m x=_;unfold bindC;exact AU (i:=i) (List.nodup_cons.mp nd).2 (by simpa using h1) (by simpa using h2) hk
def jf (N:List Str) (vs:List V):St:=vs.map some++List.replicate (N.length - vs.length) none
def iK (CX:CXT) (P:Program) (w:World) (K:PySem.W.Frag) (mg:Str->Option Value) (base:Heap) (N:List Str) (qual:Str) (scope:Scope) (f:Addr) (cd:Value) (A:Around) (outer:List Env) (s:Shared) (H:Hp) (E:XK):Cx where
 prog:=P
 w:=w
 K:=K
 mg:=mg
 base:=base
 A:=A.deeper (envOfC qual scope s.heap.objs.size f cd)
 N:=N
 s₀:=s
 H₀:=H
 env:=envOfC qual scope s.heap.objs.size f cd
 outer:=outer
 stack:=envOfC qual scope s.heap.objs.size f cd::outer
 ex:=[]
 calm:=true
 fn:=fun _=>true
 pn:=[]
 xe:=fun e s'=>wpAny (model P w) (A.deeper (envOfC qual scope s.heap.objs.size f cd)) (leaving (envOfC qual scope s.heap.objs.size f cd) e) (fun _ vD=>CX outer H s E e vD) (fun e' vD=>CX outer H s E e' vD) s'
theorem CO {sc:Scope} (h:sc.names.lookup x=some .cell):∃ c,(cellsFrom n sc.names []).lookup x=some c:=by
 have q:=PySem.W.cellsFrom_some sc.names n [] (.inl h);exact Option.isSome_iff_exists.mp q
theorem GS {K:PySem.W.Frag}{cd:Value}{s1:Shared}
  (S:aN N ps scope) (e0:mI P w K mg base A outer s H) (hl:vs.length=ps.length) (r:av vs us)
  (x:InCallC s s.heap.objs.size (bindL (envOfC qual scope s.heap.objs.size f cd).kindOf (ps.zip us) fun _=>none) (cellsFrom (s.heap.objs.size + 1) scope.names []) (bindC (envOfC qual scope s.heap.objs.size f cd).kindOf (ps.zip us) fun _=>none) s1) :
  Inv (iK CX P w K mg base N qual scope f cd A outer s H E) [] (jf N vs) H s1:=by
 have cu:ps.length<=N.length:=by have:=congrArg List.length S.pre;rw[Ml] at this;omega
 obtain⟨h1,tk,rfl,hk⟩:=x.done;have lR:∀ b:Addr,b∉(iK CX P w K mg base N qual scope f cd A outer s H E).ex:=fun b z=>absurd (show b∈([]:List Addr) from z) (by simp)
 refine⟨⟨e0.mod,S.kind,Y,Y,Md _,fun y z c h1 h2=>?_,fun y hy=>?_,fun y c _ h=>?_,e0.hd,Around.frames_deeper e0.frames,.inr ⟨Y,Y⟩,fun b z=>absurd z (lR b),e0.bs,e0.bsz,fun b _ _=>lR b,fun b z=>absurd z (lR b),e0.funs,e0.frf⟩,
  rfl,e0.bare,Un.kept hk,⟨_,x.toInCall.ns,fun i y v h1 h2 h3=>?_⟩,fun y c h=>⟨_,x.cell y c h⟩,e0.hok.fresh (Md _),fun y c h=>?_,fun p hp=>absurd (show p∈([]:List (Addr×Obj)) from hp) (by simp),e0.hok.kept hk,?_⟩
 ·exact name_of_addr x.apart (PySem.mem_of_lookup h1) (PySem.mem_of_lookup h2)
 ·have hy:scope.names.lookup y=some .cell\/scope.names.lookup y=some .free:=hy
  rcases hy with hy|hy
  ·exact CO hy
  ·exact absurd Y (S.nofree _ (PySem.mem_of_lookup hy))
 ·exact Nk (x.above y c (PySem.mem_of_lookup h))
 ·have hi:i<vs.length:=by
   unfold jf at h2;by_cases hi:i<vs.length
   ·exact hi
   ·rw[Mx (by simpa using hi)] at h2
    rw[List.getElem?_replicate] at h2;split at h2 <;> cases h2
  have ha:vs[i]?=some v:=by
   unfold jf at h2;rw[MB (by simpa using hi),Mm] at h2;cases e:vs[i]? with
   | none=>rw[e] at h2;cases h2
   | some a=>rw[e] at h2;cases h2;rfl
  obtain⟨u,hu,rv⟩:=r.get ha;have hp:ps[i]?=some y:=by
   rw[<- S.pre,OJ (by omega)];exact h1
  have yZ:ps.Nodup:=by rw[<- S.pre];exact S.nd.sublist (Pt _ _)
  refine⟨u,rv,?_⟩;rcases S.par y (Me hp) with k|k
  ·exact .inl ⟨k,BJ yZ hp hu k⟩
  ·obtain⟨c,e⟩:=CO (n:=s.heap.objs.size + 1) k
   refine .inr ⟨.inl k,c,e,?_⟩;have q:=x.cell y c e;rw[AU yZ hp hu (by show scope.names.lookup y≠_;rw[k];decide)] at q;exact q
 ·exact e0.hok.fresh (Nk (x.above y c (PySem.mem_of_lookup h)))
 ·unfold jf
  show _=N.length;rw[Mg,L9,List.length_replicate];omega
theorem xx {K:PySem.W.Frag}{k:Nat}{params:Arguments}{dV kV bF pm aw ct oc:Value}{an od:Option Addr}
  {cX:Array (Option Value)} (lk:K.lookup f=some ⟨oc,od,.func (PySem.W.fnOf name qual params body scope dV kV bF pm an aw ct),cX⟩) (eM:PySem.W.codeIn K aw qual=true) (S:aN N ps scope)
  (len:∀ vs H Q E,sp vs H Q E->vs.length=ps.length)
  (cF:∀ (A:Around) (outer:List Env) (s:Shared) (H:Hp) (vs:List V) (Q:VK) (E:XK),aZ k (A.deeper (envOfC qual scope s.heap.objs.size f aw))->sp vs H Q E ->
   ∃ t,PSs (iK CX P w K mg base N qual scope f aw A outer s H E) body t/\t { nx:=fun _ H'=>Q .non H',rt:=Q } (jf N vs) H) :
  bX P w K mg base CX (k + 1) f (PySem.W.fnOf name qual params body scope dV kV bF pm an aw ct) ps sp:=by
 refine⟨len,fun A outer s H args us vs Q E hr e0 hb r gK=>?_⟩;have hl:=len _ _ _ _ gK;have KX:K.In s.heap:=e0.mod.kin.keeps fun b o e=>(e0.bs b o e).1
 have lim:s.heap.NoLimit:=e0.mod.nolimit.keeps fun b o e=>(e0.bs b o e).1
 have bf:∀ y∈ps.zip us,scope.names.lookup y.1=some .local\/(scope.names.lookup y.1=some .cell/\((cellsFrom (s.heap.objs.size + 1) scope.names []).lookup y.1).isSome=true):=fun⟨n,v⟩ hy=>by
  rcases S.par n (OW hy).1 with q|q
  ·exact .inl q
  ·exact .inr ⟨q,PySem.W.cellsFrom_some _ _ _ (.inl q)⟩
 refine codeAny_call_function hr.depth (KX _ _ lk) Y S.co S.gen Y (PySem.W.codeRec_of KX eM) (hb _ _ _ _ ?_);refine wpAny_newFunctionEnv_cells S.kind bf fun env he s1 x=>?_
 subst he;refine⟨lim.keeps x.toInCall.keep,codeAny_func ?_⟩;obtain⟨t,ht,hq⟩:=cF A outer s H vs Q E (hr.deeper _) gK;have I:Inv (iK CX P w K mg base N qual scope f aw A outer s H E) [] (jf N vs) H s1:=GS S e0 hl r x;refine MV (ht [] s1 (jf N vs) H _ I hq) (fun fl s' hs=>?_) fun e s' hs=>hs
 have fin:∀ {σ':St}{H':Hp}{v:V}{u:Value},Inv (iK CX P w K mg base N qual scope f aw A outer s H E) [] σ' H' s'->ay v u->Q v H'->CE outer P w H s Q u s':=
  fun {σ' H' v u} J rv q=>⟨v,H',J.os,J.bare,J.base,J.hok,rv,q⟩
 cases fl with
 | ret u=>
  obtain⟨v,σ',H',J,rv,q⟩:=hs;exact fin J rv q
 | next=>
  obtain⟨σ',H',J,q⟩:=hs;exact fin (v:=V.non) (u:=Value.none) J Y q
 | brk=>
  obtain⟨_,_,_,q⟩:=hs;exact False.elim q
 | cont=>
  obtain⟨_,_,_,q⟩:=hs;exact False.elim q
section
variable {p:Pos}{id T:String}{r:List V->Hp->VK->Prop}
def tCB (r:List V->Hp->VK->Prop) (t:TA):TE:=fun σ H Q=>t σ H fun vs H1=>r vs H1 Q
theorem bu (hc:fP X (.builtin id) r) (hg:Gl X x) (hm:X.mg x=none) (hv:bootBuiltins x=some (.builtin id)) (ha:PA X (e::es) t) (hn:x≠"__name__":=by decide) (hdb:(x == ("__debug__":Str))=false:=by decide)
  (he:starEach (e::es) X.env=(false,eval e X.env)::starEach es X.env:=by rfl) (cu:(backTo pos (starEach es X.env)).any (·.1)=false:=by rfl):PE X (.Call (.Name x p) (e::es) [] pos) (tCB r t):=by
 intro aa s σ H Q I h;refine M4 (jk I hg hm hv ?_ hn hdb);exact PyProof.Rows.callWith_builtin1 (thn (ha pos aa s σ H _ I h) fun us s1=>L2.ex5 fun vs H1 I1 r1 q1=>hc aa s1 σ H1 vs us Q I1 r1 q1) he cu
theorem iC (hc:fP X (.type T) r) (hg:Gl X x) (hm:X.mg x=none) (hv:bootBuiltins x=some (.type T)) (ha:PA X (e::es) t) (hn:x≠"__name__":=by decide) (hdb:(x == ("__debug__":Str))=false:=by decide)
  (he:starEach (e::es) X.env=(false,eval e X.env)::starEach es X.env:=by rfl) (cu:(backTo pos (starEach es X.env)).any (·.1)=false:=by rfl):PE X (.Call (.Name x p) (e::es) [] pos) (tCB r t):=by
 intro aa s σ H Q I h;refine M4 (jk I hg hm hv ?_ hn hdb);exact PyProof.Rows.callWith_type1 (thn (ha pos aa s σ H _ I h) fun us s1=>L2.ex5 fun vs H1 I1 r1 q1=>hc aa s1 σ H1 vs us Q I1 r1 q1) he cu
end
end L2
namespace HT
open PySem PyProof.Rows
section
open PySem.SeqAt
open PySem.AutoSeq1 (wpAny_loadPart')
open PySem.MeetsSeq PySem.MeetsSeq2 PySem.MeetsSeq3
end
section
variable {prog:Program}{w:World}{A:Around}{E:Value->Shared->Prop}{s:Shared}
def sIx (n d:Nat):Option Int->Nat
 | none=>d
 | some v=>if v<0 then(v + (n:Int)).toNat else min v.toNat n
theorem zic (n d:Nat):sIx n d none=d:=rfl
theorem zfQ (n d k:Nat):sIx n d (some (k:Int))=min k n:=by
 show(if (k:Int)<0 then((k:Int) + (n:Int)).toNat else min (k:Int).toNat n)=min k n;rw[if_neg (by omega),Int.toNat_natCast]
end
end HT
namespace L2
variable {A:Around}{E:Value->Shared->Prop}{H H':Hp}{P prog:Program}{T id:String}{X:Cx}{a b p:Addr}{aa:List (Addr×Obj)}{ac its':List Value}{e:Expr}{i:Int}{kvs:List (List Key×V)}{n t':Nat}{o:Option V}{pos:Pos}{s:Shared}{u v:Value}{w:World}{x y:V}{xs:List (List Key×Addr×Value)}{σ:St}
open PySem PySem.Spec PyProof.Rows
abbrev TO:=St->Hp->(Option Int->Hp->Prop)->Prop
def PO (X:Cx) (e:Option Expr) (t:TO):Prop:=
 ∀ (aa:List (Addr×Obj)) (s:Shared) (σ:St) (H:Hp) (Q:Option Int->Hp->Prop),Inv X aa σ H s->t σ H Q ->
  wpAny (model X.prog X.w) X.A (evalPart e X.env) (fun u s'=>∃ o H',Inv X aa σ H' s'/\IsPart u o/\Q o H') X.xe s
def Jq:TO:=fun _ H Q=>Q none H
def tPart (t:TE):TO:=fun σ H Q=>t σ H fun x H1=>∃ i,x=.int i/\Q (some i) H1
section
variable {te:TE}{lo hi:Option Expr}{tl th:TO}{p2:Pos}
theorem AJ:PO X none Jq:=by
 intro aa s σ H Q I h;rw[evalPart_none];exact Mb ⟨none,H,I,.none,h⟩
theorem n8 (h:PE X e te):PO X (some e) (tPart te):=by
 intro aa s σ H Q I hw;rw[evalPart_some];refine thn (h aa s σ H _ I hw) fun u s1=>L2.ex5 fun x H1 I1 r1 q1=>?_
 obtain⟨i,rfl,q⟩:=q1;obtain⟨t,rfl⟩:=r1;exact⟨some i,H1,I1,.int i t,q⟩
def SlR (X:Cx) (r:V->Option Int->Option Int->Hp->VK->Prop):Prop:=
 ∀ (aa:List (Addr×Obj)) (s:Shared) (σ:St) (H:Hp) (x:V) (v vl vu:Value) (lo hi:Option Int) (sl:Addr) (Q:VK),Inv X aa σ H s->ay x v->s.heap.IsSliceOf sl vl vu .none->IsPart vl lo->IsPart vu hi->r x lo hi H Q ->
  ∃ T id,typeLookup (.type T) "__getitem__"=pure (some (.builtin id))/\s.TypeIs v T/\wpAny (model X.prog X.w) X.A (getItem v (.ref sl)) (EP X aa σ Q) X.xe s
def tSl (r:V->Option Int->Option Int->Hp->VK->Prop) (te:TE) (tl th:TO):TE:=fun σ H Q=>te σ H fun x H1=>tl σ H1 fun l H2=>th σ H2 fun u H3=>r x l u H3 Q
theorem tK {r:V->Option Int->Option Int->Hp->VK->Prop} (hr:SlR X r) (he:PE X e te) (hl:PO X lo tl) (hu:PO X hi th):PE X (.Subscript e (.Slice lo hi none p2) pos) (tSl r te tl th):=by
 intro aa s σ H Q I h;refine Subscript_ (thn (he aa s σ H _ I h) fun v s1=>L2.ex5 fun x H1 I1 r1 q1=>?_);refine wpAny_Slice (thn (hl aa s1 σ H1 _ I1 q1) fun vl s2 ⟨l,H2,I2,pl,q2⟩=>thn (hu aa s2 σ H2 _ I2 q2) fun vu s3=>L2.ex5 fun u H3 I3 pu q3=>?_);rw[evalPart_none];refine Mb ?_;have I4:Inv X aa σ H3 { s3 with heap:=s3.heap.push { cls:=.type "slice",data:=.fields #[vl,vu,.none] } }:=I3.kept (t':=s3.toks) fun b ob q=>Ma _ q
 obtain⟨T,id,hT,ht,hg⟩:=hr aa { s3 with heap:=s3.heap.push { cls:=.type "slice",data:=.fields #[vl,vu,.none] } } σ H3 x v vl vu l u s3.heap.objs.size Q I4 r1 (Heap.IsSliceOf.new ..) pl pu q3;show wpAny (model X.prog X.w) X.A (subscriptTail e (.Slice lo hi none p2) v (.ref s3.heap.objs.size)) (EP X aa σ Q) X.xe { s3 with heap:=s3.heap.push { cls:=.type "slice",data:=.fields #[vl,vu,.none] } };exact tail_any (ops:=[.ref s3.heap.objs.size,v]) ht hT hg (by with_unfolding_all rfl)
def d5 (xs:List V) (lo hi:Option Int):List V:=(xs.drop (HT.sIx xs.length 0 lo)).take (HT.sIx xs.length xs.length hi - HT.sIx xs.length 0 lo)
theorem Kf (xs:List V) (lo hi:Option Int):(d5 xs lo hi).length<=xs.length:=by
 unfold d5;rw[Ml,Nl];omega
end
def ixN (n:Nat) (i:Int):Option Nat:=if 0<=i then(if i<n then some i.toNat else none) else if -(n:Int)<=i then some (i + n).toNat else none
def atI {α:Type} (xs:List α) (i:Int):Option α:=(ixN xs.length i).bind fun j=>xs[j]?
theorem we {j:Nat} (h:ixN n i=some j):seqIndex? i n=some j/\j<n/\-(n:Int)<=i/\i<n:=by
 unfold ixN at h;by_cases h0:0<=i
 ·rw[if_pos h0] at h
  by_cases h1:i<n
  ·rw[if_pos h1] at h
   have e:i.toNat=j:=Option.some.inj h;exact⟨by rw[seqIndex_of h0 h1,e],by omega,by omega,h1⟩
  ·rw[if_neg h1] at h;cases h
 ·rw[if_neg h0] at h
  by_cases h1:-(n:Int)<=i
  ·rw[if_pos h1] at h
   have e:(i + n).toNat=j:=Option.some.inj h;exact⟨by rw[seqIndex_neg (by omega) h1,e],by omega,h1,by omega⟩
  ·rw[if_neg h1] at h;cases h
theorem zW {α:Type}{xs:List α}{v:α} (h:atI xs i=some v):∃ j,seqIndex? i xs.length=some j/\xs[j]?=some v/\j<xs.length/\-(xs.length:Int)<=i/\i<xs.length:=by
 unfold atI at h;cases e:ixN xs.length i with
 | none=>rw[e] at h;cases h
 | some j=>
  rw[e] at h;obtain⟨h1,h2,h3,h4⟩:=we e;exact⟨j,h1,h,h2,h3,h4⟩
def HB (b:Expr):Prop:=∀ o i,subscripted b false o i=operate [o,i] (getItem o i)
def IxR (X:Cx) (r:R2):Prop:=
 ∀ (value slice:Expr) (aa:List (Addr×Obj)) (s:Shared) (σ:St) (H:Hp) (x y:V) (v u:Value) (Q:VK),Inv X aa σ H s->ay x v->ay y u->r x y H Q ->
  subscripted slice false v u=operate [v,u] (getItem v u)->wpAny (model X.prog X.w) X.A (subscriptTail value slice v u) (EP X aa σ Q) X.xe s
def MtR (X:Cx) (id:String) (r:V->List V->Hp->VK->Prop):Prop:=
 ∀ (aa:List (Addr×Obj)) (s:Shared) (σ:St) (H:Hp) (x:V) (xs:List V) (v:Value) (us:List Value) (Q:VK),Inv X aa σ H s->ay x v->av xs us->r x xs H Q ->
  wpAny (model X.prog X.w) X.A (call (.builtin id) (v::us)) (EP X aa σ Q) X.xe s
section
variable {a b:Expr}{ta tb:TE}
theorem aF {r:R2} (hr:IxR X r) (ha:PE X a ta) (hb:PE X b tb) (hs:HB b):PE X (.Subscript a b pos) (tOp r ta tb):=by
 intro aa s σ H Q I h;exact Subscript_ (binT ha hb I h fun v u s2 x y H2 I2 rx ry q=>hr a b aa s2 σ H2 x y v u Q I2 rx ry q (hs _ _))
def rIxL (K:PySem.W.Frag):R2:=fun x y H Q=>∃ p xs i v,x=.ref p/\y=.int i/\SqL K H p xs/\atI xs i=some v/\Q v H
def rIxT (K:PySem.W.Frag):R2:=fun x y H Q=>∃ p xs i v,x=.ref p/\y=.int i/\SqT K H p xs/\atI xs i=some v/\Q v H
theorem bC:IxR X (rIxL X.K):=by
 intro value slice aa s σ H x y v u Q I rx ry h hs;obtain⟨p,xs,i,z,rfl,rfl,hq,he,q⟩:=h;cases rx
 obtain⟨t,rfl⟩:=ry;obtain⟨ac,r,pl,hz⟩:=I.list hq;obtain⟨j,h1,h2,h3,h4,h5⟩:=zW he;obtain⟨w,ew,eA⟩:=r.get h2;have hl:=r.length;have hn:=on;have fin:EP X aa σ Q w s:=⟨z,H,I,eA,q⟩;by_cases h0:0<=i
 ·have hj:i.toNat=j:=by
   rw[seqIndex_of h0 h5] at h1;exact Option.some.inj h1
  exact item_listR pl.isList h0 (by omega) (by rw[hj];simpa using ew) fin hs
 ·have hj:(i + (ac.toArray.size:Int)).toNat=j:=by
   rw[seqIndex_neg (by omega) h4] at h1;rw[Mp,<- hl];exact Option.some.inj h1
  exact subscriptTail_builtinR (x:=w) pl.isList.typeIs slot_list_getitem.lookup
   (wpAny_getItem_list_neg (Q:=fun r s'=>r=w/\EP X aa σ Q r s') pl.isList (by omega) (by rw[Mp] <;> omega) (by omega) (by rw[hj];simpa using ew) ⟨Y,fin⟩) hs
theorem cB:IxR X (rIxT X.K):=by
 intro value slice aa s σ H x y v u Q I rx ry h hs;obtain⟨p,xs,i,z,rfl,rfl,hq,he,q⟩:=h;cases rx
 obtain⟨t,rfl⟩:=ry;obtain⟨ac,r,pl,hz⟩:=I.tuple hq;obtain⟨j,h1,h2,h3,h4,h5⟩:=zW he;obtain⟨w,ew,eA⟩:=r.get h2;have hl:=r.length;have hn:=on;have fin:EP X aa σ Q w s:=⟨z,H,I,eA,q⟩;exact subscriptTail_builtinR (x:=w) pl.typeIs slot_tuple_getitem.lookup
  (getItem_tuple (j:=j) (Q:=fun r s'=>r=w/\EP X aa σ Q r s') pl (by omega) (by omega) (by rw[Mp,<- hl];exact h1) (by simpa using ew) ⟨Y,fin⟩) hs
theorem Kt (ac:List Value) (n j:Nat) (u:Value):Obj.mapSeq (·.setIfInBounds j u) { cls:=.type "list",data:=.seq ac.toArray n }={ cls:=.type "list",data:=.seq (ac.set j u).toArray n }:=by
 simp[Obj.mapSeq]
theorem Inv.lst {aa:List (Addr×Obj)}{σ:St}{H:Hp}{s:Shared}{p:Addr}{xs:List V} (I:Inv X aa σ H s) (h:H p=some (.lst xs)) :
  ∃ (ac:List Value) (n:Nat),av xs ac/\s.heap.get? p=some { cls:=.type "list",data:=.seq ac.toArray n }/\xs.length<=sizeLine:=by
 obtain⟨z,ac,n,r,e⟩:=I.hok p _ h;exact⟨ac,n,r,e,z⟩
theorem Inv.lstUpd {xs ys:List V}{n':Nat}{f:Obj->Obj} (I:Inv X aa σ H s) (h:H p=some (.lst xs))
  (ho:s.heap.get? p=some { cls:=.type "list",data:=.seq ac.toArray n }) (hf:f { cls:=.type "list",data:=.seq ac.toArray n }={ cls:=.type "list",data:=.seq its'.toArray n' }) (r:av ys its') (hz:ys.length<=sizeLine) (t:Nat) :
  Inv X aa σ (upd H p (.lst ys)) { s with heap:=s.heap.update p f,toks:=t }:=by
 have e:(s.heap.update p f).get? p=some { cls:=.type "list",data:=.seq its'.toArray n' }:=by
  rw[MJ f ho (by rw[hf] <;> rfl),hf]
 refine I.write (x:=p) (e:=p) (by rw[h];trivial) (.inl rfl) (fun b u hb q=>(Mw _ _ (Ne.symm hb)).trans q) ⟨_,e⟩ ?_;exact⟨hz,its',n',r,e⟩
def rSetL:V->V->V->Hp->(Hp->Prop)->Prop:=fun o i v H Q=>∃ p xs k j,o=.ref p/\i=.int k/\H p=some (.lst xs)/\ixN xs.length k=some j/\Q (upd H p (.lst (xs.set j v)))
theorem HJ:PSet X rSetL:=by
 intro aa s σ H o i v ov iv u Q I ro ri rv h;obtain⟨p,xs,k,j,rfl,rfl,hp,hj,q⟩:=h;cases ro
 obtain⟨t,rfl⟩:=ri;obtain⟨ac,n,r,ho,hz⟩:=I.lst hp;obtain⟨h1,h2,h3,h4⟩:=we hj;have hl:=r.length;have hn:=on;have I':Inv X aa σ (upd H p (.lst (xs.set j v))) { s with heap:=s.heap.update p (Obj.mapSeq (·.setIfInBounds j u)) }:=
  I.lstUpd hp ho (Kt ac n j u) (r.set rv j) (by rw[OX];exact hz) s.toks
 by_cases h0:0<=k
 ·have hk:k.toNat=j:=by
   rw[seqIndex_of h0 h4] at h1;exact Option.some.inj h1
  exact PySem.W.ki_setAt ho h0 (by omega) (by rw[Mp,<- hl];exact h4) (by rw[hk];exact⟨_,I',q⟩)
 ·have hk:(k + (ac.toArray.size:Int)).toNat=j:=by
   rw[seqIndex_neg (by omega) h3] at h1;rw[Mp,<- hl];exact Option.some.inj h1
  exact PySem.W.ki_setBack ho (by omega) (by rw[Mp,<- hl];exact h3) (by omega) (by rw[hk];exact⟨_,I',q⟩)
theorem KD (lo hi:Option Int) (n:Nat):(sliceBounds lo hi none n).1=((HT.sIx n 0 lo:Nat):Int)/\(sliceBounds lo hi none n).2.1=((HT.sIx n n hi:Nat):Int)/\(sliceBounds lo hi none n).2.2=1:=by
 refine⟨?_,?_,Y⟩
 ·cases lo with
  | none=>simp[sliceBounds,HT.sIx]
  | some i=>
   simp only[sliceBounds,HT.sIx,Option.getD_none,show(1:Int) > 0 by decide,if_true]
   by_cases h:i<0
   ·simp only[h,if_true] <;> omega
   ·simp only[h,if_false] <;> omega
 ·cases hi with
  | none=>simp[sliceBounds,HT.sIx]
  | some i=>
   simp only[sliceBounds,HT.sIx,Option.getD_none,show(1:Int) > 0 by decide,if_true]
   by_cases h:i<0
   ·simp only[h,if_true] <;> omega
   ·simp only[h,if_false] <;> omega
theorem Jt (ac:List Value) (lo hi:Option Int):slicePick ac.toArray lo hi none=((ac.drop (HT.sIx ac.length 0 lo)).take (HT.sIx ac.length ac.length hi - HT.sIx ac.length 0 lo)).toArray:=by
 obtain⟨h1,h2,h3⟩:=KD lo hi ac.toArray.size;unfold slicePick;rw[h1,h2,h3];simp only[sliceRange_one,pick_run,Mp] <;> rfl
def rSlL (K:PySem.W.Frag):V->Option Int->Option Int->Hp->VK->Prop:=fun x lo hi H Q=>∃ a xs,x=.ref a/\SqL K H a xs/\∀ p,H p=none->Q (.ref p) (upd H p (.lst (d5 xs lo hi)))
theorem tW:SlR X (rSlL X.K):=by
 intro aa s σ H x v vl vu lo hi sl Q I rx hs pl pu h;obtain⟨a,xs,rfl,hx,q⟩:=h;cases rx
 obtain⟨ac,r,ht,hz⟩:=I.list hx;have az:=r.length;refine⟨"list",_,slot_list_getitem.lookup,ht.isList.typeIs,?_⟩;refine wpAny_getItem_list_slice ht.isList hs pl pu .none (by simp) ?_ (by rw[Mp] <;> omega);rw[Jt,<- az];refine⟨.ref s.heap.objs.size,_,I.laid (t':=s.toks) (o:=.lst (d5 xs lo hi)) (fun b ob q=>Ma _ q) (Md _) ?_,Y,q _ (I.hok.fresh (Md _))⟩;exact⟨MN (Kf xs lo hi) hz,_,0,(r.drop (HT.sIx xs.length 0 lo)).take (HT.sIx xs.length xs.length hi - HT.sIx xs.length 0 lo),Mi _ Y⟩
def gW:V->Bool
 | .non=>true
 | .bl _=>true
 | .int _=>true
 | .str _=>true
 | _=>false
def eqV:V->V->Bool
 | .non,.non=>true
 | .bl a,.bl b=>a == b
 | .bl a,.int b=>(if a then 1 else 0) == b
 | .int a,.bl b=>a == (if b then 1 else 0)
 | .int a,.int b=>a == b
 | .str a,.str b=>a == b
 | _,_=>false
theorem eE  (ry:ay y u) (rx:ay x v) (fy:gW y=true) (fx:gW x=true):SeqAt.EqAt A s u v (eqV y x):=by
 cases y with
 | non=>
  cases ry
  cases x with
  | non=>cases rx;exact SeqAt.EqAt.same _
  | bl b=>cases rx;exact SeqAt.EqAt.none_bool b
  | int b=>obtain⟨t,rfl⟩:=rx;exact SeqAt.EqAt.none_int b t
  | str b=>obtain⟨t,rfl⟩:=rx;exact SeqAt.EqAt.none_str b t
  | _=>exact absurd (show false=true from fx) Mq
 | bl a=>
  cases ry
  cases x with
  | non=>cases rx;exact SeqAt.EqAt.bool_none a
  | bl b=>cases rx;exact SeqAt.EqAt.bool_bool a b
  | int b=>obtain⟨t,rfl⟩:=rx;exact SeqAt.EqAt.bool_int a b t
  | str b=>obtain⟨t,rfl⟩:=rx;exact SeqAt.EqAt.bool_str a b t
  | _=>exact absurd (show false=true from fx) Mq
 | int a=>
  obtain⟨t',rfl⟩:=ry;cases x with
  | non=>cases rx;exact SeqAt.EqAt.int_none a t'
  | bl b=>cases rx;exact SeqAt.EqAt.int_bool a t' b
  | int b=>obtain⟨t,rfl⟩:=rx;exact SeqAt.EqAt.int_int a t' b t
  | str b=>obtain⟨t,rfl⟩:=rx;exact SeqAt.EqAt.int_str a t' b t
  | _=>exact absurd (show false=true from fx) Mq
 | str a=>
  obtain⟨t',rfl⟩:=ry;cases x with
  | non=>cases rx;exact SeqAt.EqAt.str_none a t'
  | bl b=>cases rx;exact SeqAt.EqAt.str_bool a t' b
  | int b=>obtain⟨t,rfl⟩:=rx;exact SeqAt.EqAt.str_int a t' b t
  | str b=>obtain⟨t,rfl⟩:=rx;exact SeqAt.EqAt.str_str a t' b t
  | _=>exact absurd (show false=true from fx) Mq
 | _=>exact absurd (show false=true from fy) Mq
def eqU (x:V) (u:Value):Bool:=match u with
 | .none=>eqV .non x
 | .bool b=>eqV (.bl b) x
 | .int i _=>eqV (.int i) x
 | .str z _=>eqV (.str z) x
 | _=>false
theorem CB  (r:ay y u) (f:gW y=true):eqU x u=eqV y x:=by
 cases y with
 | non=>cases r;rfl
 | bl b=>cases r;rfl
 | int i=>obtain⟨t,rfl⟩:=r;rfl
 | str z=>obtain⟨t,rfl⟩:=r;rfl
 | _=>exact absurd (show false=true from f) Mq
theorem qQ {x:V}:∀ {xs:List V}{us:List Value},av xs us->xs.all gW=true->us.any (eqU x)=xs.any fun y=>eqV y x
 | _,_,.nil,_=>rfl
 | y::xs,u::us,.cons r t,f=>by
  rw[Ob,Mz] at f;rw[Oc,Oc,CB r f.1,qQ t f.2]
theorem qX {A:Around}{s:Shared}{x:V}{v:Value} (rx:ay x v) (fx:gW x=true):∀ {xs:List V}{us:List Value},av xs us->xs.all gW=true->∀ u∈us,SeqAt.EqAt A s u v (eqU x u)
 | _,_,.nil,_=>fun u hu=>by cases hu
 | y::xs,u::us,.cons r t,f=>fun u' hu=>by
  rw[Ob,Mz] at f;rcases M5.mp hu with rfl|hu
  ·rw[CB r f.1];exact eE r rx f.1 fx
  ·exact qX rx fx t f.2 u' hu
def inV (x:V) (xs:List V):Bool:=xs.any fun y=>eqV y x
def rIn (K:PySem.W.Frag) (pM:Bool):R2:=fun x y H Q=>∃ p xs,y=.ref p/\(SqL K H p xs\/SqT K H p xs)/\gW x=true/\xs.all gW=true/\Q (.bl (if pM then !inV x xs else inV x xs)) H
theorem Gn:OpR X (compareOp .In) (rIn X.K false):=by
 intro aa s σ H x y v u Q I rx ry h;obtain⟨p,xs,rfl,hq,fx,fs,q⟩:=h;cases ry
 rcases hq with hq|hq
 ·obtain⟨ac,r,pl,hz⟩:=I.list hq
  refine SeqAt.in_listAt (eqU x) pl.isList (fun w hw=>qX rx fx r fs w (by simpa using hw)) ⟨.bl _,H,I,Y,?_⟩;rw[show ac.toArray.any (eqU x)=ac.any (eqU x) by simp,qQ r fs];exact q
 ·obtain⟨ac,r,pl,hz⟩:=I.tuple hq
  refine SeqAt.in_tupleAt (eqU x) pl (fun w hw=>qX rx fx r fs w (by simpa using hw)) ⟨.bl _,H,I,Y,?_⟩;rw[show ac.toArray.any (eqU x)=ac.any (eqU x) by simp,qQ r fs];exact q
theorem Gz:OpR X (compareOp .NotIn) (rIn X.K true):=by
 intro aa s σ H x y v u Q I rx ry h;obtain⟨p,xs,rfl,hq,fx,fs,q⟩:=h;cases ry
 rcases hq with hq|hq
 ·obtain⟨ac,r,pl,hz⟩:=I.list hq
  refine SeqAt.notIn_listAt (eqU x) pl.isList (fun w hw=>qX rx fx r fs w (by simpa using hw)) ⟨.bl _,H,I,Y,?_⟩;rw[show ac.toArray.any (eqU x)=ac.any (eqU x) by simp,qQ r fs];exact q
 ·obtain⟨ac,r,pl,hz⟩:=I.tuple hq
  refine SeqAt.notIn_tupleAt (eqU x) pl (fun w hw=>qX rx fx r fs w (by simpa using hw)) ⟨.bl _,H,I,Y,?_⟩;rw[show ac.toArray.any (eqU x)=ac.any (eqU x) by simp,qQ r fs];exact q
theorem eG:fP X (.builtin "len") (fun xs H Q=>∃ p ys,xs=[.ref p]/\(SqL X.K H p ys\/SqT X.K H p ys)/\Q (.int ys.length) H):=by
 intro aa s σ H xs us Q I r h;obtain⟨p,ys,rfl,hq,q⟩:=h;obtain⟨u,rfl,rx⟩:=eV r;cases rx
 have hn:=on;rcases hq with hq|hq
 ·obtain⟨ac,r',pl,hz⟩:=I.list hq
  have az:=r'.length;exact Calls.call_len_list pl.isList (by simp only[Mp] <;> omega) ⟨.int ys.length,H,I.tok _,⟨s.toks + 1,by rw[Mp,az]⟩,q⟩
 ·obtain⟨ac,r',pl,hz⟩:=I.tuple hq
  have az:=r'.length;exact len_tuple pl (by simp only[Mp] <;> omega) ⟨.int ys.length,H,I.tok _,⟨s.toks + 1,by rw[Mp,az]⟩,q⟩
theorem CP:fP X (.builtin "len") (fun xs H Q=>∃ z,xs=[.str z]/\z.length<=sizeLine/\Q (.int z.length) H):=by
 intro aa s σ H xs us Q I r h;obtain⟨z,rfl,hz,q⟩:=h;obtain⟨u,rfl,t,rfl⟩:=eV r;have hn:=on;exact len_str (by omega) ⟨.int z.length,H,I.tok _,⟨_,Y⟩,q⟩
def tyV (K:PySem.W.Frag) (T:String) (x:V) (H:Hp):Prop:=match x with
 | .str _=>T="str"
 | .int _=>T="int"
 | .ref p=>(T="list"/\∃ xs,SqL K H p xs)\/(T="tuple"/\∃ o,K.lookup p=some o/\o.cls=.type "tuple"/\o.dict=none) \/
   (T="dict"/\((∃ kvs,H p=some (.dK kvs))\/∃ kvs,H p=some (.dT kvs)))\/(T="set"/\∃ S n,H p=some (.set S n))
 | _=>False
theorem As  (I:Inv X aa σ H s) (r:ay x v) (ty:tyV X.K T x H) :
  s.TypeIs v T/\∀ a,v=.ref a->∃ ob,s.heap.get? a=some ob/\ob.dict=none:=by
 cases x with
 | str z=>
  obtain⟨t,rfl⟩:=r;cases (show T="str" from ty)
  exact⟨typeIs_str s z t,fun _ e=>nomatch e⟩
 | int i=>
  obtain⟨t,rfl⟩:=r;cases (show T="int" from ty)
  exact⟨typeIs_int s i t,fun _ e=>nomatch e⟩
 | ref p=>
  cases r
  rcases ty with⟨rfl,xs,hq⟩|⟨rfl,o,hk,hc,hd⟩|⟨rfl,hk⟩|⟨rfl,S,n,hk⟩
  ·obtain⟨ac,_,pl,_⟩:=I.list hq
   refine⟨pl.isList.typeIs,fun a e=>?_⟩;cases e
   obtain⟨o,n,e,c,hd,_⟩:=pl;exact⟨o,e,hd⟩
  ·refine⟨⟨o,I.kIn p o hk,hc⟩,fun a e=>?_⟩
   cases e
   exact⟨o,I.kIn _ o hk,hd⟩
  ·have z:∃ o,s.heap.get? p=some o/\o.ExactDict:=by
    rcases hk with⟨kvs,hk⟩|⟨kvs,hk⟩
    ·obtain⟨_,_,_,_,o,_,_,e,ex,_⟩:=I.hok p _ hk
     exact⟨o,e,ex⟩
    ·obtain⟨_,_,_,_,o,_,_,e,ex,_⟩:=I.hok p _ hk
     exact⟨o,e,ex⟩
   obtain⟨o,e,ex⟩:=z;refine⟨⟨o,e,ex.1⟩,fun a e2=>?_⟩;cases e2
   exact⟨o,e,ex.2.1⟩
  ·obtain⟨o,_,_,_,e,ex,_⟩:=I.hok p _ hk
   refine⟨⟨o,e,ex.1⟩,fun a e2=>?_⟩;cases e2
   exact⟨o,e,ex.2.1⟩
 | _=>exact False.elim ty
def tBM0 (K:PySem.W.Frag) (T:String) (r:V->List V->Hp->VK->Prop) (to:TE):TE:=fun σ H Q=>to σ H fun x H1=>tyV K T x H1/\r x [] H1 Q
def tBM (K:PySem.W.Frag) (T:String) (r:V->List V->Hp->VK->Prop) (to:TE) (t:TA):TE:=fun σ H Q=>to σ H fun x H1=>tyV K T x H1/\t σ H1 fun xs H2=>r x xs H2 Q
variable {o:Expr}{es:List Expr}{to:TE}{t:TA}{name:Str}{aK aC:Pos}{r:V->List V->Hp->VK->Prop}
theorem sJ (pa:PlainAttrs T) (slot:Slot T name id) (uG:typeOf (.builtin id)=pure (.type "method_descriptor")) (hm:MtR X id r) (ho:PE X o to)
  (ia:attributeBase o name X.env (eval o X.env)=eval o X.env:=by rfl) (g8:(aK.endLine == aC.line)=true:=by rfl):PE X (.Call (.Attribute o name aK) [] [] aC) (tBM0 X.K T r to):=by
 intro aa s σ H Q I h;refine wpAny_Call_method0_late ia g8 (thn (ho aa s σ H _ I h) fun v s1=>L2.ex5 fun x H1 I1 r1 aX=>?_);obtain⟨ty,q1⟩:=aX;obtain⟨h1,h2⟩:=As I1 r1 ty;exact⟨T,id,pa,slot,uG,h1,h2,Calls.callWith_builtin Y (PySem.evalArgs_none (hm aa s1 σ H1 x [] v [] Q I1 r1 .nil q1))⟩
theorem dL (pa:PlainAttrs T) (slot:Slot T name id) (uG:typeOf (.builtin id)=pure (.type "method_descriptor")) (hm:MtR X id r) (ho:PE X o to) (ha:PA X (e::es) t)
  (ia:attributeBase o name X.env (eval o X.env)=eval o X.env:=by rfl)
  (vv:((backTo aC (starEach (e::es) X.env)).all (fun x=>!x.1) && (backToKw aC (keywordEach [] X.env)).all (fun x=>x.1.isSome)
   && decide ((e::es).length + ([]:List Keyword).length + (if ([]:List Keyword).isEmpty then 0 else 1)<30))=true:=by rfl)
  (g8:(aK.endLine == aC.line)=true:=by rfl) (hs:starEach (e::es) X.env=(false,eval e X.env)::starEach es X.env:=by rfl) (lW:(backTo aC (starEach es X.env)).any (·.1)=false:=by rfl) :
  PE X (.Call (.Attribute o name aK) (e::es) [] aC) (tBM X.K T r to t):=by
 intro aa s σ H Q I h;refine wpAny_Call_method_late ia vv g8 Y (thn (ho aa s σ H _ I h) fun v s1=>L2.ex5 fun x H1 I1 r1 aX=>?_);obtain⟨ty,q1⟩:=aX;obtain⟨h1,h2⟩:=As I1 r1 ty;refine⟨T,id,pa,slot,uG,h1,h2,?_⟩;have hA:=ha aC aa s1 σ H1 _ I1 q1;rw[hs] at hA ⊢;refine Calls.callWith_builtin (by show(false || (backTo aC (starEach es X.env)).any (·.1))=false;rw[lW] <;> rfl) (Calls.evalArgs_plain ?_);exact thn hA fun us s2=>L2.ex5 fun vs H2 I2 r2 q2=>hm aa s2 σ H2 x vs v us Q I2 r1 r2 q2
end
def MtM (X:Cx) (id:String) (r:V->List V->Hp->VK->Prop):Prop:=
 ∀ (aa:List (Addr×Obj)) (s:Shared) (σ:St) (H:Hp) (x:V) (xs:List V) (v:Value) (us:List Value) (Q:VK),Inv X aa σ H s->ay x v->av xs us->r x xs H Q ->
  wpAny (model X.prog X.w) X.A (call (.builtin id) (v::us)) (EP X aa σ Q) X.xe s
theorem av.one:∀ {x:V}{us:List Value},av [x] us->∃ u,us=[u]/\ay x u
 | _,_,.cons r .nil=>⟨_,Y,r⟩
theorem av.zero:∀ {us:List Value},av [] us->us=[]
 | _,.nil=>rfl
theorem av.eraseIdx:∀ {xs:List V}{us:List Value} (i:Nat),av xs us->av (xs.eraseIdx i) (us.eraseIdx i)
 | _,_,_,.nil=>.nil
 | _,_,0,.cons _ t=>t
 | _,_,i + 1,.cons r t=>.cons r (av.eraseIdx i t)
theorem A6 {α:Type}:∀ (l:List α) (i:Nat),(l.eraseIdx i).length<=l.length
 | [],_=>Md _
 | _::_,0=>M3 _
 | _::r,i + 1=>Nat.succ_le_succ (A6 r i)
section
variable {l:Addr}{xs ys zs:List V}
theorem Inv.lset {f:Array Value->Array Value} (I:Inv X aa σ H s) (hH:H l=some (.lst xs))
  (e:s.heap.get? l=some { cls:=.type "list",data:=.seq ac.toArray n }) (hf:f ac.toArray=its'.toArray) (hv:av ys its') (hz:ys.length<=sizeLine) :
  Inv X aa σ (upd H l (.lst ys)) { s with heap:=s.heap.update l (Obj.mapSeq f),toks:=t' }:=by
 have q:=PySem.IsL.update e f;rw[hf] at q;refine I.write (x:=l) (e:=l) (by rw[hH];exact trivial) (.inl Y) (fun b' u hb hu=>(Mw s.heap (Obj.mapSeq f) (Ne.symm hb)).trans hu) ⟨_,q⟩ ?_;exact⟨hz,its',_,hv,q⟩
theorem Inv.lnew  (I:Inv X aa σ H s) (hv:av ys ac) (hz:ys.length<=sizeLine) :
  Inv X aa σ (upd H s.heap.objs.size (.lst ys)) { s with heap:=s.heap.push { cls:=.type "list",data:=.seq ac.toArray },toks:=t' }:=
 I.laid (fun _ _ q=>Ma _ q) (Md _) ⟨hz,ac,0,hv,Mi _ Y⟩
theorem Inv.fresh (I:Inv X aa σ H s):H s.heap.objs.size=none:=I.hok.fresh (Md _)
theorem Inv.lstM (I:Inv X aa σ H s) (hH:H l=some (.lst xs)):xs.length<=sizeLine/\∃ (ac:List Value) (n:Nat),av xs ac/\xs.length=ac.length/\s.heap.get? l=some { cls:=.type "list",data:=.seq ac.toArray n }:=by
 obtain⟨z,ac,n,r,e⟩:=I.hok l _ hH;exact⟨z,ac,n,r,r.length,e⟩
theorem Km  (h:n<=sizeLine):Builtin.List.listTooLong n=false:=by
 unfold Builtin.List.listTooLong;exact ME (by omega)
end
def Hk:V->List V->Hp->VK->Prop:=fun x vs H Q=>∃ l xs y,x=.ref l/\vs=[y]/\H l=some (.lst xs)/\xs.length<sizeLine/\Q .non (upd H l (.lst (xs++[y])))
theorem gj:MtM X "list.append" Hk:=by
 intro aa s σ H x vs v us Q I rx rv h;obtain⟨l,xs,y,rfl,rfl,hH,hz,q⟩:=h;cases rx
 obtain⟨u,rfl,ru⟩:=rv.one;obtain⟨z,ac,n,r,hl,e⟩:=I.lstM hH;refine call_meets F.slot_list_append ⟨_,e,Y⟩ F.entry_list_append (F.args_list_append_2 _ _) (PySem.list_append l ac.toArray n u (by rw[Mp];omega)) ⟨e,?_⟩;refine⟨.non,_,I.lset (its':=ac++[u]) hH e (by simp) (r.append (.cons ru .nil)) ?_,Y,q⟩;rw[Mg,O8];omega
def Hc:V->List V->Hp->VK->Prop:=fun x vs H Q=>∃ l b xs zs,x=.ref l/\vs=[.ref b]/\H l=some (.lst xs)/\H b=some (.lst zs)/\xs.length + zs.length<=sizeLine/\Q .non (upd H l (.lst (xs++zs)))
theorem Hs:MtM X "list.extend" Hc:=by
 intro aa s σ H x vs v us Q I rx rv h;obtain⟨l,b,xs,zs,rfl,rfl,hH,hB,hz,q⟩:=h;cases rx
 obtain⟨u,rfl,ru⟩:=rv.one;cases ru
 obtain⟨z,ac,n,r,hl,e⟩:=I.lstM hH;obtain⟨z2,fe,n2,r2,kh,e2⟩:=I.lstM hB;have hsz:ac.toArray.size + fe.toArray.size<=sizeLine:=by rw[Mp,Mp];omega
 have pL:¬ (!ac.toArray.isEmpty && Builtin.List.listTooLong (ac.toArray.size + fe.toArray.size))=true:=by
  rw[Km hsz,Bool.and_false];exact Mq
 refine call_meets F.slot_list_extend ⟨_,e,Y⟩ F.entry_list_extend (F.args_list_extend_2 _ _)
  (AutoSeq1.list_extend_list_list_0 l ac.toArray n b fe.toArray n2 pL (by rw[Mp];omega) (by omega)) ⟨e,e2,?_⟩
 refine⟨.non,_,I.lset (its':=ac++fe) hH e (by simp) (r.append r2) ?_,Y,q⟩;rw[Mg];omega
def rPopAt:V->List V->Hp->VK->Prop:=fun x vs H Q=>∃ l xs i k y,x=.ref l/\vs=[.int i]/\H l=some (.lst xs)/\-(2 ^ 63)<=i/\i<2 ^ 63/\seqIndex? i xs.length=some k/\xs[k]?=some y/\Q y (upd H l (.lst (xs.eraseIdx k)))
theorem AT:MtM X "list.pop" rPopAt:=by
 intro aa s σ H x vs v us Q I rx rv h;obtain⟨l,xs,i,k,y,rfl,rfl,hH,h1,h2,hk,hy,q⟩:=h;cases rx
 obtain⟨u,rfl,ru⟩:=rv.one;obtain⟨t,rfl⟩:=ru;obtain⟨z,ac,n,r,hl,e⟩:=I.lstM hH;obtain⟨w,hw,eA⟩:=r.get hy;refine call_meets F.slot_list_pop ⟨_,e,Y⟩ F.entry_list_pop (F.args_list_pop_2 _ _)
  (MeetsSeq.list_pop_at l ac.toArray n i t k w (fitsIndex_both h1 h2) (by rw[Mp,<- hl];exact hk) (by rw[<- M9];exact hw) (by rw[Mp];omega)) ⟨e,?_⟩
 refine⟨y,_,I.lset (its':=ac.eraseIdx k) hH e ?_ (r.eraseIdx k) ?_,eA,q⟩
 ·show ac.toArray.eraseIdxIfInBounds k=(ac.eraseIdx k).toArray
  rw[List.eraseIdxIfInBounds_toArray]
 ·have:=A6 xs k
  omega
def rClear:V->List V->Hp->VK->Prop:=fun x vs H Q=>∃ l xs,x=.ref l/\vs=[]/\H l=some (.lst xs)/\Q .non (upd H l (.lst []))
theorem xA:MtM X "list.clear" rClear:=by
 intro aa s σ H x vs v us Q I rx rv h;obtain⟨l,xs,rfl,rfl,hH,q⟩:=h;cases rx
 have Fd:=rv.zero;subst Fd;obtain⟨z,ac,n,r,hl,e⟩:=I.lstM hH;refine call_meets F.slot_list_clear ⟨_,e,Y⟩ F.entry_list_clear (F.args_list_clear_1 _) (AutoSeq1.list_clear_list_0 l ac.toArray n (by rw[Mp];omega)) ⟨e,?_⟩;exact⟨.non,_,I.lset (its':=[]) (ys:=[]) hH e Y .nil (MW _),Y,q⟩
def rCat:R2:=fun x y H Q=>∃ l b xs zs,x=.ref l/\y=.ref b/\H l=some (.lst xs)/\H b=some (.lst zs)/\xs.length + zs.length<=sizeLine/\∀ p,H p=none->Q (.ref p) (upd H p (.lst (xs++zs)))
theorem rA:OpR X (binaryOp .Add) rCat:=by
 intro aa s σ H x y v u Q I rx ry h;obtain⟨l,b,xs,zs,rfl,rfl,hH,hB,hz,q⟩:=h;cases rx
 cases ry
 obtain⟨z,ac,n,r,hl,e⟩:=I.lstM hH;obtain⟨z2,fe,n2,r2,kh,e2⟩:=I.lstM hB;refine PySem.P.add_list e e2 ?_ (by rw[Mp,Mp];omega);have ea:ac.toArray++fe.toArray=(ac++fe).toArray:=by simp
 rw[ea];exact⟨.ref _,_,I.lnew (t':=s.toks) (r.append r2) (by rw[Mg];omega),Y,q _ I.fresh⟩
section
variable {κ:Type} [DecidableEq κ]
def bc (kvs:List (κ×V)) (k:κ):Option V:=(kvs.find? fun kv=>decide (kv.1=k)).map (·.2)
def dj (kvs:List (κ×V)) (k:κ) (v:V):List (κ×V):=
 if (kvs.any fun kv=>decide (kv.1=k))=true then kvs.map (fun kv=>if kv.1=k then(kv.1,v) else kv) else kvs++[(k,v)]
def gF (kvs:List (κ×V)) (k:κ):List (κ×V):=kvs.filter fun kv=>decide (kv.1≠k)
theorem gB {p:κ×V}{r:List (κ×V)}{k:κ} (e:p.1=k):bc (p::r) k=some p.2:=by simp[bc,NJ,e]
theorem eW {p:κ×V}{r:List (κ×V)}{k:κ} (e:¬ p.1=k):bc (p::r) k=bc r k:=by simp[bc,NJ,e]
theorem xj (k:κ):∀ kvs:List (κ×V),(kvs.any fun kv=>decide (kv.1=k))=(bc kvs k).isSome
 | []=>rfl
 | p::r=>by
  rw[Oc];by_cases e:p.1=k
  ·simp only[gB e,MH e,Bool.true_or,Option.isSome_some]
  ·rw[eW e,ME e,Bool.false_or];exact xj k r
theorem wS (k j:κ) (y:V):∀ kvs:List (κ×V),bc kvs k=none->bc (kvs++[(k,y)]) j=if j=k then some y else bc kvs j
 | [],_=>by
  by_cases e:k=j
  ·rw[if_pos e.symm];exact gB (p:=(k,y)) e
  ·rw[if_neg (fun z=>e z.symm)];exact eW (p:=(k,y)) e
 | p::r,hn=>by
  rw[List.cons_append];have hk:¬ p.1=k:=fun z=>by rw[gB z] at hn;cases hn
  rw[eW hk] at hn;have ih:=wS k j y r hn;by_cases e:p.1=j
  ·rw[gB e,gB e,if_neg (fun z=>hk (e.trans z))]
  ·rw[eW e,eW e,ih]
theorem sK (kvs:List (κ×V)) (k:κ) (v:V):(dj kvs k v).length<=kvs.length + 1:=by
 unfold dj;split
 ·rw[L9];omega
 ·rw[Mg,Mt,Oh];omega
theorem sW {kvs:List (κ×V)}{k:κ} (v:V) (h:bc kvs k=none):dj kvs k v=kvs++[(k,v)]:=by
 unfold dj;rw[xj,h];exact if_neg (by decide)
theorem du.isSome_eq {u:Option Value} (r:du o u):o.isSome=u.isSome:=by
 cases o with
 | none=>cases u with
  | none=>rfl
  | some _=>exact(show False from r).elim
 | some _=>cases u with
  | none=>exact(show False from r).elim
  | some _=>rfl
theorem du.getD {o:Option V}{u:Option Value}{d:V}{d':Value} (r:du o u) (rd:ay d d'):ay (o.getD d) (u.getD d'):=by
 cases o with
 | none=>cases u with
  | none=>exact rd
  | some _=>exact(show False from r).elim
 | some _=>cases u with
  | none=>exact(show False from r).elim
  | some _=>exact r
theorem KV.val {kvs:List (κ×V)}{vs:List (κ×Value)} (r:KV kvs vs) (k:κ):du (bc kvs k) (valueAt vs k):=by
 unfold KV at r
 induction r with
 | nil=>exact True.intro
 | @cons p q ps qs h t ih=>
  obtain⟨h1,h2⟩:=h;by_cases e:p.1=k
  ·have e':q.1=k:=h1.symm.trans e
   have b:valueAt (q::qs) k=some q.2:=by simp[valueAt,NJ,e']
   rw[gB e,b];exact h2
  ·have e':¬ q.1=k:=fun z=>e (h1.trans z)
   have b:valueAt (q::qs) k=valueAt qs k:=by simp[valueAt,NJ,e']
   rw[eW e,b];exact ih
theorem KV.any {kvs:List (κ×V)}{vs:List (κ×Value)} (r:KV kvs vs) (k:κ):(kvs.any fun kv=>decide (kv.1=k))=vs.any fun kv=>decide (kv.1=k):=by
 unfold KV at r
 induction r with
 | nil=>rfl
 | cons h t ih=>rw[Oc,Oc,ih,h.1]
theorem KV.repl {kvs:List (κ×V)}{vs:List (κ×Value)} (r:KV kvs vs) (k:κ) (ry:ay y u) :
  KV (kvs.map fun kv=>if kv.1=k then(kv.1,y) else kv) (vs.map fun kv=>if kv.1=k then(kv.1,u) else kv):=by
 unfold KV at r ⊢
 induction r with
 | nil=>exact .nil
 | @cons p q ps qs h t ih=>
  rw[MG,MG];refine .cons ?_ ih;obtain⟨h1,h2⟩:=h;by_cases e:p.1=k
  ·rw[if_pos e,if_pos (h1.symm.trans e)];exact⟨h1,ry⟩
  ·rw[if_neg e,if_neg (fun z=>e (h1.trans z))];exact⟨h1,h2⟩
theorem KV.put {kvs:List (κ×V)}{vs:List (κ×Value)} (r:KV kvs vs) (k:κ) (ry:ay y u):KV (dj kvs k y) (stored vs k u):=by
 unfold dj stored;rw[r.any k];by_cases e:(vs.any fun kv=>decide (kv.1=k))=true
 ·rw[if_pos e,if_pos e];exact r.repl k ry
 ·rw[if_neg e,if_neg e];exact Paired.snoc r ⟨Y,ry⟩
theorem KV.drop {kvs:List (κ×V)}{vs:List (κ×Value)} (r:KV kvs vs) (k:κ):KV (gF kvs k) (without vs k):=by
 unfold KV at r ⊢;unfold gF without
 induction r with
 | nil=>exact .nil
 | @cons p q ps qs h t ih=>
  obtain⟨h1,h2⟩:=h;rw[MD,MD];by_cases e:p.1=k
  ·have a:¬ decide (p.1≠k)=true:=by simp[e]
   have b:¬ decide (q.1≠k)=true:=by simp[h1.symm.trans e]
   rw[if_neg a,if_neg b];exact ih
  ·have e':¬ q.1=k:=fun z=>e (h1.trans z)
   have a:decide (p.1≠k)=true:=by simp[e]
   have b:decide (q.1≠k)=true:=by simp[e']
   rw[if_pos a,if_pos b];exact .cons ⟨h1,h2⟩ ih
theorem KV.keys {kvs:List (κ×V)}{vs:List (κ×Value)} (r:KV kvs vs):kvs.map (·.1)=vs.map (·.1):=by
 unfold KV at r
 induction r with
 | nil=>rfl
 | cons h t ih=>rw[MG,MG,ih,h.1]
theorem KV.length {kvs:List (κ×V)}{vs:List (κ×Value)} (r:KV kvs vs):kvs.length=vs.length:=Paired.length r
theorem JT (kvs:List (κ×V)) (k:κ):(gF kvs k).length<=kvs.length:=Nr _ _
end
theorem jO {k:Key} (r:ay (kV k) u):(cf P w).is k u=true:=by
 cases k with
 | inl i=>obtain⟨t,e⟩:=(show ∃ t,u=Value.int i t from r);subst e;exact FM P w i t
 | inr x=>obtain⟨t,e⟩:=(show ∃ t,u=Value.str x t from r);subst e;exact GG P w x t
theorem Cz {P:Program}{w:World}:∀ {ks:List Key}{us:List Value},av (ks.map kV) us->ItemsAre (cf P w) ks us
 | [],_,r=>by rw[Oi] at r;cases r;exact .nil
 | k::ks,_,r=>by
  rw[MG] at r;cases r with
  | cons h t=>exact .cons (jO h) (Cz t)
abbrev KT (H:Hp):List (List Key×V)->List (List Key×Addr×Value)->Prop:=Paired fun p q=>p.1=q.1/\H q.2.1=some (.tup (p.1.map kV))/\ay p.2 q.2.2
theorem KT.val  (r:KT H kvs xs) (k:List Key):du (bc kvs k) ((atKey xs k).map (·.2)):=by
 induction r with
 | nil=>exact True.intro
 | @cons p q ps qs h t ih=>
  obtain⟨h1,_,h2⟩:=h;by_cases e:p.1=k
  ·have e':q.1=k:=h1.symm.trans e
   have b:atKey (q::qs) k=some q.2:=by simp[atKey,NJ,e']
   rw[gB e,b];exact h2
  ·have e':¬ q.1=k:=fun z=>e (h1.trans z)
   have b:atKey (q::qs) k=atKey qs k:=by simp[atKey,NJ,e']
   rw[eW e,b];exact ih
theorem KT.repl  (r:KT H kvs xs) (k:List Key) (ry:ay y u) :
  KT H (kvs.map fun kv=>if kv.1=k then(kv.1,y) else kv) (xs.map (putAt k u)):=by
 induction r with
 | nil=>exact .nil
 | @cons p q ps qs h t ih=>
  rw[MG,MG];refine .cons ?_ ih;obtain⟨h1,h2,h3⟩:=h;unfold putAt;by_cases e:p.1=k
  ·rw[if_pos e,if_pos (h1.symm.trans e)];exact⟨h1,h2,ry⟩
  ·rw[if_neg e,if_neg (fun z=>e (h1.trans z))];exact⟨h1,h2,h3⟩
theorem KT.put  (r:KT H kvs xs) (k:List Key) (hb:H b=some (.tup (k.map kV))) (ry:ay y u) :
  KT H (dj kvs k y) (storedH xs k b u):=by
 have e:(kvs.any fun kv=>decide (kv.1=k))=(atKey xs k).isSome:=by
  rw[xj,(r.val k).isSome_eq,OB]
 unfold dj storedH;rw[e];by_cases q:(atKey xs k).isSome=true
 ·rw[if_pos q,if_pos q];exact r.repl k ry
 ·rw[if_neg q,if_neg q];exact Paired.snoc r ⟨Y,hb,ry⟩
theorem KT.keeps  (r:KT H kvs xs) (ht:∀ b ys,H b=some (.tup ys)->H' b=some (.tup ys)):KT H' kvs xs:=
 Paired.mapP r fun _ _ z=>⟨z.1,ht _ _ z.2.1,z.2.2⟩
section
variable {h:Heap}
theorem rd_of {u:HO} (ok:HOk P w H h) (e:Rd H a u):bZ P w H h a u:=e.ok ok
theorem kX {kvs:List (Key×V)} (ok:HOk P w H h) (e:Rd H a (.dK kvs)):kvs.length<=sizeLine/\(a == sysModules)=false/\∃ vs,KV kvs vs/\h.DictOf (cf P w) a vs:=
 show bZ P w H h a (.dK kvs) from rd_of ok e
theorem jF {kvs:List (Key×V)} (ok:HOk P w H h) (e:H a=some (.dK kvs)):kvs.length<=sizeLine/\(a == sysModules)=false/\∃ vs,KV kvs vs/\h.DictOf (cf P w) a vs:=kX ok (.inl e)
theorem oB {ks:List Key} (ok:HOk P w H h) (e:H a=some (.tup (ks.map kV))):(tupleKind (cf P w)).is h ks a:=by
 obtain⟨_,ac,r,o,h1,h2,n,h3⟩:=(show bZ P w H h a (.tup (ks.map kV)) from ok a _ e);exact⟨o,ac.toArray,n,h1,h2,h3,by simpa using Cz r⟩
theorem mR  (ok:HOk P w H h) (e:Rd H a (.dT kvs)):kvs.length<=sizeLine/\(a == sysModules)=false /\
  ∃ xs,KT H kvs xs/\h.DictOfH (tupleKind (cf P w)) a xs:=by
 obtain⟨z,y,xs,r,o,es,ep,h1,h2,h3,h4,h5⟩:=(show bZ P w H h a (.dT kvs) from rd_of ok e);refine⟨z,y,xs,r,o,es,ep,h1,h2,h3,h4,fun x hx=>?_,h5⟩;have all:∀ {l:List (List Key×V)}{m:List (List Key×Addr×Value)},KT H l m->∀ x∈m,(tupleKind (cf P w)).is h x.1 x.2.1:=by
  intro l m q
  induction q with
  | nil=>intro x hx;exact nomatch hx
  | @cons p q ps qs hq t ih=>
   intro x hx;rcases M5.mp hx with e|hx
   ·subst e
    exact oB ok (by rw[<- hq.1];exact hq.2.1)
   ·exact ih x hx
 exact all r x hx
theorem dt_of  (ok:HOk P w H h) (e:H a=some (.dT kvs)):kvs.length<=sizeLine/\(a == sysModules)=false /\
  ∃ xs,KT H kvs xs/\h.DictOfH (tupleKind (cf P w)) a xs:=mR ok (.inl e)
end
variable {Q:Value->Shared->Prop}{h':Heap}{jp:List (TE×TE)}{kvs:List (Key×V)}
def df (H:Hp) (a:Addr) (y:V) (r:Option V):Prop:=
 (∃ kvs k,Rd H a (.dK kvs)/\y=kV k/\r=bc kvs k)\/∃ kvs k b,Rd H a (.dT kvs)/\y=.ref b/\H b=some (.tup (k.map kV))/\r=bc kvs k
def nA (H:Hp) (a:Addr) (y v:V) (H':Hp):Prop:=
 (∃ kvs k,H a=some (.dK kvs)/\y=kV k/\kvs.length<sizeLine/\H'=upd H a (.dK (dj kvs k v))) \/
 ∃ kvs k b,H a=some (.dT kvs)/\y=.ref b/\H b=some (.tup (k.map kV))/\kvs.length<sizeLine/\H'=upd H a (.dT (dj kvs k v))
theorem df.k {H:Hp}{a:Addr}{kvs:List (Key×V)}{k:Key} (e:H a=some (.dK kvs)):df H a (kV k) (bc kvs k):=.inl ⟨kvs,k,.inl e,Y,Y⟩
theorem nA.k {H:Hp}{a:Addr}{kvs:List (Key×V)}{k:Key}{v:V} (e:H a=some (.dK kvs)) (hl:kvs.length<sizeLine):nA H a (kV k) v (upd H a (.dK (dj kvs k v))):=.inl ⟨kvs,k,e,Y,hl,Y⟩
section
variable {v:V}{r:Value}
theorem Inv.big (I:Inv X aa σ H s):sysModules<s.heap.objs.size:=by
 have h:mainGlobals<s.heap.objs.size:=(I.mod.glob.keeps I.bk).lt;exact Nat.lt_trans (by decide) h
theorem F1  (hu:A.units + 1<cLine) (I:Inv X aa σ H s) (g:df H a y (some v)) (ry:ay y u) (h:∀ w' s',Inv X aa σ H s'->ay v w'->Q w' s') :
  wpAny (model X.prog X.w) A (getItem (.ref a) u) Q E s:=by
 rcases g with⟨kvs,k,e,ey,l⟩|⟨kvs,k,b,e,ey,eb,l⟩
 ·subst ey
  obtain⟨z,hd,vs,rel,dd⟩:=kX I.hok e;obtain⟨w',hw,eA⟩:=du.some_of (v:=v) (o:=valueAt vs k) (by rw[l];exact rel.val k);exact wpAny_getItem_of (jO ry) dd.mapOf hw (h w' _ (I.tok _) eA)
 ·subst ey
  cases (show u=Value.ref b from ry)
  obtain⟨z,hd,xs,rel,dd⟩:=mR I.hok e;obtain⟨w',hw,eA⟩:=du.some_of (v:=v) (o:=(atKey xs k).map (·.2)) (by rw[l];exact rel.val k);obtain⟨p,hp,gZ⟩:=Option.map_eq_some_iff.mp hw;refine wpAny_getItem_heap (tupleKind_room_in1 hu) (oB I.hok eb) dd hp ?_;rw[gZ];exact h w' _ (I.tok _) eA
theorem d_in  (hu:A.units + 1<cLine) (I:Inv X aa σ H s) (g:df H a y o) (ry:ay y u) (h:∀ s',Inv X aa σ H s'->Q (.bool o.isSome) s') :
  wpAny (model X.prog X.w) A (compareOp .In u (.ref a)) Q E s:=by
 rcases g with⟨kvs,k,e,ey,l⟩|⟨kvs,k,b,e,ey,eb,l⟩
 ·subst ey
  obtain⟨z,hd,vs,rel,dd⟩:=kX I.hok e;refine wpAny_in_of (jO ry) hd dd.mapOf ?_;rw[<- (rel.val k).isSome_eq,<- l];exact h _ (I.tok _)
 ·subst ey
  cases (show u=Value.ref b from ry)
  obtain⟨z,hd,xs,rel,dd⟩:=mR I.hok e;refine wpAny_in_heap (tupleKind_room_in1 hu) (oB I.hok eb) hd dd ?_;have q:=(rel.val k).isSome_eq;rw[OB] at q;rw[<- q,<- l];exact h _ (I.tok _)
theorem He  (hu:A.units + 1<cLine) (I:Inv X aa σ H s) (g:df H a y o) (ry:ay y u) (h:∀ s',Inv X aa σ H s'->Q (.bool (!o.isSome)) s') :
  wpAny (model X.prog X.w) A (compareOp .NotIn u (.ref a)) Q E s:=by
 rcases g with⟨kvs,k,e,ey,l⟩|⟨kvs,k,b,e,ey,eb,l⟩
 ·subst ey
  obtain⟨z,hd,vs,rel,dd⟩:=kX I.hok e;refine wpAny_notIn_of (jO ry) hd dd.mapOf ?_;rw[<- (rel.val k).isSome_eq,<- l];exact h _ (I.tok _)
 ·subst ey
  cases (show u=Value.ref b from ry)
  obtain⟨z,hd,xs,rel,dd⟩:=mR I.hok e;refine wpAny_notIn_heap (tupleKind_room_in1 hu) (oB I.hok eb) hd dd ?_;have q:=(rel.val k).isSome_eq;rw[OB] at q;rw[<- q,<- l];exact h _ (I.tok _)
theorem sR {ob:HO} (I:Inv X aa σ H s) (mu:Mut (H a)) (hs:Heap.SameBut a s.heap h') (he:∃ q,h'.get? a=some q) (new:bZ X.prog X.w (upd H a ob) h' a ob) :
  Inv X aa σ (upd H a ob) { s with heap:=h',toks:=t' }:=
 I.write (x:=a) (e:=a) mu (.inl Y) (fun b q hb z=>(hs.2 b hb).trans z) he new
theorem sP {vs:List (Key×Value)} (z:kvs.length<=sizeLine) (hd:(a == sysModules)=false) (rel:KV kvs vs) (dd:h'.DictOf (cf P w) a vs) :
  bZ P w H' h' a (.dK kvs):=⟨z,hd,vs,rel,dd⟩
theorem IT {Q:Unit->Shared->Prop} (hu:A.units + 1<cLine) (I:Inv X aa σ H s) (g:nA H a y v H') (ry:ay y u) (rv:ay v r) (h:∀ s',Inv X aa σ H' s'->Q () s') :
  wpAny (model X.prog X.w) A (setItem (.ref a) u r) Q E s:=by
 rcases g with⟨kvs,k,e,ey,l,eH⟩|⟨kvs,k,b,e,ey,eb,l,eH⟩
 ·subst ey eH
  obtain⟨z,hd,vs,rel,dd⟩:=jF I.hok e;have hz:vs.length<=sizeLine:=by rw[<- rel.length];exact z
  have hl:(dj kvs k v).length<=sizeLine:=by have:=sK kvs k v;omega
  refine wpAny_setItem_pairs (hsz:=hz) (jO ry) dd fun h' iP hs=>h _ ?_
  have he:∃ q,h'.get? a=some q:=let ⟨q,_,_,hq,_⟩:=iP;⟨q,hq⟩
  exact sR I (by rw[e];exact True.intro) hs he (sP hl hd (rel.put k rv) iP)
 ·subst ey eH
  cases (show u=Value.ref b from ry)
  obtain⟨z,hd,xs,rel,dd⟩:=dt_of I.hok e;have hz:xs.length<=sizeLine:=by rw[<- Paired.length rel];exact z
  have hl:(dj kvs k v).length<=sizeLine:=by have:=sK kvs k v;omega
  refine wpAny_setItem_heap (hsz:=hz) (tupleKind_room_in1 hu) (oB I.hok eb) dd fun h' iP hs=>h _ ?_
  obtain⟨q,es,ep,hq,h2,h3,h4,_,h5⟩:=iP;refine sR I (by rw[e];exact True.intro) hs ⟨q,hq⟩ ⟨hl,hd,_,(rel.put k eb rv).keeps fun c ys ec=>?_,q,es,ep,hq,h2,h3,h4,h5⟩;rw[ak (cz ec e (fun z=>nomatch z))];exact ec
end
section
variable {k:Key}
theorem d_pop {v:V}{more:List Value} (I:Inv X aa σ H s) (e:H a=some (.dK kvs)) (ry:ay (kV k) u) (l:bc kvs k=some v) (hm:more=[]\/∃ x,more=[x])
  (h:∀ w' s',Inv X aa σ (upd H a (.dK (gF kvs k))) s'->ay v w'->Q w' s'):wpAny (model X.prog X.w) A (call (.builtin "dict.pop") (.ref a::u::more)) Q E s:=by
 obtain⟨z,hd,vs,rel,dd⟩:=jF I.hok e;obtain⟨w',hw,eA⟩:=du.some_of (v:=v) (o:=valueAt vs k) (by rw[<- l];exact rel.val k);have hp:(keyPart u).isSome=true:=by
  cases k with
  | inl i=>obtain⟨t,q⟩:=(show ∃ t,u=Value.int i t from ry);subst q;rfl
  | inr x=>obtain⟨t,q⟩:=(show ∃ t,u=Value.str x t from ry);subst q;rfl
 have ha:argsOk "dict.pop" ⟨.ref a::u::more,[]⟩:=by
  rcases hm with q|⟨x,q⟩
  ·subst q;exact PySem.F.args_dict_pop_2 _ _
  ·subst q;exact PySem.F.args_dict_pop_3 _ _ _
 refine call_meetsIn PySem.F.slot_dict_pop dd.typeIs PySem.F.entry_dict_pop ha (meets_dict_pop_there (cf X.prog X.w) a (jO ry) more hm hp)
  ⟨vs,w',dd,by rw[<- rel.length];exact z,hw,fun h' iP hs=>h w' _ ?_ eA⟩
 have he:∃ q,h'.get? a=some q:=let ⟨q,_,_,hq,_⟩:=iP;⟨q,hq⟩
 exact sR I (by rw[e];exact True.intro) hs he (sP (MN (JT kvs k) z) hd (rel.drop k) iP)
theorem d_len  (I:Inv X aa σ H s) (e:Rd H a (.dK kvs)) (h:∀ t s',Inv X aa σ H s'->Q (.int kvs.length t) s'):wpAny (model X.prog X.w) A (call (.builtin "len") [.ref a]) Q E s:=by
 obtain⟨z,hd,vs,rel,dd⟩:=kX I.hok e;refine call_len_dict hd dd (by rw[<- rel.length];rw[Mh] at z;omega) ?_;rw[<- rel.length];exact h _ _ (I.tok _)
end
def NoSl (i:Expr):Prop:=∀ ov iv,subscripted i false ov iv=operate [ov,iv] (getItem ov iv)
theorem GA {env:Env}{value slice:Expr}
  (hl:typeLookup (.type T) "__getitem__"=pure (some (.builtin id))) (hs:NoSl slice)
  (h:wpAny (model prog w) A (eval value env) (fun o s₁=>wpAny (model prog w) A (eval slice env) (fun i s₂=>s₂.TypeIs o T/\wpAny (model prog w) A (getItem o i) Q E s₂) E s₁) E s) :
  wpAny (model prog w) A (eval (.Subscript value slice pos) env) Q E s:=by
 refine Subscript_ (MV h (fun o s₁ h₁=>MV h₁ (fun i s₂ h₂=>?_) fun _ _ x=>x) fun _ _ x=>x);obtain⟨hT,h₂⟩:=h₂;unfold subscriptTail;refine l7 ?_;rw[getitemInPython_of_ne hT.not_modules];refine l7 (OV hT hl ?_);have fin:wpAny (model prog w) A (subscripted slice false o i) (fun r s₃=>wpAny (model prog w) A (letTemporaryGo value o r >>= fun _=>pure r) Q E s₃) E s₂:=by
  rw[hs o i];exact wpAny_operating (MV h₂ (fun r s₃ h₃=>l7 (wpAny_letTemporaryGo (Mb h₃))) fun _ _ x=>x)
 first
  | exact Mb (l7 fin)
  | exact l7 (Mb (l7 fin))
  | exact l7 fin
theorem F7  (I:Inv X aa σ H s) (g:df H a y o):s.TypeIs (.ref a) "dict":=by
 rcases g with⟨kvs,k,e,_,_⟩|⟨kvs,k,b,e,_,_,_⟩
 ·obtain⟨_,_,vs,_,dd⟩:=kX I.hok e
  exact dd.typeIs
 ·obtain⟨_,_,xs,_,dd⟩:=mR I.hok e
  exact dd.typeIs
def tDGet (td ty:TE):TE:=fun σ H Q=>td σ H fun x H1=>ty σ H1 fun y H2=>∃ a v,x=.ref a/\df H2 a y (some v)/\Q v H2
def tDIn (ty td:TE):TE:=fun σ H Q=>ty σ H fun y H1=>td σ H1 fun x H2=>∃ a o,x=.ref a/\df H2 a y o/\Q (.bl o.isSome) H2
def F6 (ty td:TE):TE:=fun σ H Q=>ty σ H fun y H1=>td σ H1 fun x H2=>∃ a o,x=.ref a/\df H2 a y o/\Q (.bl (!o.isSome)) H2
def sDPut (td ty tv:TE):TS:=fun D σ H=>tv σ H fun v H1=>td σ H1 fun x H2=>ty σ H2 fun y H3=>∃ a H4,x=.ref a/\nA H3 a y v H4/\D.nx σ H4
section
variable {o i value:Expr}{aS tpos:Pos}{td ty tv:TE}
theorem k9 (hu:X.A.units + 1<cLine) (ho:PE X o td) (hi:PE X i ty) (hs:NoSl i):PE X (.Subscript o i pos) (tDGet td ty):=by
 intro aa s σ H Q I h;refine GA PySem.F.slot_dict_getitem.lookup hs (thn (ho aa s σ H _ I h) fun u s1=>L2.ex5 fun x H1 I1 rx q1=>thn (hi aa s1 σ H1 _ I1 q1) fun iv s2=>L2.ex5 fun y H2 I2 ry aX=>?_);obtain⟨a,v,ex,g,q2⟩:=aX;subst ex;obtain rfl:u=Value.ref a:=rx;exact⟨F7 I2 g,F1 hu I2 g ry fun w' s3 I3 eA=>⟨v,H2,I3,eA,q2⟩⟩
theorem pc_din (hu:X.A.units + 1<cLine) (hi:PE X i ty) (ho:PE X o td):PC X .In i o (tDIn ty td):=by
 intro aa s σ H Q I h;refine thn (hi aa s σ H _ I h) fun iv s1=>L2.ex5 fun y H1 I1 ry q1=>thn (ho aa s1 σ H1 _ I1 q1) fun u s2=>L2.ex5 fun x H2 I2 rx aX=>?_
 obtain⟨a,ov,ex,g,q2⟩:=aX;subst ex;obtain rfl:u=Value.ref a:=rx;exact d_in hu I2 g ry fun s3 I3=>⟨.bl ov.isSome,H2,I3,Y,q2⟩
theorem Ck (hu:X.A.units + 1<cLine) (hi:PE X i ty) (ho:PE X o td):PC X .NotIn i o (F6 ty td):=by
 intro aa s σ H Q I h;refine thn (hi aa s σ H _ I h) fun iv s1=>L2.ex5 fun y H1 I1 ry q1=>thn (ho aa s1 σ H1 _ I1 q1) fun u s2=>L2.ex5 fun x H2 I2 rx aX=>?_
 obtain⟨a,ov,ex,g,q2⟩:=aX;subst ex;obtain rfl:u=Value.ref a:=rx;exact He hu I2 g ry fun s3 I3=>⟨.bl (!ov.isSome),H2,I3,Y,q2⟩
theorem tS (hu:X.A.units + 1<cLine) (ho:PE X o td) (hi:PE X i ty) (hv:PE X value tv) (hs:swapsWith value (some (.Subscript o i aS)) pos.line X.env=pure false) :
  PS X (.Assign [.Subscript o i aS] value pos) (sDPut td ty tv):=by
 intro aa s σ H D I h;refine wpAny_Assign_Subscript (thn (hv aa s σ H _ I h) fun r s1=>L2.ex5 fun v H1 I1 rv q1=>thn (ho aa s1 σ H1 _ I1 q1) fun u s2=>L2.ex5 fun x H2 I2 rx q2=>thn (hi aa s2 σ H2 _ I2 q2) fun iv s3=>L2.ex5 fun y H3 I3 ry aX=>?_) hs;obtain⟨a,H4,ex,g,q3⟩:=aX;subst ex;obtain rfl:u=Value.ref a:=rx;exact IT hu I3 g ry rv fun s4 I4=>⟨σ,H4,I4,q3⟩
end
theorem A8  (h:Heap) (hb:sysModules<h.objs.size):bZ P w H (h.push { cls:=.type "dict",data:=.dict #[] }) h.objs.size (.dK []):=
 ⟨MW _,beq_eq_false_iff_ne.mpr (Ne.symm (Mn hb)),[],.nil,Heap.DictOf.new h⟩
def tDNewK:TE:=fun _ H Q=>∀ p,H p=none->Q (.ref p) (upd H p (.dK []))
theorem qx:PE X (.Dict [] [] pos) tDNewK:=fun aa s σ H Q I h=>
 wpAny_Dict_empty ⟨.ref s.heap.objs.size,_,I.laid (a:=s.heap.objs.size) (o:=.dK []) (t':=s.toks) (fun _ _ q=>Ma _ q) (Md _) (A8 s.heap I.big),Y,h _ (I.hok.fresh (Md _))⟩
def wF:List (TE×TE)->St->Hp->(List (V×V)->Hp->Prop)->Prop
 | [],_,H,Q=>Q [] H
 | (tk,tv)::r,σ,H,Q=>tk σ H fun x H1=>tv σ H1 fun y H2=>wF r σ H2 fun ps H3=>Q ((x,y)::ps) H3
abbrev VV:List (V×V)->List (Value×Value)->Prop:=Paired fun p q=>ay p.1 q.1/\ay p.2 q.2
def PPs (X:Cx) (pos:Pos) (keys:List (Option Expr)) (cC:List Expr) (jp:List (TE×TE)):Prop:=
 ∀ (aa:List (Addr×Obj)) (s:Shared) (σ:St) (H:Hp) (Q:List (V×V)->Hp->Prop),Inv X aa σ H s->wF jp σ H Q ->
  wpAny (model X.prog X.w) X.A (evalPairs (pairTrees keys cC X.env pos)) (fun vs s'=>∃ ps H',Inv X aa σ H' s'/\VV ps vs/\Q ps H') X.xe s
theorem Jl:PPs X pos [] [] []:=fun aa s σ H Q I h=>pairTrees_nil_walk ⟨[],H,I,.nil,h⟩
theorem FR {k v:Expr}{ks:List (Option Expr)}{vs:List Expr}{tk tv:TE} (hk:PE X k tk) (hv:PE X v tv) (hr:PPs X pos ks vs jp) :
  PPs X pos (some k::ks) (v::vs) ((tk,tv)::jp):=fun aa s σ H Q I h=>
 pairTrees_cons_walk (thn (hk aa s σ H _ I h) fun u s1=>L2.ex5 fun x H1 I1 rx q1=>thn (hv aa s1 σ H1 _ I1 q1) fun w2 s2=>L2.ex5 fun y H2 I2 ry q2=>
  thn (hr aa s2 σ H2 _ I2 q2) fun ws s3 ⟨ps,H3,I3,rel,q3⟩=>⟨(x,y)::ps,H3,I3,.cons ⟨rx,ry⟩ rel,q3⟩)
def kN (kvs more:List (Key×V)):List (Key×V):=more.foldl (fun acc kv=>dj acc kv.1 kv.2) kvs
theorem KV.merge:∀ {more:List (Key×V)}{rs:List (Key×Value)}{kvs:List (Key×V)}{vs:List (Key×Value)},KV more rs->KV kvs vs->KV (kN kvs more) (merged vs rs):=by
 intro more rs kvs vs r;unfold KV at r
 induction r generalizing kvs vs with
 | nil=>intro q;exact q
 | @cons p q ps qs h t ih=>
  intro r0;have e:KV (dj kvs p.1 p.2) (stored vs q.1 q.2):=by
   have:=r0.put p.1 h.2;rw[<- h.1];exact this
  exact ih e
theorem A9:∀ (more kvs:List (Key×V)),(kN kvs more).length<=kvs.length + more.length
 | [],kvs=>by show kvs.length<=kvs.length + 0;omega
 | p::r,kvs=>by
  have h1:=A9 r (dj kvs p.1 p.2);have h2:=sK kvs p.1 p.2;show(kN (dj kvs p.1 p.2) r).length<=_;rw[Mt];omega
theorem Br {P:Program}{w:World}:∀ {kvs:List (Key×V)}{ws:List (Value×Value)},VV (kvs.map fun kv=>(kV kv.1,kv.2)) ws->∃ rs,Carries (cf P w) ws rs/\KV kvs rs
 | [],_,r=>by rw[Oi] at r;cases r;exact⟨[],True.intro,.nil⟩
 | p::kvs,_,r=>by
  rw[MG] at r;cases r with
  | @cons a b as bs h t=>
   obtain⟨rs,c,q⟩:=Br (P:=P) (w:=w) t;obtain⟨b1,b2⟩:=b;exact⟨(p.1,b2)::rs,⟨jO h.1,Y,c⟩,.cons ⟨Y,h.2⟩ q⟩
def tDisp (jp:List (TE×TE)):TE:=fun σ H Q=>∀ p,H p=none->wF jp σ (upd H p (.dK [])) fun ps H2=>H2 p=some (.dK [])/\∃ kvs:List (Key×V),ps=kvs.map (fun kv=>(kV kv.1,kv.2))/\kvs.length<=15/\Q (.ref p) (upd H2 p (.dK (kN [] kvs)))
theorem JN {keys:List (Option Expr)}{cC:List Expr} (h:PPs X pos keys cC jp) (mi:keys.all (·.isSome)=true) (hl:keys.length=cC.length) (h0:keys≠[])
  (CS:keys.length<=15):PE X (.Dict keys cC pos) (tDisp jp):=by
 intro aa s σ H Q I q;have hn:=I.hok.fresh (Md s.heap.objs.size);have I1:=I.laid (a:=s.heap.objs.size) (o:=.dK []) (h':=s.heap.push { cls:=.type "dict",data:=.dict #[] }) (t':=s.toks) (fun _ _ q=>Ma _ q) (Md _) (A8 s.heap I.big);refine wpAny_Dict_walk (knd:=cf X.prog X.w) mi hl h0 CS (thn (h aa _ σ _ _ I1 (q _ hn)) fun ws s2=>L2.ex5 fun ps H2 I2 rel aX=>?_);obtain⟨e,kvs,ep,lk,q2⟩:=aX;subst ep;obtain⟨rs,c,rk⟩:=Br (P:=X.prog) (w:=X.w) rel;obtain⟨z,hd,Lm,r0,dd⟩:=jF I2.hok e;cases r0
 refine⟨rs,c,dd,fun h' iP hs=>⟨.ref s.heap.objs.size,_,?_,Y,q2⟩⟩;have hz:(kN [] kvs).length<=sizeLine:=by
  have h1:=A9 kvs [];rw[Oh] at h1;rw[Mh];omega
 have he:∃ q,h'.get? s.heap.objs.size=some q:=let ⟨q,_,_,hq,_⟩:=iP;⟨q,hq⟩
 exact sR I2 (by rw[e];exact True.intro) hs he (sP hz hd (rk.merge .nil) iP)
structure M1 (X:Cx) (o:Expr) (m:Str) (aK:Pos) (e:Expr) (aC:Pos):Prop where
 base:attributeBase o m X.env (eval o X.env)=eval o X.env
 few:((backTo aC (starEach [e] X.env)).all (fun x=>!x.1) && (backToKw aC (keywordEach [] X.env)).all (fun x=>x.1.isSome)
  && decide (([e]:List Expr).length + ([]:List Keyword).length + (if ([]:List Keyword).isEmpty then 0 else 1)<30))=true
 line:(aK.endLine == aC.line)=true
 trees:backTo aC (starEach [e] X.env)=[(false,eval e X.env)]
structure M2 (X:Cx) (o:Expr) (m:Str) (aK:Pos) (e f:Expr) (aC:Pos):Prop where
 base:attributeBase o m X.env (eval o X.env)=eval o X.env
 few:((backTo aC (starEach [e,f] X.env)).all (fun x=>!x.1) && (backToKw aC (keywordEach [] X.env)).all (fun x=>x.1.isSome)
  && decide (([e,f]:List Expr).length + ([]:List Keyword).length + (if ([]:List Keyword).isEmpty then 0 else 1)<30))=true
 line:(aK.endLine == aC.line)=true
 trees:backTo aC (starEach [e,f] X.env)=[(false,eval e X.env),(false,eval f X.env)]
def IsD (H:Hp) (a:Addr):Prop:=(∃ kvs,Rd H a (.dK kvs))\/∃ kvs,Rd H a (.dT kvs)
theorem Cd  (I:Inv X aa σ H s) (d:IsD H a) :
  s.TypeIs (.ref a) "dict"/\(∀ b,Value.ref a=.ref b->∃ ob,s.heap.get? b=some ob/\ob.dict=none)/\(a == sysModules)=false:=by
 rcases d with⟨kvs,e⟩|⟨kvs,e⟩
 ·obtain⟨_,hd,vs,_,dd⟩:=kX I.hok e
  refine⟨dd.typeIs,fun b q=>?_,hd⟩;cases q
  obtain⟨ob,_,_,h1,h2,_⟩:=dd;exact⟨ob,h1,h2.2.1⟩
 ·obtain⟨_,hd,xs,_,dd⟩:=mR I.hok e
  refine⟨dd.typeIs,fun b q=>?_,hd⟩;cases q
  obtain⟨ob,_,_,h1,h2,_⟩:=dd;exact⟨ob,h1,h2.2.1⟩
section
variable {d:V}{r:Value}
theorem d_get1  (hu:A.units + 1<cLine) (I:Inv X aa σ H s) (g:df H a y o) (ry:ay y u) (h:∀ w' s',Inv X aa σ H s'->ay (o.getD .non) w'->Q w' s') :
  wpAny (model X.prog X.w) A (call (.builtin "dict.get") [.ref a,u]) Q E s:=by
 rcases g with⟨kvs,k,e,ey,l⟩|⟨kvs,k,b,e,ey,eb,l⟩
 ·subst ey
  obtain⟨z,hd,vs,rel,dd⟩:=kX I.hok e;refine call_meetsIn PySem.F.slot_dict_get dd.typeIs PySem.F.entry_dict_get (PySem.F.args_dict_get_2 _ _) (meets_dict_get (cf X.prog X.w) a (jO ry) hd) ⟨_,dd.mapOf,h _ _ (I.tok _) ?_⟩;rw[l];exact(rel.val k).getD rfl
 ·subst ey
  cases (show u=Value.ref b from ry)
  obtain⟨z,hd,xs,rel,dd⟩:=mR I.hok e;refine call_meetsIn PySem.F.slot_dict_get dd.typeIs PySem.F.entry_dict_get (PySem.F.args_dict_get_2 _ _) (meetsH_dict_get (tupleKind (cf X.prog X.w)) a b hd) ⟨tupleKind_room_in1 hu,k,xs,oB I.hok eb,dd,h _ _ (I.tok _) ?_⟩;rw[l];exact(rel.val k).getD rfl
end
def tDGet1 (td ty:TE):TE:=fun σ H Q=>td σ H fun x H1=>∃ a,x=.ref a/\IsD H1 a/\ty σ H1 fun y H2=>∃ o,df H2 a y o/\Q (o.getD .non) H2
def tDPop1 (td ty:TE):TE:=fun σ H Q=>td σ H fun x H1=>∃ a,x=.ref a/\IsD H1 a/\ty σ H1 fun y H2=>∃ kvs k v,H2 a=some (.dK kvs)/\y=kV k/\bc kvs k=some v/\Q v (upd H2 a (.dK (gF kvs k)))
section
variable {o f:Expr}{aK aC:Pos}{td ty tx:TE}
theorem GV (hu:X.A.units + 1<cLine) (ho:PE X o td) (he:PE X e ty) (m:M1 X o "get" aK e aC):PE X (.Call (.Attribute o "get" aK) [e] [] aC) (tDGet1 td ty):=by
 intro aa s σ H Q I h;refine Pu m.base m.few m.line PySem.F.plainAttrs_dict PySem.F.slot_dict_get PySem.F.type_dict_get (thn (ho aa s σ H _ I h) fun u s1=>L2.ex5 fun x H1 I1 rx aX=>?_);obtain⟨a,ex,d,q1⟩:=aX;subst ex;obtain rfl:u=Value.ref a:=rx;obtain⟨t1,t2,_⟩:=Cd I1 d;refine⟨t1,t2,?_⟩;rw[m.trees];refine Calls.callWith_builtin Y (Calls.evalArgs_plain (Calls.spliced_cons (thn (he aa s1 σ H1 _ I1 q1) fun iv s2 ⟨y,H2,I2,ry,ov,g,q2⟩=>Calls.spliced_nil ?_)));exact d_get1 hu I2 g ry fun w' s3 I3 eA=>⟨_,H2,I3,eA,q2⟩
theorem Iu (ho:PE X o td) (he:PE X e ty) (m:M1 X o "pop" aK e aC):PE X (.Call (.Attribute o "pop" aK) [e] [] aC) (tDPop1 td ty):=by
 intro aa s σ H Q I h;refine Pu m.base m.few m.line PySem.F.plainAttrs_dict PySem.F.slot_dict_pop PySem.F.type_dict_pop (thn (ho aa s σ H _ I h) fun u s1=>L2.ex5 fun x H1 I1 rx aX=>?_);obtain⟨a,ex,d,q1⟩:=aX;subst ex;obtain rfl:u=Value.ref a:=rx;obtain⟨t1,t2,_⟩:=Cd I1 d;refine⟨t1,t2,?_⟩;rw[m.trees];refine Calls.callWith_builtin Y (Calls.evalArgs_plain (Calls.spliced_cons (thn (he aa s1 σ H1 _ I1 q1) fun iv s2 ⟨y,H2,I2,ry,kvs,k,v,ea,ey,l,q2⟩=>Calls.spliced_nil ?_)));subst ey;exact d_pop I2 ea ry l (.inl Y) fun w' s3 I3 eA=>⟨v,_,I3,eA,q2⟩
end
end L2
namespace Att
variable {P:Params}{h:Heap}{l:OpenLaw}{n:Nat}
open PySem PySem.W PySem.Calls PyProof.Rows
theorem GI:∀ (ns:List Int) (vs:List Value),WellAll P h vs (ns.map WData.int)->IntsAre vs ns:=by
 intro ns
 induction ns with
 | nil=>
  intro vs w;rw[List.map_nil] at w;cases w
  exact .nil
 | cons n ns ih=>
  intro vs w;rw[List.map_cons] at w;cases w with
  | cons a b=>
   cases a
   exact .cons _ _ (ih _ b)
theorem Iy  (hn:l.most=some n){args:List WData}{lz:List Value}
  (jq:l.row.toRowW.claim.pre args=true) (vf:WellAll P h lz args) :
  ∃ a vs ns,lz=[Value.ref a]/\args=[WData.list (ns.map WData.int)]/\h.get? a=some { cls:=.type "list",data:=.seq vs.toArray }/\IntsAre vs ns/\ns.length<=n:=by
 have DN:WShape.hasAll [] args [.list .int]=true:=(pre_splitW jq).1;have hc:l.pre.holds [] { args:=args }=true:=(pre_splitW jq).2;obtain⟨d,r,rfl,h1,h2⟩:=hasAllW_cons DN;obtain rfl:=hasAllW_nil h2;obtain⟨xs,rfl,h3⟩:=hasW_list h1;obtain⟨ns,rfl⟩:=items_int h3;have az:ns.length<=n:=by
  unfold OpenLaw.pre at hc;have h4:(WTm.not (.lt (.lit (.int (n:Int))) (.len (.arg 0)))).holds [] { args:=[.list (ns.map .int)] }=true:=by
   have h4:=(holds_andW hc).1;rw[hn] at h4;exact h4
  have h5:=condW_of h4 (w_not (w_lt w_lit (w_len_list (w_arg Y))));rw[List.length_map] at h5;refine Nat.le_of_not_lt fun q=>?_
  have q':(n:Int)<((ns.length:Nat):Int):=by omega
  first
   | (rw[decide_eq_true q'] at h5;exact absurd h5 (by decide))
   | (simp at h5;omega)
 cases vf with
 | cons w1 w2=>
  cases w2
  cases w1 with
  | list ho mi=>exact⟨_,_,ns,Y,Y,ho,GI ns _ mi,az⟩
theorem FZ (l:OpenLaw) (args:List WData):l.row.toRowW.claim.post args (.bool true) args=true:=
 postW_of (r:=l.row.toRowW) (X:=(true == true))
  (show WShape.has [] (.bool true) .bool=true by first|rfl|decide|simp[WShape.has,WShape.arms,WShape.armsAll])
  (show(WTm.eq .res (.lit (.bool true))).value [] { args:=args,res:=some (.bool true),after:=args }=some (.bool (true == true)) from w_eq_bool (w_res Y) w_lit) rfl
theorem zhv {q:Program}{c9:List Str}{XP:(Str->Option Value)->Heap->Prop}{YP:World->Heap->Prop}{d:DefRec}
  (hn:l.most=some n) (ke:d.params.defaults=[])
  (call:∀ (w:World) (s₀ s₁:Shared) (mg mb:Str->Option Value) (fa:Addr) (o:Obj) (pm cd bF:Value) (a:Addr) (vs:List Value) (ns:List Int),
   Ground q c9 [] XP w s₀ mg mb s₁.heap->YP w s₁.heap ->
   s₁.heap.get? fa=some o->o.data=.func (docDef d.name d.params d.body d.scope pm cd bF)->s₁.heap.CodeRec cd d.name->mg d.name=some (.ref fa) ->
   s₁.heap.get? a=some { cls:=.type "list",data:=.seq vs.toArray }->IntsAre vs ns->ns.length<=n->s₁.gens=#[] ->
   codeAny (model l.prog w) callerA (.call (.ref fa) ⟨[.ref a],[]⟩) (fun r s'=>r=.ok (.ret (.bool true))/\OldK s₁.heap s'.heap/\s'.os=s₁.os/\AllBare s'.gens) s₁) :
  WalkO q c9 XP YP l.row.toRowW d [] (fun f vs=>PySem.call f vs):=by
 intro w s₀ s₁ mg mb G U0 fa o pm cd bF dV kV ho hd eM hD p6 hg args lz as jq EW LO vf lV;obtain rfl:dV=.none:=Dflts.none hD ke;obtain rfl:kV=.none:=Dflts.noKw hD;obtain⟨a,vs,ns,rfl,rfl,lN,g6,az⟩:=Iy hn jq vf;refine enter_call (codeAny_mono (call w s₀ s₁ mg mb fa o pm cd bF a vs ns G U0 ho (fd_plain hd) eM p6 lN g6 az hg) fun r s' hq=>?_);obtain⟨rfl,h2,h3,h4⟩:=hq;exact⟨.inl ⟨.bool true,.bool true,[],Y,fun _=>Y,.bool true,FZ l _,fun _=>⟨List.Pairwise.nil,fun _ hm=>(nomatch hm)⟩⟩,h2,h3,h4⟩
section
variable {prog:Program}{w:World}{A:Around}{E:Value->Shared->Prop}{s:Shared}{K:Frag}
end
end Att
namespace L2
variable {A:Around}{C D T a b f fI l p:Addr}{CX:CXT}{E:Value->Shared->Prop}{H H' H1 H2 H₀:Hp}{M:Model}{N XN ps sn:List Str}{P prog:Program}{Q:Unit->Shared->Prop}{R:Result->Shared->Prop}{X:Cx}{aI xs ys:List V}{aS np pos:Pos}{aa:List (Addr×Obj)}{ac bm ds hV sub us:List Value}{base h h' h₁:Heap}{c cd ct fl o5 oc pm u v:Value}{cX:Array (Option Value)}{cap:List (Option Nat)}{ch fp:List Addr}{dd dx:Option Addr}{e ft iter tg:Expr}{env:Env}{es fE:List Expr}{fd:FuncData}{hs:List ExceptHandler}{i j n t:Nat}{mg:Str->Option Value}{name nm qual x:Str}{newId:String}{o oI oe ox:Obj}{r:List (Str×NameKind)}{s s':Shared}{scope:Scope}{sp:Sp}{st:Stmt}{ta:TE}{tb:Option (Addr×Value)}{tt:TT}{vs:Array Value}{w:World}{wi:TI}{σ σ' τ:St}
open PySem PySem.Spec PyProof.Rows
theorem BP:∀ {vs:List Value}{ns:List Int},IntsAre vs ns->av (ns.map V.int) vs
 | _,_,.nil=>.nil
 | _,_,.cons n t h=>.cons ⟨t,Y⟩ (BP h)
def dS (s:Stmt) (j:Nat):Stmt:=match s with
 | .ClassDef _ _ _ body _ _ _ _ _ _ _=>body.getD j (.Pass ⟨0,0,0,0⟩)
 | _=>.Pass ⟨0,0,0,0⟩
def mX (s:Stmt):Arguments:=match s with
 | .FunctionDef _ a _ _ _ _ _ _ _ _=>a
 | _=>{ posonlyargs:=[],args:=[],vararg:=none,kwonlyargs:=[],kw_defaults:=[],kwarg:=none,defaults:=[] }
def jh (s:Stmt):List Stmt:=match s with
 | .FunctionDef _ _ b _ _ _ _ _ _ _=>b
 | _=>[]
def aA (s:Stmt):Scope:=match s with
 | .FunctionDef _ _ _ _ _ _ sc _ _ _=>sc
 | _=>{ kind:=.function,names:=[],isGenerator:=false,isCoroutine:=false }
abbrev CX0:CXT:=fun _ _ _ _ _ _=>False
abbrev E0:XK:=fun _ _ _=>False
theorem sM:jR CX0 X E0:=fun _ _ _ _ _ _ _ h=>h.elim
structure Fun (K:PySem.W.Frag) (x qual:Str) (st:Stmt) (f:Addr) (fd:FuncData):Prop where
 ex:∃ (oc:Value) (od:Option Addr) (kV bF pm:Value) (an:Option Addr) (aw ct:Value) (cX:Array (Option Value)),
  fd=PySem.W.fnOf x qual (mX st) (jh st) (aA st) .none kV bF pm an aw ct/\K.lookup f=some ⟨oc,od,.func fd,cX⟩/\PySem.W.codeIn K aw qual=true
 kp:PySem.W.keepIn K (.ref f)=true
section
variable {K:PySem.W.Frag}
end
theorem eR {k:Nat} (hr:aZ k A):A.units + 1<cLine:=Na (Nat.add_le_add_left (by decide:1<=64) _) hr.units
theorem pv (i:Nat) (hN:X.N[i]?=some x:=by rfl) (hv:Vis X.env.scope x:=by first|exact Or.inl rfl|exact Or.inr (Or.inl Y)|exact Or.inr (Or.inr Y)) (hd:(x == ("__debug__":Str))=false:=by decide)
  (eM:(x == ("__classdict__":Str))=false:=by decide):PE X (.Name x pos) (tVar i):=pe_var hN hv hd eM
theorem z6:fP X (.builtin "len") (fun xs H Q=>∃ a kvs,xs=[V.ref a]/\H a=some (.dK kvs)/\Q (.int kvs.length) H):=by
 intro aa s σ H xs us Q I r h;obtain⟨a,kvs,rfl,ha,q⟩:=h;obtain⟨u,rfl,ru⟩:=eV r;cases ru
 exact d_len I (.inl ha) fun t s' I'=>⟨.int kvs.length,H,I',⟨t,Y⟩,q⟩
theorem iteF {A B:Prop} (h:B):if false=true then A else B:=by
 rw[if_neg Mq];exact h
theorem lp {A B:Prop} (h:A):if true=true then A else B:=by
 rw[if_pos rfl];exact h
def af (H H':Hp):Prop:=∀ b o,H b=some o->H' b=some o
theorem af.refl (H:Hp):af H H:=fun _ _ h=>h
theorem af.trans  (a:af H H1) (b:af H1 H2):af H H2:=fun c o h=>b c o (a c o h)
theorem af.free  (e:af H H') (h:H' l=Option.none):H l=Option.none:=by
 cases q:H l with
 | none=>rfl
 | some o=>
  rw[e l o q] at h;cases h
theorem af.seq {K:PySem.W.Frag} (e:af H H') (h:SqL K H a xs):SqL K H' a xs:=by
 rcases h with(h|⟨o,h⟩)|h
 ·exact .inl (.inl (e _ _ h))
 ·exact .inl (.inr ⟨o,e _ _ h⟩)
 ·exact .inr h
section
variable {κ:Type} [DecidableEq κ]
theorem J5 {p:κ×V}{r:List (κ×V)}{k:κ} (e:p.1=k):gF (p::r) k=gF r k:=by
 unfold gF;rw[MD,if_neg (by simp[e])]
theorem HQ {p:κ×V}{r:List (κ×V)}{k:κ} (e:¬ p.1=k):gF (p::r) k=p::gF r k:=by
 unfold gF;rw[MD,if_pos (by simp[e])]
end
def c7 (cells:List (Str×Addr)):List (Str×NameKind)->List (Str×Addr)->List (Str×Addr)
 | [],acc=>acc
 | (n,k)::r,acc=>c7 cells r (if (k == NameKind.free)=true then(n,(cells.lookup n).getD 0)::acc else acc)
theorem wE  (h:∀ y∈scope.names,y.2=.free->(env.cells.lookup y.1).isSome=true) :
  closureFor scope env=pure (c7 env.cells scope.names []):=by
 simp only[closureFor]
 generalize scope.names=l at h ⊢;generalize ([]:List (Str×Addr))=acc
 induction l generalizing acc with
 | nil=>rfl
 | cons x r ih=>
  obtain⟨n,k⟩:=x;have hr:=fun y hy=>h y (Mo _ hy)
  by_cases hk:k=.free
  ·subst hk
   obtain⟨c,hc⟩:=Option.isSome_iff_exists.mp (h (n,.free) Ms Y);have pZ:=ih hr ((n,c)::acc);simp only[Oj,cellOf,hc,c7,beq_self_eq_true,if_true,Option.getD_some] at pZ ⊢
   exact pZ
  ·have hb:(k == NameKind.free)=false:=by simpa using hk
   have pZ:=ih hr acc;simp only[Oj,c7,hb,MY,if_false] at pZ ⊢
   exact pZ
theorem rh {cells:List (Str×Addr)}{x:Str}{c:Addr}:∀ {l:List (Str×NameKind)}{acc:List (Str×Addr)},(∀ y∈l,y.2=.free->(cells.lookup y.1).isSome=true) ->
  (c7 cells l acc).lookup x=some c->acc.lookup x=some c\/cells.lookup x=some c
 | [],_,_,h=>.inl h
 | (n,k)::r,acc,hf,h=>by
  have hr:∀ y∈r,y.2=.free->(cells.lookup y.1).isSome=true:=fun y hy=>hf y (Mo _ hy)
  by_cases hk:k=.free
  ·subst hk
   rcases rh (l:=r) hr (show(c7 cells r ((n,(cells.lookup n).getD 0)::acc)).lookup x=some c from h) with q|q
   ·rw[Nd] at q
    by_cases hx:x=n
    ·subst hx
     rw[beq_self_eq_true] at q;obtain⟨c',hc⟩:=Option.isSome_iff_exists.mp (hf (x,.free) Ms Y);have hc:cells.lookup x=some c':=hc;rw[hc] at q ⊢;exact .inr q
    ·rw[beq_eq_false_iff_ne.mpr hx] at q
     exact .inl q
   ·exact .inr q
  ·have hb:¬ (k == NameKind.free)=true:=by simpa using hk
   have h':(c7 cells r (if (k == NameKind.free)=true then(n,(cells.lookup n).getD 0)::acc else acc)).lookup x=some c:=h;rw[if_neg hb] at h';exact rh hr h'
theorem qH {cells:List (Str×Addr)}{x:Str}:∀ {l:List (Str×NameKind)}{acc:List (Str×Addr)},((x,NameKind.free)∈l\/(acc.lookup x).isSome=true)->((c7 cells l acc).lookup x).isSome=true
 | [],_,h=>by
  rcases h with h|h
  ·cases h
  ·exact h
 | (n,k)::r,acc,h=>by
  show((c7 cells r (if (k == NameKind.free)=true then(n,(cells.lookup n).getD 0)::acc else acc)).lookup x).isSome=true;refine qH ?_;rcases h with h|h
  ·rcases M5.mp h with e|e
   ·cases e
    right
    rw[if_pos (by rfl),Nd,beq_self_eq_true];rfl
   ·exact .inl e
  ·right
   by_cases hb:(k == NameKind.free)=true
   ·rw[if_pos hb,Nd]
    cases hx:x == n with
    | true=>rfl
    | false=>exact h
   ·rw[if_neg hb]
    exact h
theorem Bm (c:Bool){n:Str}{k:NameKind} (hx:(x == n)=true):((if c=true then(n,NameKind.cell) else(n,k))::r).lookup x=some (if c=true then .cell else k):=by
 cases c <;> simp[Nd,hx]
theorem A0 (c:Bool){n:Str}{k:NameKind} (hx:(x == n)=false):((if c=true then(n,NameKind.cell) else(n,k))::r).lookup x=r.lookup x:=by
 cases c <;> simp[Nd,hx]
theorem BB {env:Env}:∀ {names:List (Str×NameKind)}{x:Str},names.lookup x=some .free ->
  (names.map fun(n,k)=>if (k == NameKind.free && env.scope.kind == .function && env.kindOf n == some .cell) then(n,NameKind.cell) else(n,k)).lookup x=some .cell \/
  (names.map fun(n,k)=>if (k == NameKind.free && env.scope.kind == .function && env.kindOf n == some .cell) then(n,NameKind.cell) else(n,k)).lookup x=some .free
 | [],_,h=>by simp at h
 | (n,k)::r,x,h=>by
  have ih:=@BB env r x;rw[Nd] at h;rw[MG];cases hx:x == n with
  | true=>
   rw[hx] at h;cases h
   dsimp only;rw[Bm _ hx];cases (NameKind.free == NameKind.free && env.scope.kind == .function && env.kindOf n == some .cell) with
   | true=>exact .inl rfl
   | false=>exact .inr rfl
  | false=>
   rw[hx] at h;dsimp only;rw[A0 _ hx];exact ih h
theorem xq {env:Env}:∀ {names:List (Str×NameKind)}{x:Str}{k':NameKind},(k'=.cell\/k'=.free) ->
  (names.map fun(n,k)=>if (k == NameKind.free && env.scope.kind == .function && env.kindOf n == some .cell) then(n,NameKind.cell) else(n,k)).lookup x=some k' ->
  ∃ k,(k=.free\/k=.cell)/\(x,k)∈names
 | [],_,_,_,h=>by simp at h
 | (n,k)::r,x,k',hk,h=>by
  have ih:=@xq env r x k' hk;rw[MG] at h;dsimp only at h;cases hx:x == n with
  | true=>
   have e:x=n:=eq_of_beq hx;subst e;rw[Bm _ hx] at h;cases hc:(k == NameKind.free && env.scope.kind == .function && env.kindOf x == some .cell) with
   | true=>
    simp only[Mz,beq_iff_eq] at hc
    obtain⟨⟨rfl,_⟩,_⟩:=hc;exact⟨.free,.inl Y,Ms⟩
   | false=>
    rw[hc] at h;have h:some k=some k':=h;cases h
    rcases hk with rfl|rfl
    ·exact⟨_,.inr Y,Ms⟩
    ·exact⟨_,.inl Y,Ms⟩
  | false=>
   rw[A0 _ hx] at h;obtain⟨k2,h1,h2⟩:=ih h;exact⟨k2,h1,Mo _ h2⟩
def gG (X:Cx) (scope:Scope) (cl:List (Str×Addr)) (C:Addr) (N:List Str) (s:Shared) (H:Hp) (fp:List Addr) (aa:List (Addr×Obj)):Cx:=
 { X with N:=N,s₀:=s,H₀:=H,env:=compEnvC scope cl C X.env,outer:=X.stack,stack:=X.stack,ex:=fp,fn:=fun _=>false,pn:=X.pn++aa,xe:=fun _ _=>False }
def gi (cap:List (Option Nat)) (σ:St):St:=cap.map fun o=>o.bind fun j=>(σ[j]?).join
def isCF:Option NameKind->Bool
 | some .cell=>true
 | some .free=>true
 | _=>false
def fV (sc:Scope) (XN:List Str):List (Option Nat)->List Str->Bool
 | [],[]=>true
 | some j::r,x::xs=>(XN[j]? == some x) && (sc.names.lookup x == some NameKind.free) && fV sc XN r xs
 | none::r,_::xs=>fV sc XN r xs
 | _,_=>false
def dk (osc sc:Scope) (XN N:List Str) (cap:List (Option Nat)):Bool:=
 (sc.kind == ScopeKind.function) && sc.names.all (fun y=>y.2 != NameKind.cell) && sc.names.all (fun y=>y.2 != NameKind.local || sc.names.lookup y.1 == some NameKind.local) &&
 sc.names.all (fun y=>y.2 != NameKind.free || isCF (osc.names.lookup y.1)) && fV sc XN cap N
theorem tD {sc:Scope}{XN:List Str}:∀ {cap:List (Option Nat)}{N:List Str},fV sc XN cap N=true->cap.length=N.length
 | [],[],_=>rfl
 | some _::r,_::xs,h=>by
  simp only[fV,Mz] at h
  simp[tD h.2]
 | none::r,_::xs,h=>by
  simp only[fV] at h
  simp[tD h]
 | [],_::_,h=>by simp[fV] at h
 | some _::_,[],h=>by simp[fV] at h
 | none::_,[],h=>by simp[fV] at h
theorem tH {sc:Scope}{XN:List Str}:∀ {cap:List (Option Nat)}{N:List Str}{i j:Nat}{x:Str},fV sc XN cap N=true->cap[i]?=some (some j)->N[i]?=some x->XN[j]?=some x/\sc.names.lookup x=some .free
 | [],_,i,_,_,_,h,_=>by simp at h
 | some _::r,y::xs,0,j,x,h,h1,h2=>by
  simp only[fV,Mz,beq_iff_eq] at h
  simp at h1 h2
  subst h1;subst h2
  exact⟨h.1.1,h.1.2⟩
 | some _::r,y::xs,i + 1,j,x,h,h1,h2=>by
  simp only[fV,Mz] at h
  exact tH (i:=i) h.2 (by simpa using h1) (by simpa using h2)
 | none::r,y::xs,0,j,x,h,h1,h2=>by simp at h1
 | none::r,y::xs,i + 1,j,x,h,h1,h2=>by
  simp only[fV] at h
  exact tH (i:=i) h (by simpa using h1) (by simpa using h2)
 | some _::_,[],_,_,_,h,_,_=>by simp[fV] at h
 | none::_,[],_,_,_,h,_,_=>by simp[fV] at h
theorem Inv.clos (I:Inv X aa σ H s) (ok:dk X.env.scope scope X.N N cap=true):∀ y∈scope.names,y.2=.free->(X.env.cells.lookup y.1).isSome=true:=fun y hy hf=>by
 simp only[dk,Mz,Nm] at ok
 have h:=ok.1.2 y hy;rw[hf] at h;have h':isCF (X.env.scope.names.lookup y.1)=true:=by simpa using h
 have hk:X.env.kindOf y.1=some .cell\/X.env.kindOf y.1=some .free:=by
  show X.env.scope.names.lookup y.1=_\/X.env.scope.names.lookup y.1=_;cases e:X.env.scope.names.lookup y.1 with
  | none=>rw[e] at h';cases h'
  | some k=>
   rw[e] at h';cases k <;> first|exact .inl rfl|exact .inr rfl|cases h'
 obtain⟨c,e⟩:=I.ok.has y.1 hk;rw[e];rfl
theorem Inv.comp (I:Inv X aa σ H s) (ok:dk X.env.scope scope X.N N cap=true) (f:∀ b∈fp,bv X aa H b) (fo:∀ b∈fp,∃ o,s.heap.get? b=some o){tk:Nat}{EM:Obj}
  (hn:h₁.Ns (s.heap.push { cls:=.type "list",data:=.seq #[] }).objs.size (fun _=>none))
  (hs:Heap.SameBut (s.heap.push { cls:=.type "list",data:=.seq #[] }).objs.size ((s.heap.push { cls:=.type "list",data:=.seq #[] }).push EM) h₁) :
  Inv (gG X scope (c7 X.env.cells scope.names []) (s.heap.push { cls:=.type "list",data:=.seq #[] }).objs.size N { s with heap:=s.heap.push { cls:=.type "list",data:=.seq #[] } } (upd H s.heap.objs.size (.lst [])) fp aa)
   [] (gi cap σ) (upd H s.heap.objs.size (.lst [])) { s with heap:=h₁,toks:=tk }:=by
 have kg:=ok;simp only[dk,Mz,Nm,beq_iff_eq] at ok
 obtain⟨⟨⟨⟨bf,bA⟩,_⟩,_⟩,gr⟩:=ok;have cl:=I.clos kg;have hC:(s.heap.push { cls:=.type "list",data:=.seq #[] }).objs.size=s.heap.objs.size + 1:=MI ..;generalize y8:(s.heap.push { cls:=.type "list",data:=.seq #[] }).objs.size=C at hn hs hC ⊢;have below:∀ b o,s.heap.get? b=some o->b≠C/\b≠s.heap.objs.size:=fun b o e=>by
  have:=Mc e;exact⟨by rw[hC];exact Mn (M0 this),Mn this⟩
 have old:∀ b o,s.heap.get? b=some o->h₁.get? b=some o:=fun b o e=>hs.extBut b o (below b o e).1 (Ma _ (Ma _ e))
 have yP:∀ b o,s.heap.get? b=some o->(s.heap.push { cls:=.type "list",data:=.seq #[] }).get? b=some o:=fun b o e=>Ma _ e
 have oW:∀ b o,(s.heap.push { cls:=.type "list",data:=.seq #[] }).get? b=some o->h₁.get? b=some o:=fun b o e=>by
  have:b<C:=by rw[<- y8];exact Mc e
  exact hs.extBut b o (Mn this) (Ma _ e)
 have hD:H s.heap.objs.size=none:=I.hok.fresh (Md _);have fY:∀ b o,s.heap.get? b=some o->H b=none->upd H s.heap.objs.size (.lst []) b=none:=fun b o e n=>by rw[ak (below b o e).2];exact n
 have C4:upd H s.heap.objs.size (.lst []) C=none:=by
  rw[ak (by rw[hC];exact Nf (Nc _))];exact I.hok.fresh (by rw[hC];exact M3 _)
 have aJ:∀ x c,(c7 X.env.cells scope.names []).lookup x=some c->X.env.cells.lookup x=some c:=fun x c e=>by
  rcases rh cl e with q|q
  ·simp at q
  ·exact q
 have km:∀ x c,(c7 X.env.cells scope.names []).lookup x=some c->∃ v o,s.heap.IsCell c v/\s.heap.get? c=some o:=fun x c e=>by
  obtain⟨v,q⟩:=I.cell x c (aJ x c e);obtain⟨o,ho,_⟩:=id q;exact⟨v,o,q,ho⟩
 have uo:HOk X.prog X.w (upd H s.heap.objs.size (.lst [])) h₁:=I.hok.laid old (Md _) (show bZ X.prog X.w _ h₁ s.heap.objs.size (.lst []) from⟨MW _,[],0,.nil,oW _ _ (Mi _ Y)⟩);have v0:∀ b∈frs X.stack,∃ o,s.heap.get? b=some o:=fun b hb=>by
  obtain⟨_,o,ho,_⟩:=I.stack.mem hb;exact⟨o,ho⟩
 refine⟨⟨I.ok.mod,bf,I.ok.glob,I.ok.blt,NN y8,fun y z c h1 h2=>I.ok.inj y z c (aJ y c h1) (aJ z c h2),fun y hy=>?_,fun y c hf _=>Bool.noConfusion hf,I.hdAt.new hD,I.ok.frames,.inl Y,fun b hb=>?_,
   fun b o e=>⟨yP b o (I.bs b o e).1,fY b o (I.bs b o e).1 (I.bs b o e).2⟩,?_,fun b o e hb=>?_,fun b hb Dp=>?_,?_,fun b hb=>?_⟩,
  rfl,I.bare,Un.kept oW,⟨_,hn,fun i x v h1 h2 h3=>?_⟩,fun x c e=>?_,C4,fun x c e=>?_,fun p hp=>?_,uo,?_⟩
 ·-- has
  have hy:(relabel scope X.env).names.lookup y=some .cell\/(relabel scope X.env).names.lookup y=some .free:=hy;have:(y,NameKind.free)∈scope.names:=by
   rcases hy with q|q
   ·obtain⟨k,hk,hm⟩:=xq (.inl Y) q
    rcases hk with rfl|rfl
    ·exact hm
    ·exact absurd (show(NameKind.cell != NameKind.cell)=true from bA _ hm) (by decide)
   ·obtain⟨k,hk,hm⟩:=xq (.inr Y) q
    rcases hk with rfl|rfl
    ·exact hm
    ·exact absurd (show(NameKind.cell != NameKind.cell)=true from bA _ hm) (by decide)
  exact Option.isSome_iff_exists.mp (qH (.inl this))
 ·-- exf
  obtain⟨o,e⟩:=fo b hb;exact⟨(below b o e).1,fun x c q=>(f b hb).2.2.2.2.1 x c (aJ x c q)⟩
 ·-- bsz
  show X.base.objs.size<=(s.heap.push { cls:=.type "list",data:=.seq #[] }).objs.size;rw[MI];exact OC (MN I.ok.bsz I.sz)
 ·-- noex
  rcases(f b hb).2.2.2.1 with q|q
  ·exact I.ok.noex b o e q
  ·exact absurd (Mv (Mc (I.ok.bs b o e).1) q) (MF _)
 ·-- exfs
  rcases M5.mp (I.stkSub b Dp) with q|q
  ·exact(f b hb).2.1 q
  ·exact(f b hb).2.2.1 q
 ·-- funs
  exact I.stack.of_keeps fun b o e _=>⟨o,yP b o e,Y⟩
 ·-- frf
  obtain⟨o,e⟩:=v0 b hb;exact fY b o e (I.stkFree b hb)
 ·-- loc
  have hi:∃ j,cap[i]?=some (some j)/\σ[j]?=some (some v):=by
   unfold gi at h2;rw[Mm] at h2;cases e:cap[i]? with
   | none=>rw[e] at h2;cases h2
   | some o=>
    rw[e] at h2;cases o with
    | none=>cases h2
    | some j=>
     refine⟨j,Y,?_⟩;have fc:(σ[j]?).join=some v:=Option.some.inj h2;cases e2:σ[j]? with
     | none=>rw[e2] at fc;cases fc
     | some o2=>rw[e2] at fc;rw[show o2=some v from fc]
  obtain⟨j,hj,hv⟩:=hi;obtain⟨hX,lP⟩:=tH gr hj h1;have ii:(x,NameKind.free)∈scope.names:=PySem.mem_of_lookup lP;have pz:=kg;simp only[dk,Mz,Nm] at pz
  have h':isCF (X.env.scope.names.lookup x)=true:=by simpa using pz.1.2 _ ii
  have hk:X.env.scope.names.lookup x=some .cell\/X.env.scope.names.lookup x=some .free:=by
   cases e:X.env.scope.names.lookup x with
   | none=>rw[e] at h';cases h'
   | some k=>
    rw[e] at h';cases k <;> first|exact .inl rfl|exact .inr rfl|cases h'
  obtain⟨m,_,hl⟩:=I.loc;obtain⟨u,ru,lk⟩:=hl j x v hX hv (hk.elim (fun q=>.inr (.inl q)) fun q=>.inr (.inr q));refine⟨u,ru,.inr ⟨BB lP,?_⟩⟩;rcases lk with⟨q,_⟩|⟨_,c,hc,lA⟩
  ·have q':X.env.scope.names.lookup x=some .local:=q
   rcases hk with z|z
   ·rw[z] at q';cases q'
   ·rw[z] at q';cases q'
  ·obtain⟨c',g9⟩:=Option.isSome_iff_exists.mp (qH (cells:=X.env.cells) (acc:=[]) (.inl ii))
   have:c'=c:=by
    have:=aJ x c' g9;rw[hc] at this;exact(Option.some.inj this).symm
   subst this;obtain⟨o,ho,hd⟩:=lA;exact⟨c',g9,o,old c' o ho,hd⟩
 ·-- cell
  obtain⟨v,o,⟨o',ho,hd⟩,_⟩:=km x c e;exact⟨v,o',old c o' ho,hd⟩
 ·-- freeC
  obtain⟨v,o,_,ho⟩:=km x c e;exact fY c o ho (I.freeC x c (aJ x c e))
 ·-- aa
  have CW:p∈X.pn++aa:=by simpa [gG] using hp
  obtain⟨e,n,ne,nf,d⟩:=I.pin p CW;refine⟨old _ _ e,fY _ _ e n,(below _ _ e).1,fun z=>?_,d⟩;rcases M5.mp (I.stkSub p.1 z) with q|q
  ·exact ne q
  ·exact nf q
 ·-- len
  show(gi cap σ).length=N.length;unfold gi;rw[L9];exact tD gr
theorem KH {b8:Expr}{it acc:Value} (J:Nat->Shared->Prop)
  (turn:∀ n s,J n s->wpAny (model prog w) A (pyNext it) (fun r s₁=>match r with
   | none=>R (.ok .next) s₁
   | some v=>wpAny (model prog w) A (letOwnedTupleGo b8 it v) (fun _ s₂=>wpAny (model prog w) A (assign b8 env v) (fun _ s₃=>
     wpAny (model prog w) A (forIn fE true fun c r=>if r=true then do let ok <- isTrue c env (eval c env);pure (ForInStep.yield ok) else pure (ForInStep.yield r)) (fun ok s₄=>
      if ok=true then wpAny (model prog w) A (eval ft env) (fun x s₅=>
       wpAny (model prog w) A (call (.builtin "list.append") [acc,x]) (fun _ s₆=>∃ m,m<n/\J m s₆) (fun _ _=>False) s₅) (fun _ _=>False) s₄
      else ∃ m,m<n/\J m s₄) (fun _ _=>False) s₃) (fun _ _=>False) s₂) (fun _ _=>False) s₁) (fun _ _=>False) s)
  (n:Nat) (h:J n s):codeAny (model prog w) A (.compLoop (.ListComp ft [⟨b8,iter,fE,0⟩] scope pos) 0 it acc env) R s:=by
 have no:∀ {E:Value->Shared->Prop} (e:Value) (s':Shared),(fun(_:Value) (_:Shared)=>False) e s'->E e s':=fun _ _ z=>z.elim
 refine codeAny_loop Y J (fun n s hI=>?_) n h;show wpAny _ A ((compTurn (.ListComp ft [⟨b8,iter,fE,0⟩] scope pos) 0 it acc env).onRaise (fun x=>do noteFrame x env;theTreesLotGoes x)) _ _ s;refine wpAny_noted ?_;rw[compTurn_list];refine l7 (NR (l7 (MV (turn n s hI) (fun r s₁ h₁=>?_) no)));cases r with
 | none=>exact Mb h₁
 | some v=>
  refine l7 (MV h₁ (fun _ s₂ h₂=>l7 (MV h₂ (fun _ s₃ h₃=>l7 (MV h₃ (fun ok s₄ h₄=>?_) no)) no)) no);cases ok with
  | false=>exact Mb ⟨Y,h₄⟩
  | true=>
   exact l7 (l7 (MV h₄ (fun x s₅ h₅=>l7 (MV h₅ (fun _ s₆ h₆=>Mb (Mb ⟨Y,h₆⟩)) no)) no))
def PIf (X:Cx) (cs:List Expr) (t:TT):Prop:=
 ∀ (aa:List (Addr×Obj)) (s:Shared) (σ:St) (H:Hp) (Q:Bool->Hp->Prop),Inv X aa σ H s->t σ H Q ->
  wpAny (model X.prog X.w) X.A (forIn cs true fun c r=>if r=true then do let ok <- isTrue c X.env (eval c X.env);pure (ForInStep.yield ok) else pure (ForInStep.yield r)) (TP X aa σ Q) X.xe s
def cJ:TT:=fun _ H Q=>Q true H
theorem dM:PIf X [] cJ:=fun _ _ _ H _ I h=>wpAny_tests_nil ⟨H,I,h⟩
theorem wd {c:Expr}{t:TT} (h:PT X c t):PIf X [c] t:=fun aa s σ H Q I hq=>wpAny_tests_one (h aa s σ H Q I hq)
def jU (J:It) (D:Addr) (τ:St) (H:Hp) (g:TG) (tt:TT) (te:TE) (Q:VK):Prop:=
 ∃ W:Nat->Nat->St->Hp->Prop,(∃ m,W 0 m τ H)/\∀ i m τ H,W i m τ H ->
  (J.stop i H/\Q (.ref D) H)\/(J.go i H/\∃ M:St->Hp->Prop,(∀ τ' H',M τ' H'->∃ m',m'<m/\W (i + 1) m' τ' H')/\∀ x H',J.yld i H x H'->g x τ H' fun τ2 H2=>tt τ2 H2 fun b H3=>
   if b=true then te τ2 H3 fun y H4=>∃ ys,H4 D=some (.lst ys)/\ys.length<sizeLine/\M τ2 (upd H4 D (.lst (ys++[y]))) else M τ2 H3)
def tComp (wi:TI) (cap:List (Option Nat)) (g:TG) (tt:TT) (te:TE):TE:=fun σ H Q=>wi σ H fun J H1=>∀ D,H1 D=none->jU J D (gi cap σ) (upd H1 D (.lst [])) g tt te Q
section
variable {g:TG}{te:TE}
theorem Az {J:It}{it:Addr}{tn:Nat->Heap->Prop}{Q:VK}{RR:Value->Addr->Result->Shared->Prop}
  (hc:X.calm=true) (ok:dk X.env.scope scope X.N N cap=true)
  (hg:∀ cl C s H fp aa,PG (gG X scope cl C N s H fp aa) tg g) (hf:∀ cl C s H fp aa,PIf (gG X scope cl C N s H fp aa) fE tt) (he:∀ cl C s H fp aa,PE (gG X scope cl C N s H fp aa) ft te)
  (I:Inv X aa σ H s) (T:jG X.prog X.w X.K tg J fp it tn) (st:tn 0 s.heap) (f:∀ b∈fp,bv X aa H b)
  (q:∀ D,H D=none->jU J D (gi cap σ) (upd H D (.lst [])) g tt te Q)
  (fin:∀ D C H' s' m,Inv X aa σ H' s'->bv X aa H' C->s'.heap.Ns C m->Q (.ref D) H'->RR (.ref D) C (.ok .next) s') :
  wpAny (model X.prog X.w) X.A (newList []) (fun acc s₃=>wpAny (model X.prog X.w) X.A (newFunctionEnv scope X.env.globals (c7 X.env.cells scope.names []) [] X.env.qual none .none (some X.env)) (fun o8 s₄=>
   codeAny (model X.prog X.w) X.A (.compStart (.ListComp ft [⟨tg,iter,fE,0⟩] scope pos) 0 (.ref it) acc { o8 with scope:=relabel scope X.env }) (RR acc o8.locals) s₄) E s₃) E s:=by
 have j4:=ok;simp only[dk,Mz,Nm,beq_iff_eq] at j4
 obtain⟨⟨⟨⟨bf,bA⟩,_⟩,_⟩,gr⟩:=j4;refine NA (Pb (fun y hy=>by simpa using bA y hy) (by intro y hy;simp at hy) (fun h₁ qb mC=>?_) bf);dsimp only at qb mC ⊢;have fo:∀ b∈fp,∃ o,s.heap.get? b=some o:=fun b hb=>let ⟨o,e,_⟩:=T.obj _ _ st b hb;⟨o,e⟩
 have J0:=I.comp (h₁:=h₁) (tk:=s.toks + ([]:List (Str×Value)).length) ok f fo qb mC;have ip:H s.heap.objs.size=none:=I.hok.fresh (Md _);obtain⟨W,⟨m0,w0⟩,turn⟩:=q _ ip;generalize hY:gG X scope (c7 X.env.cells scope.names []) (s.heap.push { cls:=.type "list",data:=.seq #[] }).objs.size N { s with heap:=s.heap.push { cls:=.type "list",data:=.seq #[] } } (upd H s.heap.objs.size (.lst [])) fp aa=U0 at J0;have below:∀ b∈fp,b<s.heap.objs.size:=fun b hb=>let ⟨o,e⟩:=fo b hb;Mc e
 have cl:=I.clos ok;have fi:∀ {H':Hp},(∀ b∈fp,H' b=none)->∀ b∈fp,bv U0 [] H' b:=fun {H'} hn b hb=>by
  subst hY;refine⟨hn b hb,?_,fun z=>?_,.inl hb,fun x c e=>?_,fun p hp=>?_⟩
  ·show b≠(s.heap.push { cls:=.type "list",data:=.seq #[] }).objs.size
   rw[MI];exact Mn (M0 (below b hb))
  ·rcases M5.mp (I.stkSub b z) with q|q
   ·exact(f b hb).2.1 q
   ·exact(f b hb).2.2.1 q
  ·refine(f b hb).2.2.2.2.1 x c ?_
   rcases rh cl e with z|z
   ·simp at z
   ·exact z
  ·exact(f b hb).2.2.2.2.2 p (by simpa [gG] using hp)
 have EY:PG U0 tg g:=hY ▸ hg _ _ _ _ _ _;have EI:PIf U0 fE tt:=hY ▸ hf _ _ _ _ _ _;have C8:PE U0 ft te:=hY ▸ he _ _ _ _ _ _;have e1:U0.prog=X.prog:=by subst hY;rfl
 have e2:U0.w=X.w:=by subst hY;rfl
 have e3:U0.K=X.K:=by subst hY;rfl
 have e4:U0.calm=true:=by subst hY;exact hc
 have e5:U0.A=X.A:=by subst hY;rfl
 have e6:U0.env=compEnvC scope (c7 X.env.cells scope.names []) (s.heap.push { cls:=.type "list",data:=.seq #[] }).objs.size X.env:=by subst hY;rfl
 have e7:U0.xe=fun _ _=>False:=by subst hY;rfl
 have vT:∀ b∈fp,upd H s.heap.objs.size (.lst []) b=none:=fun b hb=>by rw[ak (Mn (below b hb))];exact(f b hb).1
 have iR:tn 0 h₁:=T.keep _ _ _ st fun b hb o e=>mC.extBut b o (by
  have:=below b hb;rw[MI];exact Mn (M0 this)) (Ma _ (Ma _ e))
 have loop:∀ s₃:Shared,s₃={ s with heap:=h₁,toks:=s.toks + ([]:List (Str×Value)).length } ->
   codeAny (model X.prog X.w) X.A (.compLoop (.ListComp ft [⟨tg,iter,fE,0⟩] scope pos) 0 (.ref it) (.ref s.heap.objs.size)
    (compEnvC scope (c7 X.env.cells scope.names []) (s.heap.push { cls:=.type "list",data:=.seq #[] }).objs.size X.env)) (RR (.ref s.heap.objs.size) (s.heap.push { cls:=.type "list",data:=.seq #[] }).objs.size) s₃:=by
  rintro s₃ rfl
  refine KH (fun n s'=>∃ i τ H',Inv U0 [] τ H' s'/\tn i s'.heap/\(∀ b∈fp,H' b=none)/\W i n τ H') ?_ m0 ⟨0,_,_,J0,iR,vT,w0⟩;rintro n s' ⟨i,τ,H',I',aL,qq,w'⟩
  rcases turn i n τ H' w' with⟨stop,qn⟩|⟨go,M,hM,step⟩
  ·have z:=T.done U0 e1 e2 e3 e4 i [] s' τ H' (fun _ _=>False) I' (fi qq) aL stop
   rw[e5] at z;refine thn z fun r s4 ⟨hr,I4⟩=>?_
   subst hr;subst hY;obtain⟨m,Dl,_⟩:=I4.loc;have ho:s4.os=s.os:=I4.os;have un:Un (frs X.stack) fp H H' s.heap s4.heap:=by
    have u1:Un (frs X.stack) fp H (upd H s.heap.objs.size (.lst [])) s.heap (s.heap.push { cls:=.type "list",data:=.seq #[] }):=Un.laid (fun b u e=>Ma _ e) (Md _) ip;exact u1.trans I4.base
   have IX:Inv X aa σ H' s4:=I.call' ho un I4.hok I4.bare fun b hb=>⟨(f b hb).2.2.2.1,(f b hb).2.1,(f b hb).2.2.2.2.1,(f b hb).2.2.2.2.2⟩
   exact fin _ _ H' s4 m IX (I.fpOk (by rw[MI];exact M3 _) I4.free) Dl qn
  ·have z:=T.item U0 e1 e2 e3 e4 i [] s' τ H' (fun _ _=>False) I' (fi qq) aL go
   rw[e5] at z;refine thn z fun r s4 ⟨u,hr,h4⟩=>?_
   subst hr;refine thn h4 fun _ s5=>L2.ex5 fun x H5 I5 r5 aX=>?_
   obtain⟨y5,l4,vz⟩:=aX;have uQ:=I5.pinned (fi vz) (T.obj _ _ l4);have zg:=EY _ s5 τ H5 x u _ uQ r5 (step x H5 y5);rw[e1,e2,e5,e6,e7] at zg;refine thn zg fun _ s6 ⟨τ6,H6,I6,q6⟩=>?_
   have zf:=EI _ s6 τ6 H6 _ I6 q6;rw[e1,e2,e5,e6,e7] at zf;refine thn zf fun b s7=>L2.ex3 fun H7 I7 q7=>?_
   have again:∀ {H8:Hp}{s8:Shared},Inv U0 ([]++qL fp s5.heap) τ6 H8 s8->M τ6 H8->∃ m,m<n/\∃ i τ H',Inv U0 [] τ H' s8/\tn i s8.heap/\(∀ b∈fp,H' b=none)/\W i m τ H':=fun {H8 s8} I8 w8=>by
    obtain⟨m',hm,w8⟩:=hM _ _ w8;refine⟨m',hm,i + 1,τ6,H8,I8.unpinned,T.keep _ _ _ l4 fun b hb o e=>(I8.pin (b,o) (Mr _ (Mr _ (sX hb e)))).1,fun b hb=>?_,w8⟩;obtain⟨o,e,d⟩:=T.obj _ _ l4 b hb;exact(I8.pin (b,o) (Mr _ (Mr _ (sX hb e)))).2.1
   cases b with
   | false=>exact again I7 q7
   | true=>
    have ze:=C8 _ s7 τ6 H7 _ I7 q7;rw[e1,e2,e5,e6,e7] at ze;refine thn ze fun v s8=>L2.ex5 fun y H8 I8 r8 aX=>?_
    obtain⟨ys,hD,hz,q8⟩:=aX;have za:=gj (X:=U0) _ s8 τ6 H8 (.ref s.heap.objs.size) [y] (.ref s.heap.objs.size) [v] (fun _ H9=>H9=upd H8 s.heap.objs.size (.lst (ys++[y]))) I8 Y (.cons r8 .nil) ⟨_,ys,y,Y,Y,hD,hz,Y⟩;rw[e1,e2,e5,e7] at za;refine thn za fun _ s9 ⟨_,H9,I9,_,e9⟩=>?_
    subst e9;exact again I9 q8
 exact codeAny_compStart_list (loop _ Y) (T.self X.A 0 _ _ _ iR (loop _ Y))
theorem cH {osc:Scope} (h1:X.env.scope=osc) (h2:X.N=XN) (ok:dk osc scope XN N cap=true):dk X.env.scope scope X.N N cap=true:=by
 rw[h1,h2];exact ok
theorem eX (hc:X.calm=true) (ok:dk X.env.scope scope X.N N cap=true) (hi:PI X tg iter wi)
  (hg:∀ cl C s H fp aa,PG (gG X scope cl C N s H fp aa) tg g) (hf:∀ cl C s H fp aa,PIf (gG X scope cl C N s H fp aa) fE tt) (he:∀ cl C s H fp aa,PE (gG X scope cl C N s H fp aa) ft te)
  (hs:∀ x,foldedSetIterable iter X.env x=pure x:=by intro _;rfl):PE X (.ListComp ft [⟨tg,iter,fE,0⟩] scope pos) (tComp wi cap g tt te):=by
 intro aa s σ H Q I h;have j4:=ok;simp only[dk,Mz,Nm,beq_iff_eq] at j4
 obtain⟨⟨⟨⟨bf,_⟩,ff⟩,_⟩,_⟩:=j4;rw[eval_ListComp];refine OK (use:=none) Y hs (wE (I.clos ok)) bf (fun y hy hl=>by simpa [hl] using ff y hy) (thn (hi aa s σ H _ I h) fun xv s1 h1=>thn h1 fun rS s2 h2=>?_);obtain⟨it,fp,tn,J,H2,e,I2,T,bR,f2,q⟩:=h2;subst e;refine Az (RR:=fun acc C=>compPost (model X.prog X.w) X.A X.xe none (EP X aa σ Q) acc C) hc ok hg hf he I2 T bR f2 q ?_;intro D C H' s' m I' fC hn qn;obtain⟨f0,f1,C6,f3,f4,f5⟩:=fC;exact⟨m,hn,fun h' sb=>⟨.ref D,H',I'.turned (t':=s'.toks) (fun b o hb e=>sb.extBut b o hb e) f0 f1 f3 f4 f5,Y,qn⟩⟩
theorem oH {pD:Pos} (hN:X.N.Nodup) (iT:X.N[i]?=some x) (hx:X.env.scope.names.lookup x=some .local) (hc:X.calm=true) (ok:dk X.env.scope scope X.N N cap=true) (hi:PI X tg iter wi)
  (hg:∀ cl C s H fp aa,PG (gG X scope cl C N s H fp aa) tg g) (hf:∀ cl C s H fp aa,PIf (gG X scope cl C N s H fp aa) fE tt) (he:∀ cl C s H fp aa,PE (gG X scope cl C N s H fp aa) ft te)
  (hsw:swapsWith (.ListComp ft [⟨tg,iter,fE,0⟩] scope pos) (some (.Name x aS)) pD.line X.env=pure true)
  (hs:∀ x,foldedSetIterable iter X.env x=pure x:=by intro _;rfl) :
  PS X (.Assign [.Name x aS] (.ListComp ft [⟨tg,iter,fE,0⟩] scope pos) pD) (tAsg (tComp wi cap g tt te) (aV i)):=by
 intro aa s σ H D I h;have j4:=ok;simp only[dk,Mz,Nm,beq_iff_eq] at j4
 obtain⟨⟨⟨⟨bf,_⟩,ff⟩,_⟩,_⟩:=j4;rw[exec_Assign_Name_used _ _ _ _ hsw];refine l7 (NR (l7 ?_));show wpAny _ X.A (do let _ <- comprehension (.ListComp ft [⟨tg,iter,fE,0⟩] scope pos) scope X.env _ (newList []) false (eval iter X.env) (some (assign (.Name x aS) X.env))) _ _ s;refine l7 (MV (OK (use:=some (assign (.Name x aS) X.env)) (Q:=fun _ s'=>SP X aa D .next s') Y hs (wE (I.clos ok)) bf (fun y hy hl=>by simpa [hl] using ff y hy)
  (thn (hi aa s σ H _ I h) fun xv s1 h1=>thn h1 fun rS s2 h2=>?_)) (fun _ s' hq=>Mb (Mb hq)) fun _ _ e=>e)
 obtain⟨it,fp,tn,J,H2,e,I2,T,bR,f2,q⟩:=h2;subst e;refine Az (RR:=fun acc C=>compPost (model X.prog X.w) X.A X.xe (some (assign (.Name x aS) X.env)) (fun _ s'=>SP X aa D .next s') acc C) hc ok hg hf he I2 T bR f2 q ?_;intro Dd C H' s' m I' fC hn qn;obtain⟨f0,f1,C6,f3,f4,f5⟩:=fC;show wpAny _ X.A (assign (.Name x aS) X.env (.ref Dd)) _ _ _;refine Pr (Be I' hN iT (.inl hx) (v:=.ref Dd) Y (fun s3 I3 ⟨a,sb,ha⟩=>?_) (.inr hx));have EO:C≠a:=by
  rcases ha with z|z
  ·rw[z];exact f1
  ·exact fun w=>f4 x a z w.symm
 refine⟨m,hn.sameBut sb EO,fun h' Ew=>?_⟩;exact⟨_,H',I3.turned (t':=s3.toks) (fun b o hb e=>Ew.extBut b o hb e) f0 f1 f3 f4 f5,qn⟩
theorem gA {K:PySem.W.Frag}{Q:VK} (Pv:Nat->St->Hp->Prop) (h0:Pv 0 τ H) (hl:∀ i τ H,i<=xs.length->Pv i τ H->SqL K H a xs)
  (hs:∀ i x τ H,xs[i]?=some x->Pv i τ H->g x τ H fun τ2 H2=>tt τ2 H2 fun b H3=>
   if b=true then te τ2 H3 fun y H4=>∃ ys,H4 D=some (.lst ys)/\ys.length<sizeLine/\Pv (i + 1) τ2 (upd H4 D (.lst (ys++[y]))) else Pv (i + 1) τ2 H3)
  (hd:∀ τ H,Pv xs.length τ H->Q (.ref D) H):jU (Itl K a) D τ H g tt te Q:=
 wk_ (n:=xs.length) Pv h0 (fun i σ H hi p=>⟨fun h=>⟨xs,xs[i],hl i σ H hi p,by simp[h]⟩,fun h=>⟨xs,hl i σ H hi p,h⟩⟩) (fun i x σ H H' hi p y=>by
 obtain⟨rfl,y⟩:=y;exact hs i x σ _ (y xs (hl i σ _ (Nk hi) p)) p) hd
theorem Js {K:PySem.W.Frag}{Q:VK} (Pv:Nat->St->Hp->Prop) (h0:Pv 0 τ H) (hl:∀ i τ H,i<=xs.length->Pv i τ H->SqT K H a xs)
  (hs:∀ i x τ H,xs[i]?=some x->Pv i τ H->g x τ H fun τ2 H2=>tt τ2 H2 fun b H3=>
   if b=true then te τ2 H3 fun y H4=>∃ ys,H4 D=some (.lst ys)/\ys.length<sizeLine/\Pv (i + 1) τ2 (upd H4 D (.lst (ys++[y]))) else Pv (i + 1) τ2 H3)
  (hd:∀ τ H,Pv xs.length τ H->Q (.ref D) H):jU (Itt K a) D τ H g tt te Q:=by
 refine⟨fun i m τ H=>m=xs.length - i/\i<=xs.length/\Pv i τ H,⟨xs.length,by simp,MW _,h0⟩,?_⟩;rintro i m τ H ⟨rfl,hi,p⟩
 have q:=hl i τ H hi p;by_cases bp:i<xs.length
 ·refine .inr ⟨⟨xs,xs[i],q,by simp[bp]⟩,Pv (i + 1),fun τ' H' p'=>⟨xs.length - (i + 1),by omega,Y,bp,p'⟩,fun x H' y=>?_⟩
  obtain⟨e,y⟩:=y;subst e;exact hs i x τ _ (y xs q) p
 ·have e:i=xs.length:=by omega
  subst e;exact .inl ⟨⟨xs,q,Md _⟩,hd τ H p⟩
theorem ow {lo:Int}{Q:VK} (Pv:Nat->St->Hp->Prop) (h0:Pv 0 τ H)
  (hs:∀ i τ H,i<n->Pv i τ H->g (.int (lo + i)) τ H fun τ2 H2=>tt τ2 H2 fun b H3=>
   if b=true then te τ2 H3 fun y H4=>∃ ys,H4 D=some (.lst ys)/\ys.length<sizeLine/\Pv (i + 1) τ2 (upd H4 D (.lst (ys++[y]))) else Pv (i + 1) τ2 H3)
  (hd:∀ τ H,Pv n τ H->Q (.ref D) H):jU (Itr lo n) D τ H g tt te Q:=
 wk_ (n:=n) Pv h0 (fun _ _ _ _ _=>⟨id,id⟩) (fun i x σ H H' hi p y=>by
 obtain⟨rfl,rfl⟩:=y;exact hs i σ _ hi p) hd
end
section
open PySem.SeqAt
inductive Dt where
 | non | bl (b:Bool) | int (i:Int) | str (x:Str) | lst (xs:List Dt) | tup (xs:List Dt)
mutual
def DtV (K:PySem.W.Frag) (H:Hp):Dt->V->Prop
 | .non,x=>x=.non
 | .bl b,x=>x=.bl b
 | .int i,x=>x=.int i
 | .str z,x=>x=.str z
 | .lst ds,x=>∃ a xs,x=.ref a/\SqL K H a xs/\aM K H ds xs
 | .tup ds,x=>∃ a xs,x=.ref a/\SqT K H a xs/\aM K H ds xs
def aM (K:PySem.W.Frag) (H:Hp):List Dt->List V->Prop
 | [],xs=>xs=[]
 | d::ds,xs=>∃ y ys,xs=y::ys/\DtV K H d y/\aM K H ds ys
end
mutual
def fK:Nat->Dt->Prop
 | n + 1,.lst ds=>dP n ds
 | n + 1,.tup ds=>dP n ds
 | 0,.lst _=>False
 | 0,.tup _=>False
 | _,.non=>True
 | _,.bl _=>True
 | _,.int _=>True
 | _,.str _=>True
def dP:Nat->List Dt->Prop
 | _,[]=>True
 | n,d::ds=>fK n d/\dP n ds
end
mutual
def eqD:Dt->Dt->Bool
 | .non,.non=>true
 | .bl a,.bl b=>a == b
 | .bl a,.int b=>(if a then 1 else 0) == b
 | .int a,.bl b=>a == (if b then 1 else 0)
 | .int a,.int b=>a == b
 | .str a,.str b=>a == b
 | .lst xs,.lst ys=>dU xs ys
 | .tup xs,.tup ys=>dU xs ys
 | _,_=>false
def dU:List Dt->List Dt->Bool
 | [],[]=>true
 | x::xs,y::ys=>eqD x y && dU xs ys
 | _,_=>false
end
mutual
theorem mQ:∀ d:Dt,eqD d d=true
 | .non=>rfl
 | .bl b=>by simp[eqD]
 | .int i=>by simp[eqD]
 | .str x=>by simp[eqD]
 | .lst xs=>by
  rw[eqD];exact qV xs
 | .tup xs=>by
  rw[eqD];exact qV xs
theorem qV:∀ ds:List Dt,dU ds ds=true
 | []=>rfl
 | d::ds=>by rw[dU,mQ d,qV ds];rfl
end
theorem aM.length {K:PySem.W.Frag}{H:Hp}:∀ {ds:List Dt}{xs:List V},aM K H ds xs->ds.length=xs.length
 | [],xs,h=>by
  have e:xs=[]:=h;subst e;rfl
 | d::ds,xs,h=>by
  obtain⟨y,ys,e,_,h2⟩:=h;subst e;simp[aM.length h2]
theorem aM.get {K:PySem.W.Frag}{H:Hp}:∀ {ds:List Dt}{xs:List V}{j:Nat}{d:Dt},aM K H ds xs->ds[j]?=some d->∃ x,xs[j]?=some x/\DtV K H d x
 | [],_,_,_,_,e=>by simp at e
 | d::ds,xs,j,d',h,e=>by
  obtain⟨y,ys,e2,h1,h2⟩:=h;subst e2;cases j with
  | zero=>
   simp at e
   subst e;exact⟨y,Y,h1⟩
  | succ j=>
   obtain⟨x,hx,hd⟩:=aM.get (j:=j) h2 (by simpa using e);exact⟨x,by simpa using hx,hd⟩
theorem aM.snoc {K:PySem.W.Frag}{H:Hp}{d:Dt}{x:V} (hd:DtV K H d x):∀ {ds:List Dt}{xs:List V},aM K H ds xs->aM K H (ds++[d]) (xs++[x])
 | [],xs,h=>by
  have e:xs=[]:=h;subst e;exact⟨x,[],Y,hd,Y⟩
 | e::ds,xs,h=>by
  obtain⟨y,ys,e2,h1,h2⟩:=h;subst e2;exact⟨y,ys++[x],Y,h1,h2.snoc hd⟩
theorem dP.get {n:Nat}:∀ {ds:List Dt}{j:Nat}{d:Dt},dP n ds->ds[j]?=some d->fK n d
 | [],_,_,_,e=>by simp at e
 | d::ds,j,d',h,e=>by
  cases j with
  | zero=>
   simp at e
   subst e;exact h.1
  | succ j=>exact dP.get (j:=j) h.2 (by simpa using e)
theorem dP.of {n:Nat}:∀ {ds:List Dt},(∀ d∈ds,fK n d)->dP n ds
 | [],_=>trivial
 | d::ds,h=>⟨h d Ms,dP.of fun e he=>h e (Mo _ he)⟩
theorem af.sqL {K:PySem.W.Frag} (e:af H H') (h:SqL K H a xs):SqL K H' a xs:=e.seq h
theorem af.sqT {K:PySem.W.Frag} (e:af H H') (h:SqT K H a xs):SqT K H' a xs:=by
 rcases h with(h|⟨o,h⟩)|h
 ·exact .inl (.inl (e _ _ h))
 ·exact .inl (.inr ⟨o,e _ _ h⟩)
 ·exact .inr h
mutual
theorem af.dt {K:PySem.W.Frag}{H H':Hp} (e:af H H'):∀ {d:Dt}{x:V},DtV K H d x->DtV K H' d x
 | .non,_,h=>h
 | .bl _,_,h=>h
 | .int _,_,h=>h
 | .str _,_,h=>h
 | .lst ds,_,h=>by
  obtain⟨a,xs,e1,h1,h2⟩:=h;exact⟨a,xs,e1,e.sqL h1,e.dts h2⟩
 | .tup ds,_,h=>by
  obtain⟨a,xs,e1,h1,h2⟩:=h;exact⟨a,xs,e1,e.sqT h1,e.dts h2⟩
theorem af.dts {K:PySem.W.Frag}{H H':Hp} (e:af H H'):∀ {ds:List Dt}{xs:List V},aM K H ds xs->aM K H' ds xs
 | [],_,h=>h
 | d::ds,_,h=>by
  obtain⟨y,ys,e1,h1,h2⟩:=h;exact⟨y,ys,e1,e.dt h1,e.dts h2⟩
end
theorem af.new {o:HO} (h:H p=none):af H (upd H p o):=fun b u e=>by
 rw[ak (aE e h)];exact e
theorem Inv.notBoth (I:Inv X aa σ H s) (h:SqL X.K H a xs) (h':SqT X.K H a ys):False:=by
 obtain⟨ac,_,pl,_⟩:=I.list h;obtain⟨its',_,pt,_⟩:=I.tuple h';obtain⟨o,n,e,c,_⟩:=pl;obtain⟨o',e',c',_⟩:=pt;rw[e] at e';cases e'
 rw[c] at c';exact absurd c' (by simp)
mutual
theorem Inv.dtUniq (I:Inv X aa σ H s):∀ {d e:Dt}{x:V},DtV X.K H d x->DtV X.K H e x->d=e
 | .non,e,_,h,h'=>by
  have h:_=V.non:=h;subst h;cases e with
  | non=>rfl
  | bl _=>exact nomatch (show V.non=_ from h')
  | int _=>exact nomatch (show V.non=_ from h')
  | str _=>exact nomatch (show V.non=_ from h')
  | lst _=>obtain⟨_,_,q,_⟩:=h';cases q
  | tup _=>obtain⟨_,_,q,_⟩:=h';cases q
 | .bl b,e,_,h,h'=>by
  have h:_=V.bl b:=h;subst h;cases e with
  | non=>exact nomatch (show V.bl b=_ from h')
  | bl c=>
   have q:V.bl b=V.bl c:=h';cases q
   rfl
  | int _=>exact nomatch (show V.bl b=_ from h')
  | str _=>exact nomatch (show V.bl b=_ from h')
  | lst _=>obtain⟨_,_,q,_⟩:=h';cases q
  | tup _=>obtain⟨_,_,q,_⟩:=h';cases q
 | .int b,e,_,h,h'=>by
  have h:_=V.int b:=h;subst h;cases e with
  | non=>exact nomatch (show V.int b=_ from h')
  | bl c=>exact nomatch (show V.int b=_ from h')
  | int c=>
   have q:V.int b=V.int c:=h';cases q
   rfl
  | str _=>exact nomatch (show V.int b=_ from h')
  | lst _=>obtain⟨_,_,q,_⟩:=h';cases q
  | tup _=>obtain⟨_,_,q,_⟩:=h';cases q
 | .str b,e,_,h,h'=>by
  have h:_=V.str b:=h;subst h;cases e with
  | non=>exact nomatch (show V.str b=_ from h')
  | bl c=>exact nomatch (show V.str b=_ from h')
  | int _=>exact nomatch (show V.str b=_ from h')
  | str c=>
   have q:V.str b=V.str c:=h';cases q
   rfl
  | lst _=>obtain⟨_,_,q,_⟩:=h';cases q
  | tup _=>obtain⟨_,_,q,_⟩:=h';cases q
 | .lst ds,e,_,h,h'=>by
  obtain⟨a,xs,e1,h1,h2⟩:=h;subst e1;cases e with
  | non=>exact nomatch (show V.ref a=_ from h')
  | bl c=>exact nomatch (show V.ref a=_ from h')
  | int _=>exact nomatch (show V.ref a=_ from h')
  | str _=>exact nomatch (show V.ref a=_ from h')
  | lst es=>
   obtain⟨b,ys,e2,h3,h4⟩:=h';cases e2
   have q:=I.list_inj h1 h3;subst q;rw[I.dtsUniq h2 h4]
  | tup es=>
   obtain⟨b,ys,e2,h3,h4⟩:=h';cases e2
   exact(I.notBoth h1 h3).elim
 | .tup ds,e,_,h,h'=>by
  obtain⟨a,xs,e1,h1,h2⟩:=h;subst e1;cases e with
  | non=>exact nomatch (show V.ref a=_ from h')
  | bl c=>exact nomatch (show V.ref a=_ from h')
  | int _=>exact nomatch (show V.ref a=_ from h')
  | str _=>exact nomatch (show V.ref a=_ from h')
  | lst es=>
   obtain⟨b,ys,e2,h3,h4⟩:=h';cases e2
   exact(I.notBoth h3 h1).elim
  | tup es=>
   obtain⟨b,ys,e2,h3,h4⟩:=h';cases e2
   have q:=I.tuple_inj h1 h3;subst q;rw[I.dtsUniq h2 h4]
theorem Inv.dtsUniq (I:Inv X aa σ H s):∀ {ds es:List Dt}{xs:List V},aM X.K H ds xs->aM X.K H es xs->ds=es
 | [],es,_,h,h'=>by
  have h:_=[]:=h;subst h;cases es with
  | nil=>rfl
  | cons e es=>obtain⟨_,_,q,_⟩:=h';cases q
 | d::ds,es,_,h,h'=>by
  obtain⟨y,ys,e1,h1,h2⟩:=h;subst e1;cases es with
  | nil=>exact nomatch (show y::ys=[] from h')
  | cons e es=>
   obtain⟨z,zs,q,h3,h4⟩:=h';cases q
   rw[I.dtUniq h1 h3,I.dtsUniq h2 h4]
end
def jL (ds es:List Dt) (j:Nat):Bool:=eqD (ds.getD j .non) (es.getD j .non)
theorem qB:∀ ds es:List Dt,((List.range (min ds.length es.length)).all (jL ds es) && ds.length == es.length)=dU ds es
 | [],[]=>rfl
 | [],_::_=>by simp[dU]
 | _::_,[]=>by simp[dU]
 | d::ds,e::es=>by
  have ih:=qB ds es;have e1:min (d::ds).length (e::es).length=min ds.length es.length + 1:=by simp only[Mt];omega
  have e2:((d::ds).length == (e::es).length)=(ds.length == es.length):=by simp
  have e3:(List.range (min ds.length es.length + 1)).all (jL (d::ds) (e::es))=(eqD d e && (List.range (min ds.length es.length)).all (jL ds es)):=by
   rw[O3,Ob,Pm];rfl
  rw[e1,e2,e3,dU,<- ih,Bool.and_assoc]
theorem Cr {ds es:List Dt} (h:ds.length=es.length):(List.range ds.length).all (jL ds es)=dU ds es:=by
 have:=qB ds es;rw[<- h,OL] at this
 simpa using this
theorem Ap {ds es:List Dt} (h:ds.length≠es.length):dU ds es=false:=by
 rw[<- qB ds es];simp[h]
theorem Inv.isL (I:Inv X aa σ H s) (h:SqL X.K H a xs):∃ ac:List Value,av xs ac/\s.heap.IsList a ac.toArray:=
 let ⟨ac,r,pl,_⟩:=I.list h
 ⟨ac,r,pl.isList⟩
theorem Inv.isT (I:Inv X aa σ H s) (h:SqT X.K H a xs):∃ ac:List Value,av xs ac/\s.heap.IsTuple a ac.toArray:=
 let ⟨ac,r,pt,_⟩:=I.tuple h
 ⟨ac,r,pt⟩
theorem wu {ds es:List Dt}{d e:Dt} (h1:ds[j]?=some d) (h2:es[j]?=some e):jL ds es j=eqD d e:=by
 unfold jL;rw[My,My,h1,h2];rfl
theorem jj {α:Type}{l:List α} (h:j<l.length):∃ x,l[j]?=some x:=⟨l[j],by simp[h]⟩
mutual
theorem Inv.eqAt (I:Inv X aa σ H s):∀ {d e:Dt}{x y:V}{u v:Value}{n:Nat}{A:Around},DtV X.K H d x->DtV X.K H e y->ay x u->ay y v->fK n d->A.units + n<cLine->EqAt A s u v (eqD d e)
 | .non,e,x,y,u,v,n,A,h,h',rx,ry,_,hu=>by
  have hu:A.units<cLine:=Na (M6 _ _) hu;have h:x=V.non:=h;subst h;cases e with
  | non=>
   have h':y=V.non:=h';subst h';exact eE rx ry Y rfl
  | bl c=>
   have h':y=V.bl c:=h';subst h';exact eE rx ry Y rfl
  | int c=>
   have h':y=V.int c:=h';subst h';exact eE rx ry Y rfl
  | str c=>
   have h':y=V.str c:=h';subst h';exact eE rx ry Y rfl
  | lst es=>
   obtain⟨a,ys,rfl,h1,_⟩:=h';obtain rfl:v=Value.ref a:=ry;obtain⟨ac,_,hl⟩:=I.isL h1;obtain rfl:u=Value.none:=rx;exact EqAt.none_list hl hu
  | tup es=>
   obtain⟨a,ys,rfl,h1,_⟩:=h';obtain rfl:v=Value.ref a:=ry;obtain⟨ac,_,hl⟩:=I.isT h1;obtain rfl:u=Value.none:=rx;exact EqAt.none_tuple hl hu
 | .bl b,e,x,y,u,v,n,A,h,h',rx,ry,_,hu=>by
  have hu:A.units<cLine:=Na (M6 _ _) hu;have h:x=V.bl b:=h;subst h;cases e with
  | non=>
   have h':y=V.non:=h';subst h';exact eE rx ry Y rfl
  | bl c=>
   have h':y=V.bl c:=h';subst h';exact eE rx ry Y rfl
  | int c=>
   have h':y=V.int c:=h';subst h';exact eE rx ry Y rfl
  | str c=>
   have h':y=V.str c:=h';subst h';exact eE rx ry Y rfl
  | lst es=>
   obtain⟨a,ys,rfl,h1,_⟩:=h';obtain rfl:v=Value.ref a:=ry;obtain⟨ac,_,hl⟩:=I.isL h1;obtain rfl:u=Value.bool b:=rx;exact EqAt.bool_list b hl hu
  | tup es=>
   obtain⟨a,ys,rfl,h1,_⟩:=h';obtain rfl:v=Value.ref a:=ry;obtain⟨ac,_,hl⟩:=I.isT h1;obtain rfl:u=Value.bool b:=rx;exact EqAt.bool_tuple b hl hu
 | .int b,e,x,y,u,v,n,A,h,h',rx,ry,_,hu=>by
  have hu:A.units<cLine:=Na (M6 _ _) hu;have h:x=V.int b:=h;subst h;cases e with
  | non=>
   have h':y=V.non:=h';subst h';exact eE rx ry Y rfl
  | bl c=>
   have h':y=V.bl c:=h';subst h';exact eE rx ry Y rfl
  | int c=>
   have h':y=V.int c:=h';subst h';exact eE rx ry Y rfl
  | str c=>
   have h':y=V.str c:=h';subst h';exact eE rx ry Y rfl
  | lst es=>
   obtain⟨a,ys,rfl,h1,_⟩:=h';obtain rfl:v=Value.ref a:=ry;obtain⟨ac,_,hl⟩:=I.isL h1;obtain⟨t,rfl⟩:=rx;exact EqAt.int_list b t hl hu
  | tup es=>
   obtain⟨a,ys,rfl,h1,_⟩:=h';obtain rfl:v=Value.ref a:=ry;obtain⟨ac,_,hl⟩:=I.isT h1;obtain⟨t,rfl⟩:=rx;exact EqAt.int_tuple b t hl hu
 | .str b,e,x,y,u,v,n,A,h,h',rx,ry,_,hu=>by
  have hu:A.units<cLine:=Na (M6 _ _) hu;have h:x=V.str b:=h;subst h;cases e with
  | non=>
   have h':y=V.non:=h';subst h';exact eE rx ry Y rfl
  | bl c=>
   have h':y=V.bl c:=h';subst h';exact eE rx ry Y rfl
  | int c=>
   have h':y=V.int c:=h';subst h';exact eE rx ry Y rfl
  | str c=>
   have h':y=V.str c:=h';subst h';exact eE rx ry Y rfl
  | lst es=>
   obtain⟨a,ys,rfl,h1,_⟩:=h';obtain rfl:v=Value.ref a:=ry;obtain⟨ac,_,hl⟩:=I.isL h1;obtain⟨t,rfl⟩:=rx;exact EqAt.str_list b t hl hu
  | tup es=>
   obtain⟨a,ys,rfl,h1,_⟩:=h';obtain rfl:v=Value.ref a:=ry;obtain⟨ac,_,hl⟩:=I.isT h1;obtain⟨t,rfl⟩:=rx;exact EqAt.str_tuple b t hl hu
 | .lst ds,e,x,y,u,v,n,A,h,h',rx,ry,hd,hu=>by
  obtain⟨a,xs,rfl,g1,g2⟩:=h;obtain rfl:u=Value.ref a:=rx;obtain⟨ac,rv,hl⟩:=I.isL g1;cases n with
  | zero=>exact False.elim hd
  | succ n=>
  have cr:A.units<cLine:=Na (M6 _ _) hu;cases e with
  | non=>
   have h':y=V.non:=h';subst h';obtain rfl:v=Value.none:=ry;exact EqAt.list_none hl cr
  | bl c=>
   have h':y=V.bl c:=h';subst h';obtain rfl:v=Value.bool c:=ry;exact EqAt.list_bool c hl cr
  | int c=>
   have h':y=V.int c:=h';subst h';obtain⟨t,rfl⟩:=ry;exact EqAt.list_int c t hl cr
  | str c=>
   have h':y=V.str c:=h';subst h';obtain⟨t,rfl⟩:=ry;exact EqAt.list_str c t hl cr
  | tup es=>
   obtain⟨b,ys,rfl,h1,_⟩:=h';obtain rfl:v=Value.ref b:=ry;obtain⟨its',_,cM⟩:=I.isT h1;exact EqAt.list_tuple hl cM cr
  | lst es=>
   obtain⟨b,ys,rfl,h1,h2⟩:=h';obtain rfl:v=Value.ref b:=ry;obtain⟨its',cZ,cM⟩:=I.isL h1;show EqAt A s (.ref a) (.ref b) (dU ds es);by_cases kj:a=b
   ·subst kj
    have e:Dt.lst ds=Dt.lst es:=I.dtUniq ⟨a,xs,Y,g1,g2⟩ ⟨a,ys,Y,h1,h2⟩;injection e with e
    subst e;rw[qV];exact EqAt.same _
   ·have n1:ds.length=ac.length:=g2.length.trans rv.length
    have n2:es.length=its'.length:=h2.length.trans cZ.length;have items:∀ j (h1:j<ac.toArray.size) (h2:j<its'.toArray.size),EqAt A.in1 s ac.toArray[j] its'.toArray[j] (jL ds es j):=fun j j1 j2=>by
     have j1:j<ac.length:=by simpa using j1
     have j2:j<its'.length:=by simpa using j2
     obtain⟨d',cv⟩:=jj (l:=ds) (j:=j) (by omega);obtain⟨e',c8⟩:=jj (l:=es) (j:=j) (by omega);obtain⟨x',ir,kx⟩:=g2.get cv;obtain⟨y',iS,ky⟩:=h2.get c8;obtain⟨u',eQ,ru⟩:=rv.get ir;obtain⟨v',eC,qm⟩:=cZ.get iS;have q1:ac.toArray[j]=u':=by
      have:=List.getElem?_eq_some_iff.mp eQ
      simpa using this.2
     have q2:its'.toArray[j]=v':=by
      have:=List.getElem?_eq_some_iff.mp eC
      simpa using this.2
     rw[q1,q2,wu cv c8];exact Inv.eqAtI I ds j cv kx ky ru qm (dP.get hd cv) (show A.units + 1 + n<cLine by omega)
    by_cases hsz:ac.toArray.size=its'.toArray.size
    ·have lB:ds.length=es.length:=by simpa [n1,n2] using hsz
     rw[<- Cr lB,n1,<- Mp];exact EqAt.of_refs kj (RcAt.lists hl cM hsz cr items)
    ·rw[Ap (by simpa [n1,n2] using hsz)]
     exact EqAt.of_refs kj (RcAt.lists_lengths hl cM (by simpa using hsz) cr)
 | .tup ds,e,x,y,u,v,n,A,h,h',rx,ry,hd,hu=>by
  obtain⟨a,xs,rfl,g1,g2⟩:=h;obtain rfl:u=Value.ref a:=rx;obtain⟨ac,rv,hl⟩:=I.isT g1;cases n with
  | zero=>exact False.elim hd
  | succ n=>
  have cr:A.units<cLine:=Na (M6 _ _) hu;cases e with
  | non=>
   have h':y=V.non:=h';subst h';obtain rfl:v=Value.none:=ry;exact EqAt.tuple_none hl cr
  | bl c=>
   have h':y=V.bl c:=h';subst h';obtain rfl:v=Value.bool c:=ry;exact EqAt.tuple_bool c hl cr
  | int c=>
   have h':y=V.int c:=h';subst h';obtain⟨t,rfl⟩:=ry;exact EqAt.tuple_int c t hl cr
  | str c=>
   have h':y=V.str c:=h';subst h';obtain⟨t,rfl⟩:=ry;exact EqAt.tuple_str c t hl cr
  | lst es=>
   obtain⟨b,ys,rfl,h1,_⟩:=h';obtain rfl:v=Value.ref b:=ry;obtain⟨its',_,cM⟩:=I.isL h1;exact EqAt.tuple_list hl cM cr
  | tup es=>
   obtain⟨b,ys,rfl,h1,h2⟩:=h';obtain rfl:v=Value.ref b:=ry;obtain⟨its',cZ,cM⟩:=I.isT h1;show EqAt A s (.ref a) (.ref b) (dU ds es);by_cases kj:a=b
   ·subst kj
    have e:Dt.tup ds=Dt.tup es:=I.dtUniq ⟨a,xs,Y,g1,g2⟩ ⟨a,ys,Y,h1,h2⟩;injection e with e
    subst e;rw[qV];exact EqAt.same _
   ·have n1:ds.length=ac.length:=g2.length.trans rv.length
    have n2:es.length=its'.length:=h2.length.trans cZ.length;have items:∀ j (h1:j<ac.toArray.size) (h2:j<its'.toArray.size),EqAt A.in1 s ac.toArray[j] its'.toArray[j] (jL ds es j):=fun j j1 j2=>by
     have j1:j<ac.length:=by simpa using j1
     have j2:j<its'.length:=by simpa using j2
     obtain⟨d',cv⟩:=jj (l:=ds) (j:=j) (by omega);obtain⟨e',c8⟩:=jj (l:=es) (j:=j) (by omega);obtain⟨x',ir,kx⟩:=g2.get cv;obtain⟨y',iS,ky⟩:=h2.get c8;obtain⟨u',eQ,ru⟩:=rv.get ir;obtain⟨v',eC,qm⟩:=cZ.get iS;have q1:ac.toArray[j]=u':=by
      have:=List.getElem?_eq_some_iff.mp eQ
      simpa using this.2
     have q2:its'.toArray[j]=v':=by
      have:=List.getElem?_eq_some_iff.mp eC
      simpa using this.2
     rw[q1,q2,wu cv c8];exact Inv.eqAtI I ds j cv kx ky ru qm (dP.get hd cv) (show A.units + 1 + n<cLine by omega)
    have q:=EqAt.of_refs kj (RcAt.tuples hl cM cr items);rw[<- qB ds es,n1,n2]
    simpa using q
theorem Inv.eqAtI (I:Inv X aa σ H s):∀ (ds:List Dt) (j:Nat){d e:Dt}{x y:V}{u v:Value}{n:Nat}{A:Around},ds[j]?=some d->DtV X.K H d x->DtV X.K H e y->ay x u->ay y v->fK n d->A.units + n<cLine->EqAt A s u v (eqD d e)
 | [],j,_,_,_,_,_,_,_,_,h,_,_,_,_,_,_=>by simp at h
 | c::_,0,d,e,x,y,u,v,n,A,h,hx,hy,ru,rv,hd,hu=>by
  simp at h
  subst h;exact Inv.eqAt I hx hy ru rv hd hu
 | _::cs,j + 1,d,e,x,y,u,v,n,A,h,hx,hy,ru,rv,hd,hu=>Inv.eqAtI I cs j (by simpa using h) hx hy ru rv hd hu
end
theorem Inv.items (I:Inv X aa σ H s){ds es:List Dt}{its':List Value} (g2:aM X.K H ds xs) (h2:aM X.K H es ys) (rv:av xs ac) (cZ:av ys its') (hd:dP n ds)
  (hu:A.units + 1 + n<cLine):∀ j (h1:j<ac.toArray.size) (h2:j<its'.toArray.size),EqAt A.in1 s ac.toArray[j] its'.toArray[j] (jL ds es j):=fun j j1 j2=>by
 have n1:ds.length=ac.length:=g2.length.trans rv.length;have n2:es.length=its'.length:=h2.length.trans cZ.length;have j1:j<ac.length:=by simpa using j1
 have j2:j<its'.length:=by simpa using j2
 obtain⟨d',cv⟩:=jj (l:=ds) (j:=j) (by omega);obtain⟨e',c8⟩:=jj (l:=es) (j:=j) (by omega);obtain⟨x',ir,kx⟩:=g2.get cv;obtain⟨y',iS,ky⟩:=h2.get c8;obtain⟨u',eQ,ru⟩:=rv.get ir;obtain⟨v',eC,qm⟩:=cZ.get iS;have q1:ac.toArray[j]=u':=by
  have:=List.getElem?_eq_some_iff.mp eQ
  simpa using this.2
 have q2:its'.toArray[j]=v':=by
  have:=List.getElem?_eq_some_iff.mp eC
  simpa using this.2
 rw[q1,q2,wu cv c8];exact I.eqAt kx ky ru qm (dP.get hd cv) hu
def sQ:Dt->Bool
 | .lst _=>true
 | .tup _=>true
 | _=>false
theorem Inv.rcAt (I:Inv X aa σ H s){d e:Dt}{x y:V} (bd:sQ d=true) (be:sQ e=true) (h:DtV X.K H d x) (h':DtV X.K H e y) (rx:ay x u) (ry:ay y v) (hd:fK n d) (hu:A.units + n<cLine) :
  RcAt A s u v (eqD d e)/\RcNeAt A s u v (!eqD d e):=by
 cases n with
 | zero=>cases d <;> first | exact False.elim hd | cases bd
 | succ n=>
 have cr:A.units<cLine:=Na (M6 _ _) hu;have i4:A.units + 1 + n<cLine:=by omega
 cases d with
 | lst ds=>
  obtain⟨a,xs,rfl,g1,g2⟩:=h;obtain rfl:u=Value.ref a:=rx;obtain⟨ac,rv,hl⟩:=I.isL g1;cases e with
  | lst es=>
   obtain⟨b,ys,rfl,h1,h2⟩:=h';obtain rfl:v=Value.ref b:=ry;obtain⟨its',cZ,cM⟩:=I.isL h1;have n1:ds.length=ac.length:=g2.length.trans rv.length;have n2:es.length=its'.length:=h2.length.trans cZ.length;show RcAt A s (.ref a) (.ref b) (dU ds es)/\RcNeAt A s (.ref a) (.ref b) (!dU ds es);by_cases hsz:ac.toArray.size=its'.toArray.size
   ·have lB:ds.length=es.length:=by simpa [n1,n2] using hsz
    rw[<- Cr lB,n1,<- Mp];exact⟨RcAt.lists hl cM hsz cr (I.items g2 h2 rv cZ hd i4),RcNeAt.lists hl cM hsz cr (I.items g2 h2 rv cZ hd i4)⟩
   ·rw[Ap (by simpa [n1,n2] using hsz)]
    exact⟨RcAt.lists_lengths hl cM (by simpa using hsz) cr,RcNeAt.lists_lengths hl cM (by simpa using hsz) cr⟩
  | tup es=>
   obtain⟨b,ys,rfl,h1,_⟩:=h';obtain rfl:v=Value.ref b:=ry;obtain⟨its',_,cM⟩:=I.isT h1;exact⟨RcAt.list_tuple hl cM cr,RcNeAt.list_tuple hl cM cr⟩
  | _=>cases be
 | tup ds=>
  obtain⟨a,xs,rfl,g1,g2⟩:=h;obtain rfl:u=Value.ref a:=rx;obtain⟨ac,rv,hl⟩:=I.isT g1;cases e with
  | tup es=>
   obtain⟨b,ys,rfl,h1,h2⟩:=h';obtain rfl:v=Value.ref b:=ry;obtain⟨its',cZ,cM⟩:=I.isT h1;have n1:ds.length=ac.length:=g2.length.trans rv.length;have n2:es.length=its'.length:=h2.length.trans cZ.length;have q:=RcAt.tuples hl cM cr (I.items g2 h2 rv cZ hd i4);have q':=RcNeAt.tuples hl cM cr (I.items g2 h2 rv cZ hd i4);show RcAt A s (.ref a) (.ref b) (dU ds es)/\RcNeAt A s (.ref a) (.ref b) (!dU ds es);rw[<- qB ds es,n1,n2];exact⟨by simpa using q,by simpa using q'⟩
  | lst es=>
   obtain⟨b,ys,rfl,h1,_⟩:=h';obtain rfl:v=Value.ref b:=ry;obtain⟨its',_,cM⟩:=I.isL h1;exact⟨RcAt.tuple_list hl cM cr,RcNeAt.tuple_list hl cM cr⟩
  | _=>cases be
 | _=>cases bd
def rEqD (K:PySem.W.Frag) (pM:Bool):R2:=fun x y H Q=>∃ d e,sQ d=true/\sQ e=true/\DtV K H d x/\DtV K H e y/\fK 60 d/\Q (.bl (if pM then !eqD d e else eqD d e)) H
theorem zU (hu:X.A.units + 64<cLine):OpR X (compareOp .Eq) (rEqD X.K false):=by
 intro aa s σ H x y v u Q I rx ry h;obtain⟨d,e,bd,be,h1,h2,hd,q⟩:=h;exact(I.rcAt bd be h1 h2 rx ry hd (by omega)).1 X.prog X.w _ _ ⟨.bl _,H,I,Y,q⟩
theorem tN (hu:X.A.units + 64<cLine):OpR X (compareOp .NotEq) (rEqD X.K true):=by
 intro aa s σ H x y v u Q I rx ry h;obtain⟨d,e,bd,be,h1,h2,hd,q⟩:=h;exact(I.rcAt bd be h1 h2 rx ry hd (by omega)).2 X.prog X.w _ _ ⟨.bl _,H,I,Y,q⟩
end
theorem nY  (hg:Gl X x) (hm:X.mg x=some (.ref a)) (hd:(x == ("__debug__":Str))=false:=by decide):PE X (.Name x pos) (tC (.ref a)):=wc hg hm Y hd
def xg:V->Option Value
 | .ref a=>some (.ref a)
 | .ty n=>some (.type n)
 | _=>none
theorem JA {c:V}{k:Value} (r:ay c u) (e:xg c=some k):u=k:=by
 cases c with
 | ref a=>
  cases e
  exact r
 | ty n=>
  cases e
  exact r
 | _=>cases e
theorem jc:fP X (.builtin "isinstance") (fun xs H Q=>∃ x c k t b,xs=[x,c]/\xg c=some k/\fR X.K H x t/\PySem.W.kitOne X.K t k=some b/\Q (.bl b) H):=by
 intro aa s σ H xs us Q I r h;obtain⟨x,c,k,t,b,rfl,ec,ty,eb,q⟩:=h;obtain⟨u,v,rfl,rx,rc⟩:=tQ r;have e:=JA rc ec;subst e;exact Kj I rx ty eb fun tk=>⟨.bl b,H,I.tok tk,Y,q⟩
structure ExcAt (H:Hp) (h:Heap) (a:Addr) (c:Value) (dd:Option Addr) (tb:Option (Addr×Value)):Prop where
 ob:∃ o vs,h.get? a=some o/\o.cls=c/\o.dict=dd/\o.data=.fields vs/\vs.size=6/\(∃ cs,iJ H cs/\vs[2]?=some (nxt cs 0))/\vs[1]?=some (match tb with|none=>.none|some p=>.ref p.1)
 tr:∀ p,tb=some p->p.1≠a/\∃ oT ts,h.get? p.1=some oT/\oT.data=.fields ts/\ts[3]?=some p.2
structure Exc (X:Cx) (aa:List (Addr×Obj)) (H:Hp) (h:Heap) (a:Addr) (c:Value) (dd:Option Addr) (tb:Option (Addr×Value)):Prop where
 fp:bv X aa H a
 fpT:∀ p,tb=some p->bv X aa H p.1
 at_:ExcAt H h a c dd tb
theorem Jh (o:Obj) (f:Array Value->Array Value):(o.mapFields f).dict=o.dict:=by
 obtain⟨c,d,dt,sl⟩:=o;cases dt <;> rfl
theorem Inv.slot0 {tk:Nat} (I:Inv X aa σ H s) (eO:∀ b∈ch,bv X aa H b) (keep:∀ b o,b∉frs X.stack->b∉ch->s.heap.get? b=some o->h'.get? b=some o)
  (slot:∀ b o,b∈frs X.stack->s.heap.get? b=some o->∃ sl,h'.get? b=some { o with slots:=sl }):Inv X aa σ H { s with heap:=h',toks:=tk }:=by
 have any:∀ b o,b∉ch->s.heap.get? b=some o->∃ sl,h'.get? b=some { o with slots:=sl }:=fun b o hc e=>by
  by_cases hb:b∈frs X.stack
  ·exact slot b o hb e
  ·exact⟨o.slots,keep b o hb hc e⟩
 have sub:∀ b,b∈frs X.stack->b=X.env.locals\/b∈X.fs:=fun b hb=>M5.mp (I.stkSub b hb)
 refine I.step (g':=s.gens) (d':=s.drawn) (ch:=ch) (fun b hb=>?_) (fun b o hL hf hc e _=>keep b o (fun z=>(sub b z).elim hL hf) hc e) (fun b o _ _ hc e _=>any b o hc e) (fun _ _ _ _ n=>n) (fun b o hc e=>?_)
  (fun _ _ e=>e) (fun _ _ _ e=>e) (fun _ _ _ e=>e) (fun m hm=>?_) (fun b u e=>?_) I.bare
 ·obtain⟨_,f1,_,f3,f4,f5⟩:=eO b hb
  exact⟨f3,f1,f4,f5⟩
 ·obtain⟨sl,q⟩:=any b o hc e
  exact⟨_,q⟩
 ·obtain⟨o,es,ep,ho,r⟩:=hm
  obtain⟨sl,q⟩:=any _ o (fun z=>(eO _ z).2.1 Y) ho;exact⟨_,es,ep,q,r⟩
 ·have nf:∀ d v,H d=some v->d∉frs X.stack/\d∉ch:=fun d v q=>⟨fun z=>(by rw[I.stkFree d z] at q;cases q),fun z=>(by rw[(eO d z).1] at q;cases q)⟩
  refine(I.hok b u e).stay (fun d v hd q=>?_) (fun _ q=>q) fun _ _ q=>q
  rcases hd with z|z
  ·subst z
   exact keep d v (nf d _ e).1 (nf d _ e).2 q
  ·exact keep d v (nf d _ z).1 (nf d _ z).2 q
theorem Inv.slots {tk:Nat} (I:Inv X aa σ H s) (eO:∀ b∈ch,bv X aa H b) (keep:∀ b o,b∉frs X.stack->b∉ch->s.heap.get? b=some o->h'.get? b=some o)
  (slot:∀ b o,b∈frs X.stack->s.heap.get? b=some o->∃ sl,h'.get? b=some { o with slots:=sl }) (_:∀ b∈ch,∀ o,s.heap.get? b=some o->∃ o',h'.get? b=some o'):Inv X aa σ H { s with heap:=h',toks:=tk }:=I.slot0 eO keep slot
def Body (X:Cx):Prop:=X.stack=X.env::X.outer/\X.env.frame=some X.env.locals
theorem Ab {jv:Bool} (B:Body X) (I:Inv X aa σ H s) (fp:bv X aa H a) (he:s.heap.get? a=some o) (hd:o.data=.fields vs) (hz:vs.size=6)
  (hQ:∀ s' T,Inv X aa σ H s'->s.heap.objs.size<=T->bv X aa H T->T≠a->s'.heap.get? a=some (o.mapFields (·.setIfInBounds 1 (.ref T)))->(∃ oT ts,s'.heap.get? T=some oT/\oT.data=.fields ts/\ts[3]?=some (rawInt X.env.locals))->Q () s') :
  wpAny M X.A (do let f <- frameOf X.env;let pl <- entryPlaceOf X.env.locals jv;let b <- EntryCells.newEntry o5 f .none (rawInt X.env.locals) .none pl;setField (.ref a) 1 b) Q E s:=by
 have hl:=I.stack;rw[B.1] at hl;have lP:X.A.frames=some (X.env::X.outer):=by rw[I.ok.frames,B.1]
 have nI:∀ b,bv X aa H b->b∉frs X.stack:=fun b f z=>(M5.mp (I.stkSub b z)).elim f.2.1 f.2.2.1
 refine l7 (wpAny_frameOf_fun lP hl B.2 fun h₁ dJ=>?_);rw[<- B.1] at dJ;refine l7 (wpAny_entryPlaceOf fun pl cu=>?_);simp only[EntryCells.newEntry,newFields]
 refine l7 (NA ?_ (cu.sizeOk5 _ _ _ _ _));generalize yz:({ cls:=.type "traceback",dict:=none,data:=.fields ([o5,.ref X.env.locals,.none,rawInt X.env.locals,.none]++(if pl.isEmpty then List.replicate 6 Value.none else pl)).toArray }:Obj)=oT;have e1:h₁.get? a=some o:=(dJ.2.1 a (nI a fp)).trans he;have e2:(h₁.push oT).get? a=some o:=Ma _ e1;have hsz:s.heap.objs.size=h₁.objs.size:=dJ.1.symm;have yf:h₁.objs.size≠a:=Nf (Mc e1);have rB:=Obj.data_mapFields hd (·.setIfInBounds 1 (Value.ref h₁.objs.size));have e3:=MJ (Obj.mapFields (·.setIfInBounds 1 (Value.ref h₁.objs.size))) e2 (Obj.isFreed_of_fields rB);have eT:((h₁.push oT).update a (Obj.mapFields (·.setIfInBounds 1 (Value.ref h₁.objs.size)))).get? h₁.objs.size=some oT:=
  (Mw _ _ (Ne.symm yf)).trans (Mi h₁ (by rw[<- yz];rfl))
 have kp:∀ b q,b≠a->h₁.get? b=some q->((h₁.push oT).update a (Obj.mapFields (·.setIfInBounds 1 (Value.ref h₁.objs.size)))).get? b=some q:=fun b q hb e=>
  (Mw _ _ (Ne.symm hb)).trans (Ma _ e)
 refine Ng e2 hd (by rw[hz];decide) ?_;refine hQ _ h₁.objs.size (I.slots (ch:=[a]) (tk:=s.toks) (fun b hb=>?_) (fun b q hb hc e=>?_) (fun b q hb e=>?_) (fun b hb q e=>?_)) (NN hsz) (I.fpOk (NN hsz) (I.hok.fresh (NN hsz))) yf e3 ⟨oT,_,eT,by rw[<- yz],?_⟩
 ·rw[List.mem_singleton.mp hb];exact fp
 ·exact kp b q (fun z=>hc (by simp[z])) ((dJ.2.1 b hb).trans e)
 ·obtain⟨sl,q'⟩:=dJ.2.2 b q e
  refine⟨sl,kp b _ (fun z=>?_) q'⟩;subst z;exact nI b fp hb
 ·rw[List.mem_singleton.mp hb];exact⟨_,e3⟩
 ·first|(simp;done)|(rcases cu with rfl|⟨_,_,_,_,_,_,_,rfl⟩ <;> simp)
theorem vs_set  (hz:vs.size=6) (h2:∃ cs,iJ H cs/\vs[2]?=some (nxt cs 0)):(vs.setIfInBounds 1 v).size=6/\(∃ cs,iJ H cs/\(vs.setIfInBounds 1 v)[2]?=some (nxt cs 0))/\(vs.setIfInBounds 1 v)[1]?=some v:=by
 refine⟨by simpa using hz,?_,?_⟩
 ·obtain⟨cs,hc,h2⟩:=h2
  exact⟨cs,hc,by rw[Of (by decide)];exact h2⟩
 ·simp[hz]
theorem Inv.note  (B:Body X) (I:Inv X aa σ H s) (x:Exc X aa H s.heap a c dd tb) (tY:∀ p,tb=some p->p.2=.none\/p.2=rawInt X.env.locals)
  (hQ:∀ s' T,Inv X aa σ H s'->Exc X aa H s'.heap a c dd (some (T,rawInt X.env.locals))->Q () s'):wpAny M X.A (noteFrame (.ref a) X.env) Q E s:=by
 obtain⟨o,vs,h1,hc,gM,hd,hz,h2,nM⟩:=x.at_.ob;have fin:∀ s' T,Inv X aa σ H s'->bv X aa H T->T≠a->s'.heap.get? a=some (o.mapFields (·.setIfInBounds 1 (.ref T)))->(∃ oT ts,s'.heap.get? T=some oT/\oT.data=.fields ts/\ts[3]?=some (rawInt X.env.locals))->Q () s':=fun s' T I' fT ne e' tr=>by
  obtain⟨z1,z2,z3⟩:=vs_set (v:=.ref T) hz h2;refine hQ s' T I' ⟨x.fp,fun p q=>?_,⟨_,_,e',(Obj.cls_mapFields _ _).trans hc,(Jh _ _).trans gM,Obj.data_mapFields hd _,z1,z2,z3⟩,fun p q=>?_⟩
  ·cases q;exact fT
  ·cases q;exact⟨ne,tr⟩
 unfold noteFrame;simp only[B.2]
 cases tb with
 | none=>
  refine l7 (MM h1 hd nM ?_);rw[if_neg (by decide)];exact Ab B I x.fp h1 hd hz fun s' T I' _ fT ne e' tr=>fin s' T I' fT ne e' tr
 | some p=>
  obtain⟨T,fl⟩:=p;obtain⟨ne,oT,ts,hT,lS,h3⟩:=x.at_.tr _ rfl;refine l7 (MM h1 hd nM ?_);rw[if_pos (show(Value.ref T != Value.none)=true from by simp)];refine l7 (MM hT lS h3 ?_);rcases tY _ rfl with z|z
  ·have z:fl=.none:=z
   subst z;rw[if_neg (show ¬ ((Value.none == rawInt X.env.locals)=true) from by simp[rawInt])];refine l7 (Ng hT lS (Array.getElem?_eq_some_iff.mp h3).1 ?_);have other:∀ b,b≠T->(s.heap.update T (Obj.mapFields (·.setIfInBounds 3 Value.none))).get? b=s.heap.get? b:=fun b hb=>Mw _ _ (Ne.symm hb)
   have nI:T∉frs X.stack:=fun z=>(M5.mp (I.stkSub T z)).elim (x.fpT _ Y).2.1 (x.fpT _ Y).2.2.1
   have I1:Inv X aa σ H { s with heap:=s.heap.update T (Obj.mapFields (·.setIfInBounds 3 Value.none)) }:=I.slots (ch:=[T]) (tk:=s.toks) (fun b hb=>by rw[List.mem_singleton.mp hb];exact x.fpT _ Y)
    (fun b q _ hc e=>(other b fun z=>hc (by simp[z])).trans e) (fun b q hb e=>⟨q.slots,(other b fun z=>nI (z ▸ hb)).trans e⟩)
    (fun b hb q e=>(by obtain rfl:=List.mem_singleton.mp hb;exact⟨_,MJ _ hT (Obj.isFreed_of_fields (Obj.data_mapFields lS _))⟩))
   exact Ab B I1 x.fp ((other a (Ne.symm ne)).trans h1) hd hz fun s' T' I' _ Ek DT e' tr=>fin s' T' I' Ek DT e' tr
  ·have z:fl=rawInt X.env.locals:=z
   subst z;rw[if_pos (show(rawInt X.env.locals == rawInt X.env.locals)=true from beq_self_eq_true _)];exact Mb (hQ s T I x)
theorem Inv.land  (I:Inv X aa σ H s) (x:Exc X aa H s.heap a c dd (some (T,fl)))
  (hQ:∀ s',Inv X aa σ H s'->Exc X aa H s'.heap a c dd (some (T,.none))->Q () s'):wpAny M A (setFlight (.ref a) none) Q E s:=by
 obtain⟨o,vs,h1,hc,gM,hd,hz,h2,nM⟩:=x.at_.ob;obtain⟨ne,oT,ts,hT,lS,h3⟩:=x.at_.tr _ rfl;have zM:3<ts.size:=(Array.getElem?_eq_some_iff.mp h3).1;unfold setFlight;refine l7 (MM h1 hd nM ?_);rw[if_pos (show(Value.ref T != Value.none)=true from by simp)];refine Ng hT lS zM ?_;have other:∀ b,b≠T->(s.heap.update T (Obj.mapFields (·.setIfInBounds 3 ((none:Option Addr).elim Value.none fun f=>rawInt f)))).get? b=s.heap.get? b:=fun b hb=>Mw _ _ (Ne.symm hb)
 have self:=MJ (Obj.mapFields (·.setIfInBounds 3 ((none:Option Addr).elim Value.none fun f=>rawInt f))) hT (Obj.isFreed_of_fields (Obj.data_mapFields lS _));have nI:T∉frs X.stack:=fun z=>(M5.mp (I.stkSub T z)).elim (x.fpT _ Y).2.1 (x.fpT _ Y).2.2.1
 refine hQ _ (I.slots (ch:=[T]) (tk:=s.toks) (fun b hb=>by rw[List.mem_singleton.mp hb];exact x.fpT _ Y) (fun b q _ hc e=>(other b fun z=>hc (by simp[z])).trans e)
  (fun b q hb e=>⟨q.slots,(other b fun z=>nI (z ▸ hb)).trans e⟩) (fun b hb q e=>(by obtain rfl:=List.mem_singleton.mp hb;exact⟨_,self⟩))) ⟨x.fp,fun p q=>?_,⟨o,vs,(other a (Ne.symm ne)).trans h1,hc,gM,hd,hz,h2,nM⟩,fun p q=>?_⟩
 ·cases q;exact x.fpT (T,fl) rfl
 ·cases q;exact⟨ne,_,_,self,Obj.data_mapFields lS _,by simp[zM]⟩
def CXe (P:Program) (w:World):CXT:=fun outer H s E e s'=>∃ a c dd T H',e=.ref a/\s'.os=s.os/\AllBare s'.gens/\Un (frs outer) [] H H' s.heap s'.heap/\HOk P w H' s'.heap /\
 (s.heap.objs.size<=a/\H' a=none)/\(s.heap.objs.size<=T/\H' T=none)/\ExcAt H' s'.heap a c dd (some (T,.none))/\E c dd H'
abbrev RK:=St->XK
def PX (X:Cx) (R:RK):Prop:=∀ (aa:List (Addr×Obj)) (σ:St) (H:Hp) (s:Shared) (a:Addr) (c:Value) (dd:Option Addr) (tb:Option Addr),Inv X aa σ H s->Exc X aa H s.heap a c dd (tb.map fun T=>(T,Value.none))->R σ c dd H->X.xe (.ref a) s
theorem CM {tb:Option Addr}:∀ p,(tb.map fun T=>(T,Value.none))=some p->p.2=Value.none\/p.2=v:=fun p e=>by
 cases tb with
 | none=>cases e
 | some T=>cases e;exact .inl rfl
theorem fS {K:PySem.W.Frag}{outer:List Env}{E:XK} :
  PX (iK (CXe P w) P w K mg base N qual scope f cd A outer s H E) (fun _=>E):=by
 intro aa σ H' s1 a c dd tb I x hE;have B:Body (iK (CXe P w) P w K mg base N qual scope f cd A outer s H E):=⟨Y,Y⟩;show wpAny _ _ (leaving _ (.ref a)) _ _ s1;unfold leaving;refine l7 (I.note B x CM fun s2 T I2 x2=>?_);refine I2.land x2 fun s3 I3 x3=>?_
 have sz:∀ b,bv (iK (CXe P w) P w K mg base N qual scope f cd A outer s H E) aa H' b->s.heap.objs.size<=b/\H' b=none:=fun b fb=>by
  refine⟨?_,fb.1⟩;rcases fb.2.2.2.1 with z|z
  ·exact absurd (show b∈([]:List Addr) from z) (by simp)
  ·exact z
 exact⟨a,c,dd,T,H',Y,I3.os,I3.bare,I3.base,I3.hok,sz a x3.fp,sz T (x3.fpT _ Y),x3.at_,hE⟩
theorem Hn {R:RK} (hp:PX X R):∀ (aa:List (Addr×Obj)) (σ:St) (H:Hp) (s:Shared) (e:Value) (s':Shared),Inv X aa σ H s->CXe X.prog X.w X.stack H s (R σ) e s'->X.xe e s':=by
 intro aa σ H s e s' I h;obtain⟨a,c,dd,T,H',rfl,os,bare,un,hok,ha,hT,x,hE⟩:=h;have I':Inv X aa σ H' s':=I.call' os un hok bare fun b z=>absurd z (by simp)
 refine hp aa σ H' s' a c dd (some T) I' ⟨I.fpOk ha.1 ha.2,fun p q=>?_,x⟩ hE;cases q
 exact I.fpOk hT.1 hT.2
section
variable {g:Array GenState}{d:Drawn}{os:OsState}
variable {q:Str}{N:Addr}{bs:List Value}{hdct:Bool}{ab:Bool}{col:Option Bool}{k0 k1 k2 k3 k5:Option Value}{B fB:String}
abbrev jN (C t:Addr):Obj:={ cls:=.ref C,data:=.fields #[.ref t,.none,.none,.none,.bool false,.none] }
abbrev kG (aW:List Value):Obj:={ cls:=.type "tuple",data:=.seq aW.toArray }
theorem FU (F:ExcBaseFacts B newId fB hV) (T:OwnTail h hV bm){aW:List Value}{Q:Value->Shared->Prop}
  (oC:h.get? C=some (excClassObj nm q C N bs bm hdct sn sub ab col dd k0 k1 k2 k3 k5 newId)) (lk:PySem.W.Looks (model prog w) h (typeLookup (.ref C) "__init__") (some (.builtin fB))) (few:aW.length<=sizeLine)
  (fin:∀ h',(∀ b o,h.get? b=some o->h'.get? b=some o)->h'.get? (h.objs.size + 1)=some (jN C (h.objs.size + 2))->Q (.ref (h.objs.size + 1)) ⟨h',g,d,t,os⟩) :
  wpAny (model prog w) A (call (.ref C) aW) Q E ⟨h,g,d,t,os⟩:=by
 have l1:=tc_lookup;have l2:=tc_bind (.ref C);have EF:(⟨h,g,d,t,os⟩:Shared).TypeIs (.ref C) "type":=⟨_,oC,Y⟩;refine NI (codeAny_of_tree ?_);show wpAny _ _ (callAny (.ref C) _) _ _ _
 repeat (any_goals (first|assumption|(with_reducible refine No oC ?_)|wp_step))
 refine⟨Y,codeAny_call_builtin_at (Code.quiet_builtin _ (by decide +kernel)) entry_typeCall (OF oC ?_)⟩;show wpAny _ (A.under (.builtin "type.__call__" ⟨.ref C::aW,[]⟩)) (Builtin.«type.__call__» ⟨.ref C::aW,[]⟩) _ _ _
 repeat (first|(with_reducible refine No oC ?_)|(with_reducible refine wpAny_madeBy_exc oC ?_)|wp_step)
 refine codeAny_call_builtin_code (Code.quiet_builtin _ F.quiet) (Pc F T oC (codeAny_exc_new_subT F T oC ?_ few));show wpAny _ _ _ _ _ _;have kk:∀ b o,h.get? b=some o->((h.push (kG aW)).push (jN C h.objs.size)).get? b=some o:=fun b o e=>Ma _ (Ma _ e)
 have r6:=kk _ _ oC;have oX:((h.push (kG aW)).push (jN C h.objs.size)).get? (h.objs.size + 1)=some { cls:=.ref C,data:=.fields #[.ref h.objs.size,.none,.none,.none,.bool false,.none] }:=by heap_get
 have ua:(Value.ref C::bm).contains (.ref C)=true:=by simp
 have T1:=T.keeps kk;unfold isInstance
 repeat (first|(with_reducible refine No oX ?_)|(with_reducible refine Os r6 ?_;rw[ua])|wp_step)
 show wpAny _ _ (typeLookup (.ref C) _) _ _ _;refine lk _ _ _ _ kk ?_;refine MS (l7 (Ow (F.init.bind _) (l7 (NI (codeAny_call_builtin F.init.plain F.initEntry (wpAny_check_init_subT F T1 r6 oX Y ?_))))))
 wp_walk
 refine fin _ (fun b o hb=>?_) ?_
 ·rw[Mw _ _ (Nf (M0 (Mc hb)))]
  exact Ma _ (kk b o hb)
 ·rw[MJ _ (Ma _ oX) rfl]
  simp only[MI];rfl
theorem Ie (F:ExcBaseFacts B newId fB hV) (T:OwnTail h hV bm){aW:List Value}{Q:Value->Shared->Prop}
  (oC:h.get? C=some (excClassObj nm q C N bs bm hdct sn sub ab col dd k0 k1 k2 k3 k5 newId)) (lk:PySem.W.Looks (model prog w) h (typeLookup (.ref C) "__init__") (some (.ref fI))) (oF:h.get? fI=some oI) (fF:oI.cls=.type "function") (few:aW.length<=sizeLine)
  (fin:wpAny (model prog w) (A.under (.builtin "type.__call__" ⟨.ref C::aW,[]⟩)) (call (.ref fI) (.ref (h.objs.size + 1)::aW)) (fun r s'=>r=.none/\Q (.ref (h.objs.size + 1)) s') E ⟨(h.push (kG aW)).push (jN C h.objs.size),g,d,t,os⟩) :
  wpAny (model prog w) A (call (.ref C) aW) Q E ⟨h,g,d,t,os⟩:=by
 have l1:=tc_lookup;have l2:=tc_bind (.ref C);have EF:(⟨h,g,d,t,os⟩:Shared).TypeIs (.ref C) "type":=⟨_,oC,Y⟩;refine NI (codeAny_of_tree ?_);show wpAny _ _ (callAny (.ref C) _) _ _ _
 repeat (any_goals (first|assumption|(with_reducible refine No oC ?_)|wp_step))
 refine⟨Y,codeAny_call_builtin_at (Code.quiet_builtin _ (by decide +kernel)) entry_typeCall (OF oC ?_)⟩;show wpAny _ (A.under (.builtin "type.__call__" ⟨.ref C::aW,[]⟩)) (Builtin.«type.__call__» ⟨.ref C::aW,[]⟩) _ _ _
 repeat (first|(with_reducible refine No oC ?_)|(with_reducible refine wpAny_madeBy_exc oC ?_)|wp_step)
 refine codeAny_call_builtin_code (Code.quiet_builtin _ F.quiet) (Pc F T oC (codeAny_exc_new_subT F T oC ?_ few));show wpAny _ _ _ _ _ _;have kk:∀ b o,h.get? b=some o->((h.push (kG aW)).push (jN C h.objs.size)).get? b=some o:=fun b o e=>Ma _ (Ma _ e)
 have r6:=kk _ _ oC;have DA:=kk _ _ oF;have oX:((h.push (kG aW)).push (jN C h.objs.size)).get? (h.objs.size + 1)=some { cls:=.ref C,data:=.fields #[.ref h.objs.size,.none,.none,.none,.bool false,.none] }:=by heap_get
 have ua:(Value.ref C::bm).contains (.ref C)=true:=by simp
 unfold isInstance
 repeat (first|(with_reducible refine No oX ?_)|(with_reducible refine Os r6 ?_;rw[ua])|wp_step)
 show wpAny _ _ (typeLookup (.ref C) _) _ _ _;refine lk _ _ _ _ kk ?_;refine MS (l7 ?_);unfold bindSpecial;refine l7 (Ol (T:="function") ⟨_,DA,fF⟩ ?_);rw[if_pos (by decide)];refine Mb (l7 (MV fin (fun r s' z=>?_) fun _ _ x=>x));obtain⟨rfl,z⟩:=z
 wp_walk
 exact z
theorem KU {x:Sem Value}{Q:Flow->Shared->Prop} (hb:bm.contains (.type "BaseException")=true)
  (hx:wpAny M A x (fun v s₁=>∃ e t dx,v=.ref e/\s₁.heap.get? C=some (excClassObj nm q C N bs bm hdct sn sub ab col dd k0 k1 k2 k3 k5 newId)/\s₁.heap.get? e=some { cls:=.ref C,dict:=dx,data:=.fields #[.ref t,.none,.none,.none,.bool false,.none] }/\wpAny M A (raiseNew (.ref e):Sem Flow) Q E s₁) E s) :
  wpAny M A (raiseStmt env (some x) none) Q E s:=by
 have Ev:(Value.ref C::bm).contains (.type "BaseException")=true:=by rw[Pn,hb,NU]
 unfold raiseStmt;refine l7 (MV hx (fun v s₁ z=>?_) fun _ _ y=>y);obtain⟨e,t,dx,rfl,oC,oe,z⟩:=z;obtain⟨hp,g,d,tk,os⟩:=s₁
 repeat (first|exact z|(with_reducible refine No oe ?_)|(with_reducible refine No oC ?_)|(with_reducible refine Os oC ?_;rw[Ev])|wp_step)
end
def qG (K:PySem.W.Frag) (C:Addr) (hV:List Value) (newId:String):Bool:=match K.lookup C with
 | some ⟨.type "type",_,.cls cd,sl⟩=>(match cd.mro,sl.toList with
  | .ref C1::bm,[_,_,_,_,some (.builtin n),_]=>C1 == C && n == newId && !cd.hasDel && PySem.W.tailIn K hV bm
  | _,_=>false)
 | _=>false
structure XCls (h:Heap) (C:Addr) (hV bm:List Value) (newId:String):Prop where
 obj:∃ nm q N bs hdct sn sub ab col dd k0 k1 k2 k3 k5,h.get? C=some (excClassObj nm q C N bs bm hdct sn sub ab col dd k0 k1 k2 k3 k5 newId)
 tail:OwnTail h hV bm
theorem rq {K:PySem.W.Frag} (X:K.In h) (e:qG K C hV newId=true):∃ bm,XCls h C hV bm newId:=by
 unfold qG at e;split at e
 ·rename_i d1 c1 s1 at1
  split at e
  ·rename_i C1 bm j0 j1 j2 j3 n1 j5 m1 z1
   simp only[Mz,beq_iff_eq,NW] at e
   obtain⟨⟨⟨rfl,rfl⟩,nd⟩,tl⟩:=e;obtain⟨f1,f2,f3,f4,f5,f6,f7,f8,f9,EH,Lg⟩:=c1;dsimp only at m1 nd;subst m1 nd;obtain rfl:s1=#[j0,j1,j2,j3,some (.builtin n1),j5]:=by
    obtain⟨l1⟩:=s1;simp only at z1
    rw[z1]
   exact⟨bm,⟨f1,f5,f4,f2,f6,f7,f8,f9,EH,d1,j0,j1,j2,j3,j5,X _ _ at1⟩,PySem.W.tail_of_in X tl⟩
  ·cases e
 ·cases e
section
open PySem.Builtin.ObjectAttr
abbrev bmV:List Value:=[.type "ValueError",.type "Exception",.type "BaseException",.type "object"]
theorem passV (self:Value):refuseLoop self "__setattr__" bmV=pure ():=by kernel_rfl
def oN:List Value->Bool
 | .ref _::r=>oN r
 | l=>l == bmV
theorem BD (self:Value):∀ {l:List Value},oN l=true->refuseLoop self "__setattr__" l=pure ()
 | .ref c::r,e=>by rw[refuseLoop_ref];exact BD self (l:=r) (by simpa [oN] using e)
 | [],e=>by cases e
 | .type n::r,e=>by rw[beq_iff_eq.mp (show((Value.type n::r) == bmV)=true from e)];exact passV self
 | .none::r,e=>by cases e
 | .bool _::r,e=>by cases e
 | .int _ _::r,e=>by cases e
 | .str _ _::r,e=>by cases e
 | .bytes _ _::r,e=>by cases e
 | .float _ _::r,e=>by cases e
 | .builtin _::r,e=>by cases e
 | .notImplemented::r,e=>by cases e
 | .ellipsis::r,e=>by cases e
theorem Cw:∀ {l:List Value},oN l=true->l.contains (.type "object")=true
 | .ref c::r,e=>by rw[Pn,Cw (l:=r) (by simpa [oN] using e),NU]
 | [],e=>by cases e
 | .type n::r,e=>by rw[beq_iff_eq.mp (show((Value.type n::r) == bmV)=true from e)];rfl
 | .none::r,e=>by cases e
 | .bool _::r,e=>by cases e
 | .int _ _::r,e=>by cases e
 | .str _ _::r,e=>by cases e
 | .bytes _ _::r,e=>by cases e
 | .float _ _::r,e=>by cases e
 | .builtin _::r,e=>by cases e
 | .notImplemented::r,e=>by cases e
 | .ellipsis::r,e=>by cases e
def ownVIn (K:PySem.W.Frag) (C:Addr):Bool:=(PySem.W.clsIn K C).any fun cd=>oN cd.mro
structure XSet (K:PySem.W.Frag) (C:Addr) (f:Str):Prop where
 sa:PySem.W.findIn K (.ref C) "__setattr__"=some (some (.builtin "object.__setattr__"))
 ov:ownVIn K C=true
 tk:PySem.W.takerIn K C f=some none
 hd:PySem.W.hasDictIn K C=true
section
variable {K:PySem.W.Frag}{x:Addr}
theorem Jp  (X:K.In s.heap) (hx:s.heap.get? x=some { cls:=.ref C,data:=.fields vs }) (Z:XSet K C name)
  (fin:∀ h',(∀ b o,b≠x->s.heap.get? b=some o->h'.get? b=some o)->h'.get? x=some { cls:=.ref C,dict:=some s.heap.objs.size,data:=.fields vs } ->
   h'.Ns1 s.heap.objs.size (fun y=>if y=name then some v else none)->Q () { s with heap:=h',toks:=s.toks + 2 }):wpAny (model prog w) A (setAttr (.ref x) name v) Q E s:=by
 have J:PySem.W.InstAt s.heap x { cls:=.ref C,data:=.fields vs } C none:=⟨hx,Y,Y,True.intro⟩;refine PySem.W.set_plain X J Z.sa ?_;have SF:=PySem.F.store_object;obtain⟨cd,hc,ho⟩:=PySem.W.any_some Z.ov;have ne:cd.mro.isEmpty=false:=by cases q:cd.mro with|nil=>rw[q] at ho;cases ho|cons _ _=>rfl
 have De:PySem.W.Looks (model prog w) s.heap (isInstance (.ref x) (.type "object")) true:=J.type.andThen (PySem.W.looks_mroIn X (by unfold PySem.W.mroIn;rw[hc,Option.bind_some,if_neg (by rw[ne];decide),Cw ho]));refine codeAny_call_builtin SF.slot.plain SF.entry (@PySem.W.check_slot (model prog w) _ _ { s with toks:=s.toks + 1 } "object.__setattr__" "object" "__setattr__" (.ref x) [.str name s.toks,v] [] _ SF.kind SF.split De (SF.args (.ref x) (.str name s.toks) v) ?_);obtain⟨qu,ha,hr⟩:=Option.bind_eq_some_iff.mp Z.tk;have mr:PySem.W.Looks (model prog w) s.heap (mroOf (.ref C)) cd.mro:=(PySem.W.looks_clsIn X hc).andThen .now;have tk:PySem.W.Looks (model prog w) s.heap (storeTaker? qu) none:=by
  cases qu with
  | none=>cases hr;exact .now
  | some a=>
   obtain⟨b,hb,z⟩:=Option.map_eq_some_iff.mp hr;refine(PySem.W.looks_takesIn X hb).andThen ?_;cases b with
   | true=>cases z
   | false=>exact .now
 rw[PySem.W.osa_eq,refuse_eq];refine l7 (l7 (PySem.W.Looks.here (s:={ s with toks:=s.toks + 1 }) J.type (l7 (PySem.W.Looks.here (s:={ s with toks:=s.toks + 1 }) mr ?_))));rw[BD _ ho];refine Mb (l7 (PySem.W.Looks.here (s:={ s with toks:=s.toks + 1 }) J.type (l7 (PySem.W.Looks.here (s:={ s with toks:=s.toks + 1 }) (PySem.W.looks_findIn X ha) (l7 (PySem.W.Looks.here (s:={ s with toks:=s.toks + 1 }) tk ?_))))));obtain⟨LF,g9,cv⟩:=PySem.W.any_some Z.hd;refine l7 (Mb (l7 (l7 (O7 hx (l7 (PySem.W.Looks.here (s:={ s with toks:=s.toks + 1 }) (PySem.W.looks_clsIn X g9) ?_))))));rw[cv];have lt:=Mc hx;have xs:x≠s.heap.objs.size:=Mn lt;have zt:(s.heap.push { cls:=.type "dict",data:=.dict #[] }).get? x=some { cls:=.ref C,data:=.fields vs }:=Ma _ hx;refine l7 (wpAny_alloc' (l7 (wpAny_update' zt (Mb (l7 (Mb (l7 ?_)))))));generalize hG:(s.heap.push { cls:=.type "dict",data:=.dict #[] }).update x (fun o=>{ cls:=o.cls,dict:=some s.heap.objs.size,data:=o.data,slots:=o.slots })=G;have iu:∀ b,b≠x->G.get? b=(s.heap.push { cls:=.type "dict",data:=.dict #[] }).get? b:=fun b hb=>by rw[<- hG];exact Mw _ _ (Ne.symm hb)
 have gd:G.get? s.heap.objs.size=some { cls:=.type "dict",data:=.dict #[] }:=(iu _ (Ne.symm xs)).trans (Mi _ Y);have gx:G.get? x=some { cls:=.ref C,dict:=some s.heap.objs.size,data:=.fields vs }:=by rw[<- hG,MJ _ zt rfl]
 have n0:G.Ns s.heap.objs.size (fun _=>none):=⟨_,#[],_,gd,Y,fun e he=>absurd he (by simp),fun _=>Y⟩;refine wpAny_nsSet1 (s:=⟨G,s.gens,s.drawn,s.toks + 1,s.os⟩) (Ps n0) fun h' iz fX=>?_
 obtain⟨oD,DH,E2,vB,vQ,uL⟩:=iz.count (ns:=[name]) (fun y hy=>by
  split at hy
  ·rename_i z;simp[z]
  ·exact absurd Y hy)
 refine l7 (wpAny_lookBehind vB (by rw[vQ];exact pastItsLine_dict (MN uL (by simp[Mh]))) ?_);refine Mb (fin h' (fun b o hb q=>?_) ((fX.2 _ xs).trans gx) iz);exact(fX.2 b (Mn (Mc q))).trans ((iu b hb).trans (Ma _ q))
end
structure XGet (K:PySem.W.Frag) (C:Addr) (f:Str):Prop where
 ga:PySem.W.findIn K (.ref C) "__getattribute__"=some (some (.builtin "BaseException.__getattribute__"))
 gt:PySem.W.findIn K (.ref C) "__getattr__"=some none
 ba:PySem.W.mroIn K C (.type "BaseException")=some true
 na:PySem.W.findIn K (.ref C) f=some none
 hd:PySem.W.hasDictIn K C=true
section
variable {K:PySem.W.Frag}{x dx:Addr}{mA:Str->Option Value}
end
end
def del (H:Hp) (a:Addr):Hp:=fun b=>if b=a then none else H b
theorem Cg:del H a a=none:=by unfold del;rw[if_pos rfl]
theorem mM  (h:b≠a):del H a b=H b:=by unfold del;rw[if_neg h]
def gQ (C t a:Addr) (dx:Option Addr):HO:=.ext fun h=>h.get? a=some { cls:=.ref C,dict:=dx,data:=.fields #[.ref t,.none,.none,.none,.bool false,.none] }
theorem Inv.del {a:Addr}{φ:Heap->Prop} (I:Inv X aa σ H s) (e:H a=some (.ext φ)):Inv X aa σ (del H a) s:=by
 have ne:∀ b u,H b=some u->(∀ ψ,u≠.ext ψ)->b≠a:=fun b u q n z=>by rw[z,e] at q;cases q;exact n _ rfl
 have un:Un X.fs X.ex X.H₀ (L2.del H a) X.s₀.heap s.heap:=by
  obtain⟨b1,b2,b3,b4,b5,b6,b7⟩:=I.base;refine⟨b1,b2,fun b o q n x=>?_,b4,fun b xs q=>?_,fun b o u q=>?_,fun b pp pq q=>?_⟩
  ·unfold L2.del;split
   ·rfl
   ·exact b3 b o q n x
  ·have:=b5 b xs q
   rw[mM (ne b _ this (by intro ψ z;cases z))];exact this
  ·have:=b6 b o u q
   rw[mM (ne b _ this (by intro ψ z;cases z))];exact this
  ·have:=b7 b pp pq q
   rw[mM (ne b _ this (by intro ψ z;cases z))];exact this
 have none_of:∀ b,H b=none->L2.del H a b=none:=fun b q=>by unfold L2.del;split <;> first|rfl|exact q
 refine { I with base:=un,free:=none_of _ I.free,freeC:=fun x c q=>none_of _ (I.freeC x c q),pin:=fun p hp=>?_,hok:=fun b o q=>?_ }
 ·obtain⟨p1,p2,p3⟩:=I.pin p hp
  exact⟨p1,none_of _ p2,p3⟩
 ·by_cases hb:b=a
  ·subst hb;rw[Cg] at q;cases q
  ·rw[mM hb] at q
   refine(I.hok b o q).stay (fun c u _ r=>r) (fun c r=>?_) (fun c xs r=>?_) fun c ob r=>?_
   ·rw[mM (ne c _ r (by intro ψ z;cases z))];exact r
   ·rw[mM (ne c _ r (by intro ψ z;cases z))];exact r
   ·rw[mM (ne c _ r (by intro ψ z;cases z))];exact r
theorem CQ {R:RK}{t:Addr}{Q:Flow->Shared->Prop} (hp:PX X R) (I:Inv X aa σ H s) (fp:bv X aa H a)
  (he:s.heap.get? a=some { cls:=.ref C,dict:=dx,data:=.fields #[.ref t,.none,.none,.none,.bool false,.none] }) (hR:R σ (.ref C) dx H):wpAny (model X.prog X.w) X.A (raiseNew (.ref a):Sem Flow) Q X.xe s:=by
 obtain⟨f0,f1,f2,f3,f4,f5⟩:=id fp;refine xD (s:=s) ?_ he Y (by simp) fun h' o' iV k1 k2 k3 k4 k5 k6 k7 k8=>?_
 ·rcases I.hdAt with z|⟨b,cs,z,c⟩
  ·exact .inl z
  ·exact .inr ⟨b,cs,z,c.chn I.hok,c.not_mem f0⟩
 ·have I':Inv X aa σ H { s with heap:=h' }:=I.turned (t':=s.toks) k1 f0 f1 f3 f4 f5
  refine hp aa σ H _ a (.ref C) dx none I' ⟨fp,fun p q=>(by cases q),⟨⟨o',iV,k2,k3,k4,k5,k6,?_,?_⟩,fun p q=>(by cases q)⟩⟩ hR
  ·rcases I.hdAt with z|⟨b,cs,z,c⟩
   ·rw[z] at k8
    exact⟨[],⟨NO,fun j a q=>by simp at q⟩,k8⟩
   ·rw[z] at k8
    exact⟨b::cs,c,k8⟩
  ·exact k7
structure XC0 (K:PySem.W.Frag) (C:Addr):Prop where
 at_:qG K C bmV "ValueError.__new__"=true
 kp:PySem.W.keepIn K (.ref C)=true
 init:PySem.W.findIn K (.ref C) "__init__"=some (some (.builtin "ValueError.__init__"))
structure XCI (K:PySem.W.Frag) (C f:Addr):Prop where
 at_:qG K C bmV "ValueError.__new__"=true
 kp:PySem.W.keepIn K (.ref C)=true
 init:PySem.W.findIn K (.ref C) "__init__"=some (some (.ref f))
 fn:PySem.W.isFn K (.ref f)=true
def JG (C:Addr) (R:RK) (t:TA):TS:=fun _ σ H=>t σ H fun vs H1=>vs.length<=sizeLine/\R σ (.ref C) none H1
def Ax (C:Addr) (sp:Sp) (aI:List V) (R:RK) (t:TA):TS:=fun _ σ H=>t σ H fun vs H1=>vs.length<=sizeLine/\∀ a t',H1 a=none ->
 sp (.ref a::(vs++aI)) (upd H1 a (gQ C t' a none)) (fun v H2=>v=.non/\∃ dx,H2 a=some (gQ C t' a dx)/\R σ (.ref C) dx (del H2 a)) (R σ)
section
variable {R:RK}{aC:Pos}{t:TA}
theorem AQ {a:List Expr}{Q:Flow->Shared->Prop} (hx:XCls s.heap C bmV bm "ValueError.__new__")
  (h:wpAny (model X.prog X.w) X.A (eval (.Call (.Name x np) a [] aC) X.env) (fun v s₁=>∃ b t dx,v=.ref b/\(∀ o,s.heap.get? C=some o->s₁.heap.get? C=some o)/\s₁.heap.get? b=some { cls:=.ref C,dict:=dx,data:=.fields #[.ref t,.none,.none,.none,.bool false,.none] }/\wpAny (model X.prog X.w) X.A (raiseNew (.ref b):Sem Flow) Q X.xe s₁) X.xe s) :
  wpAny (model X.prog X.w) X.A (exec (.Raise (some (.Call (.Name x np) a [] aC)) none pos) X.env) Q X.xe s:=by
 obtain⟨⟨nm,q,N,bs,hdct,sn,sub,ab,col,dd,k0,k1,k2,k3,k5,oC⟩,T⟩:=hx;rw[arm_exec_Raise];refine l7 (NR (KU (C:=C) (nm:=nm) (q:=q) (N:=N) (bs:=bs) (bm:=bm) (hdct:=hdct) (sn:=sn) (sub:=sub) (ab:=ab) (col:=col) (dd:=dd) (k0:=k0) (k1:=k1) (k2:=k2) (k3:=k3) (k5:=k5) (newId:="ValueError.__new__") (T.hasType Y) (l7 (MV h (fun v s1 z=>l7 (NR (Mb ?_))) fun _ _ y=>y))));obtain⟨b,t,dx,z1,z2,z3,z4⟩:=z;exact⟨b,t,dx,z1,z2 _ oC,z3,z4⟩
theorem Ge {s0:Shared}{Q:Flow->Shared->Prop} (hp:PX X R) (c:XC0 X.K C) (I:Inv X aa σ H s) (hz:us.length<=sizeLine) (hs:∀ o,s0.heap.get? C=some o->s.heap.get? C=some o) (hR:R σ (.ref C) none H) :
  wpAny (model X.prog X.w) X.A (call (.ref C) us) (fun v s₁=>∃ b t dx,v=.ref b/\(∀ o,s0.heap.get? C=some o->s₁.heap.get? C=some o)/\s₁.heap.get? b=some { cls:=.ref C,dict:=dx,data:=.fields #[.ref t,.none,.none,.none,.bool false,.none] }/\wpAny (model X.prog X.w) X.A (raiseNew (.ref b):Sem Flow) Q X.xe s₁) X.xe s:=by
 obtain⟨bm,⟨nm,q,N,bs,hdct,sn,sub,ab,col,dd,k0,k1,k2,k3,k5,oC⟩,T⟩:=rq I.kIn c.at_;have I0:=I;obtain⟨h,g,d,tk,os⟩:=s;refine FU PySem.F.excBase_ValueError T oC (PySem.W.looks_findIn I.kIn c.init) hz fun h' k' e'=>?_
 have I':Inv X aa σ H ⟨h',g,d,tk,os⟩:=I0.kept (t':=tk) k';refine⟨_,_,none,Y,fun o q=>k' _ _ (hs o q),e',CQ hp I' ?_ e' hR⟩;exact I0.fpOk (s:=⟨h,g,d,tk,os⟩) (M3 _) (I0.hok.fresh (M3 _))
theorem jS (hp:PX X R) (c:XC0 X.K C) (hg:Gl X x) (hm:X.mg x=some (.ref C)) (hdb:(x == ("__debug__":Str))=false:=by decide):PS X (.Raise (some (.Call (.Name x np) [] [] aC)) none pos) (JG C R eS):=by
 intro aa s σ H D I h;obtain⟨bm,xc⟩:=rq I.kIn c.at_;refine AQ xc (M4 (nr I hg hm ?_ hdb));exact PySem.W.callWith_K0 I.kIn c.kp (Ge hp c I h.1 (fun _ q=>q) h.2)
variable {k:Nat}
theorem FV (hp:PX X R) (c:XCI X.K C f) (F:bX X.prog X.w X.K X.mg X.base CX k f fd ps sp) (hr:aZ (k + 1) X.A) (hb:dc X.K fd ps ds) (hd:av aI ds) (D9:∀ σ,jR CX X (R σ)) (hg:Gl X x) (hm:X.mg x=some (.ref C)) (ha:PA X (e::es) t)
  (hdb:(x == ("__debug__":Str))=false:=by decide) (he:starEach (e::es) X.env=(false,eval e X.env)::starEach es X.env:=by rfl) (cu:(backTo aC (starEach es X.env)).any (·.1)=false:=by rfl) :
  PS X (.Raise (some (.Call (.Name x np) (e::es) [] aC)) none pos) (Ax C sp aI R t):=by
 intro aa s σ H D I h;obtain⟨K5,xc⟩:=rq I.kIn c.at_;refine AQ xc (M4 (nr I hg hm ?_ hdb));refine PySem.W.callWith_K (h₀:=X.base) I.ok.mod.kin c.kp (thn (ha aC aa s σ H _ I h) fun us s1 ⟨vs,H1,I1,r,z,q⟩=>⟨I1.kIn,?_⟩) he cu;obtain⟨LX,⟨yJ,q2,N2,LB,zR,LN,Du,LQ,EE,LS,l0,l1,l2,l3,l5,zb⟩,_⟩:=rq I.ok.mod.kin c.at_;have C0:∀ o,s.heap.get? C=some o->X.base.get? C=some o:=fun o q=>by rw[I.bk _ _ zb] at q;rw[<- q];exact zb
 obtain⟨bm,⟨nm,qn,N,bs,hdct,sn,sub,ab,col,dd,k0,k1,k2,k3,k5,oC⟩,T⟩:=rq I1.kIn c.at_;have rT:(X.K.lookup f).map (·.cls)=some (.type "function"):=beq_iff_eq.mp c.fn;obtain⟨oF,hF,hFc⟩:∃ oF,X.K.lookup f=some oF/\oF.cls=.type "function":=by
  cases hk:X.K.lookup f with
  | none=>rw[hk] at rT;cases rT
  | some oF=>rw[hk] at rT;exact⟨oF,Y,Option.some.inj rT⟩
 have hz:us.length<=sizeLine:=by rw[<- r.length];exact z
 have J:=I1;obtain⟨bq,g,d,tk,os⟩:=s1;refine Ie PySem.F.excBase_ValueError T oC (PySem.W.looks_findIn I1.kIn c.init) (I1.kIn _ _ hF) hFc hz ?_;have kk:∀ b o,bq.get? b=some o->((bq.push (kG us)).push (jN C bq.objs.size)).get? b=some o:=fun b o e=>Ma _ (Ma _ e)
 have oX:((bq.push (kG us)).push (jN C bq.objs.size)).get? (bq.objs.size + 1)=some { cls:=.ref C,data:=.fields #[.ref bq.objs.size,.none,.none,.none,.bool false,.none] }:=by heap_get
 have fr:H1 (bq.objs.size + 1)=none:=J.hok.fresh (M3 _);have I2:Inv X aa σ (upd H1 (bq.objs.size + 1) (gQ C bq.objs.size (bq.objs.size + 1) none)) ⟨(bq.push (kG us)).push (jN C bq.objs.size),g,d,tk,os⟩:=
  J.laid (t':=tk) kk (M3 _) ⟨oX,⟨_,oX⟩,fun h1 h2 p1 p2=>p2 _ p1⟩
 have q':=q (bq.objs.size + 1) bq.objs.size fr;have r2:av (V.ref (bq.objs.size + 1)::(vs++aI)) (Value.ref (bq.objs.size + 1)::(us++ds)):=.cons Y (r.append hd);have hl:(Value.ref (bq.objs.size + 1)::us++ds).length=ps.length:=by
  have e:=r2.length;rw[F.len _ _ _ _ q'] at e;exact e.symm
 refine NI (codeAny_mono (F.run _ X.stack _ _ ⟨Value.ref (bq.objs.size + 1)::us,[]⟩ (Value.ref (bq.objs.size + 1)::(us++ds)) _ _ (R σ) (hr.make C us []) (I2.env0.make C us []) (hb _ (Value.ref (bq.objs.size + 1)::us) I2.kIn hl) r2 q') fun rr s' dA=>?_);cases rr with
 | error e=>exact D9 σ aa σ _ _ e s' I2 dA
 | ok fl=>
  cases fl with
  | ret u=>
   obtain⟨v,H',I3,rv,ev,dx,e3,q3⟩:=I2.after dA;subst ev;refine⟨rv,_,bq.objs.size,dx,Y,fun o q=>I3.bk _ _ (C0 o q),(I3.hok _ _ e3).1,?_⟩;refine CQ hp (I3.del e3) ?_ (I3.hok _ _ e3).1 q3;exact J.fpOk (s:=⟨bq,g,d,tk,os⟩) (M3 _) Cg
  | next=>exact False.elim dA
  | brk=>exact False.elim dA
  | cont=>exact False.elim dA
def sFldX (K:PySem.W.Frag) (ta tv:TE) (f:Str):TS:=fun D σ H=>tv σ H fun y H1=>ta σ H1 fun x H2=>∃ a C t,x=.ref a/\H2 a=some (gQ C t a none)/\XSet K C f /\
 ∀ dx,H2 dx=none->D.nx σ (upd (upd H2 dx (.xd [(f,y)])) a (gQ C t a (some dx)))
theorem AY {o value:Expr}{tv:TE}{f:Str} (ha:PE X o ta) (hv:PE X value tv) (hs:swapsWith value (some (.Attribute o f aS)) pos.line X.env=pure false):PS X (.Assign [.Attribute o f aS] value pos) (sFldX X.K ta tv f):=by
 intro aa s σ H D I h;refine plainObj_wpAny_Assign_Attribute (thn (hv aa s σ H _ I h) fun v s1=>L2.ex5 fun y H1 I1 ry q1=>thn (ha aa s1 σ H1 _ I1 q1) fun u s2=>L2.ex5 fun x H2 I2 rx q2=>?_) hs;obtain⟨a,C,t,rfl,e2,Z,q2⟩:=q2;obtain rfl:u=Value.ref a:=rx;have oa:=(I2.hok _ _ e2).1;refine Jp I2.kIn oa Z fun h' k1 k2 k3=>?_
 have dn:H2 s2.heap.objs.size=none:=I2.hok.fresh (Md _);have da:s2.heap.objs.size≠a:=(aE e2 dn).symm;have old:∀ b o,s2.heap.get? b=some o->b≠s2.heap.objs.size:=fun b o q=>Mn (Mc q)
 have na:∀ b u,H2 b=some u->(∀ ψ,u≠.ext ψ)->b≠a:=fun b u q n z=>by rw[z,e2] at q;cases q;exact n _ rfl
 have nd:∀ b u,H2 b=some u->b≠s2.heap.objs.size:=fun b u q=>aE q dn
 have aY:∀ b u,H2 b=some u->(∀ ψ,u≠.ext ψ)->upd (upd H2 s2.heap.objs.size (.xd [(f,y)])) a (gQ C t a (some s2.heap.objs.size)) b=some u:=fun b u q n=>by rw[ak (na b u q n),ak (nd b u q)];exact q
 refine⟨σ,_,I2.un (t':=s2.toks + 2) ⟨fun b o q n _ _=>k1 b o (fun z=>?_) q,fun b o q n _ _=>⟨o.slots,k1 b o (fun z=>?_) q⟩,fun b o q n _=>?_,fun b o q _=>?_,fun b xs q=>?_,fun b o u q=>?_,fun b pp pq q=>?_⟩ (fun b o q=>?_),q2 _ dn⟩
 ·rw[z,e2] at n;cases n
 ·rw[z,e2] at n;cases n
 ·rw[ak (fun z=>by rw[z,e2] at n;cases n),ak (old b o q)];exact n
 ·by_cases z:b=a
  ·subst z;exact⟨_,k2⟩
  ·exact⟨o,k1 b o z q⟩
 ·exact aY b _ q (by intro ψ z;cases z)
 ·exact aY b _ q (by intro ψ z;cases z)
 ·exact aY b _ q (by intro ψ z;cases z)
 ·by_cases z:b=a
  ·subst z
   rw[ah] at q;cases q
   exact⟨k2,⟨_,k2⟩,fun h1 h2 p1 p2=>p2 _ p1⟩
  ·rw[ak z] at q
   by_cases z2:b=s2.heap.objs.size
   ·subst z2
    rw[ah] at q;cases q
    refine⟨_,k3,fun g=>?_⟩;by_cases hg:g=f
    ·subst hg;simpa [du] using ry
    ·have e0:([(f,y)]:List (Str×V)).lookup g=none:=by rw[Nd,show(g == f)=false from by simpa using hg];rfl
     rw[e0,if_neg hg];exact True.intro
   ·rw[ak z2] at q
    refine(I2.hok b o q).stay (fun c u hc r=>k1 c u ?_ r) (fun c r=>aY c _ r (by intro ψ z;cases z)) (fun c xs r=>aY c _ r (by intro ψ z;cases z)) fun c ob r=>aY c _ r (by intro ψ z;cases z)
    rcases hc with hc|hc
    ·rw[hc];exact z
    ·exact na c _ hc (by intro ψ z;cases z)
end
section
open PySem.Builtin.ObjectAttr
structure XIs (K:PySem.W.Frag) (C:Addr):Prop where
 ga:PySem.W.findIn K (.ref C) "__getattribute__"=some (some (.builtin "BaseException.__getattribute__"))
 gt:PySem.W.findIn K (.ref C) "__getattr__"=some none
 ba:PySem.W.mroIn K C (.type "BaseException")=some true
 ob:PySem.W.mroIn K C (.type "object")=some true
 cl:PySem.W.findIn K (.ref C) "__class__"=some (some (.builtin "object.__class__"))
 gs:PySem.W.specialIn K (.builtin "object.__class__") "__get__"=some (some (.builtin "getset_descriptor.__get__"))
 tk:PySem.W.takesIn K (.builtin "object.__class__")=some true
 hd:PySem.W.hasDictIn K C=true
section
variable {K:PySem.W.Frag}{x:Addr}{od:Option Obj}
end
structure IsX (H:Hp) (a C:Addr) (dd:Option Addr):Prop where
 at_:∃ o u,H a=some (.frz o u)/\o.cls=.ref C/\o.dict=dd/\∃ vs,o.data=.fields vs
end
abbrev Cx.tr (X:Cx) (pn:List (Addr×Obj)) (E:Value->Shared->Prop):Cx:={ X with pn:=pn,xe:=E }
abbrev Cx.hnd (X:Cx) (a:Addr) (H₀:Hp):Cx:={ X with A:=X.A.mark (some (.ref a)),H₀:=H₀,xe:=fun _ _=>False }
def dN (H H₀:Hp):Hp:=fun b=>match H b with|some (.frz o u)=>some (.frz o u)|_=>H₀ b
theorem wH {u:HO} (e:H b=some (.frz o u)):dN H H₀ b=some (.frz o u):=by unfold dN;rw[e]
theorem tf  (n:∀ o u,H b≠some (.frz o u)):dN H H₀ b=H₀ b:=by
 unfold dN;split
 ·rename_i o u e;exact absurd e (n o u)
 ·rfl
theorem Inv.enter (hex:X.ex=[]) (I:Inv X aa σ H s) (x:Exc X aa H s.heap a c dd tb):∃ o,o.cls=c/\o.dict=dd/\(∃ vs,o.data=.fields vs)/\Inv (X.hnd a (dN (upd H a (.frz o (.own a))) X.H₀)) aa σ (upd H a (.frz o (.own a))) s:=by
 obtain⟨o,vs,h1,hc,gM,hd,hz,⟨cs,ch,h2⟩,nM⟩:=x.at_.ob;obtain⟨f0,f1,f2,f3,f4,f5⟩:=x.fp;have uv:X.s₀.heap.objs.size<=a:=by
  rcases f3 with z|z
  ·rw[hex] at z;cases z
  ·exact z
 refine⟨o,hc,gM,⟨vs,hd⟩,?_⟩;have na:∀ b u,H b=some u->b≠a:=fun b u q=>aE q f0
 have old:∀ b ob,X.s₀.heap.get? b=some ob->b≠a:=fun b ob q=>Mn (Mv (Mc q) uv)
 have aY:∀ b u,H b=some u->upd H a (.frz o (.own a)) b=some u:=fun b u q=>by rw[ak (na b u q)];exact q
 have ee:∀ b,b≠a->H b=none->upd H a (.frz o (.own a)) b=none:=fun b z q=>by rw[ak z];exact q
 have j7:∀ b,b≠a->H b=none->dN (upd H a (.frz o (.own a))) X.H₀ b=X.H₀ b:=fun b z q=>tf fun o' u' q'=>by rw[ee b z q] at q';cases q'
 have K:=I.ok;refine { I with ok:=?_,base:=?_,free:=ee _ (Ne.symm f1) I.free,freeC:=fun y cl q=>ee _ (f4 y cl q) (I.freeC y cl q),pin:=fun p hp=>?_,hok:=fun b u q=>?_ }
 ·refine { mod:=K.mod,kind:=K.kind,glob:=K.glob,blt:=K.blt,above:=K.above,inj:=K.inj,has:=K.has,cab:=K.cab,hd:=?_,frames:=K.frames,stk:=K.stk,exf:=K.exf,bs:=fun b ob q=>?_,bsz:=K.bsz,noex:=K.noex,exfs:=K.exfs,funs:=K.funs,frf:=fun b hb=>?_ }
  ·refine .inr ⟨a,cs,Y,List.nodup_cons.mpr ⟨ch.not_mem f0,ch.1⟩,fun j b hj=>?_⟩
   cases j with
   | zero=>
    obtain rfl:a=b:=by simpa using hj
    exact⟨o,.own a,vs,wH ah,hd,h2⟩
   | succ j=>
    have Dy:cs[j]?=some b:=by simpa using hj
    obtain⟨o',u',iV,q1,q2,q3⟩:=ch.2 j b Dy;exact⟨o',u',iV,wH (aY _ _ q1),q2,q3⟩
  ·obtain⟨q1,q2⟩:=K.bs b ob q
   obtain⟨_,q3⟩:=I.bs b ob q;exact⟨q1,(j7 b (old b ob q1) q3).trans q2⟩
  ·have jD:b∈X.fs:=hb
   have:=K.frf b jD;have rZ:b≠a:=fun z=>f2 (z ▸ jD)
   have h3:H b=none:=I.stkFree b (by
    rcases K.stk with z|⟨z,y⟩
    ·rw[z];exact jD
    ·rw[z];unfold frs;rw[NS,y];exact Mo _ jD)
   exact(j7 b rZ h3).trans this
 ·obtain⟨b1,b2,b3,b4,b5,b6,b7⟩:=I.base
  have back:∀ b ob,X.s₀.heap.get? b=some ob->dN (upd H a (.frz o (.own a))) X.H₀ b=none->X.H₀ b=none:=fun b ob q n=>by
   unfold dN at n;split at n
   ·cases n
   ·exact n
  refine⟨fun b ob q n=>b1 b ob q (back b ob q n),fun b ob q n=>b2 b ob q (back b ob q n),fun b ob q n z=>ee b (old b ob q) (b3 b ob q (back b ob q n) z),b4,fun b xs q=>?_,fun b ob u q=>?_,fun b pp pq q=>?_⟩
  ·replace q:dN (upd H a (.frz o (.own a))) X.H₀ b=_:=q
   unfold dN at q;split at q
   ·cases q
   ·exact aY _ _ (b5 b xs q)
  ·replace q:dN (upd H a (.frz o (.own a))) X.H₀ b=_:=q
   unfold dN at q;split at q
   ·rename_i e;rw[<- q];exact e
   ·exact aY _ _ (b6 b ob u q)
  ·replace q:dN (upd H a (.frz o (.own a))) X.H₀ b=_:=q
   unfold dN at q;split at q
   ·cases q
   ·exact aY _ _ (b7 b pp pq q)
 ·obtain⟨p1,p2,p3⟩:=I.pin p hp
  exact⟨p1,ee _ (f5 p hp) p2,p3⟩
 ·by_cases z:b=a
  ·subst z
   rw[ah] at q;cases q
   exact⟨h1,⟨_,h1⟩⟩
  ·rw[ak z] at q
   exact(I.hok b u q).stay (fun c' u' _ r=>r) (fun c' r=>aY _ _ r) (fun c' xs r=>aY _ _ r) fun c' ob r=>aY _ _ r
theorem Inv.leave  (hex:X.ex=[]) (I:Inv X aa σ H s) (fp:bv X aa H a) (J:Inv (X.hnd a (dN (upd H a (.frz o (.own a))) X.H₀)) aa σ' H' s'):Inv X aa σ' H' s':=by
 obtain⟨f0,f1,f2,f3,f4,f5⟩:=fp;have uv:X.s₀.heap.objs.size<=a:=by
  rcases f3 with z|z
  ·rw[hex] at z;cases z
  ·exact z
 have na:∀ b u,H b=some u->b≠a:=fun b u q=>aE q f0
 have old:∀ b ob,X.s₀.heap.get? b=some ob->b≠a:=fun b ob q=>Mn (Mv (Mc q) uv)
 have e1:∀ b ob,X.s₀.heap.get? b=some ob->X.H₀ b=none->dN (upd H a (.frz o (.own a))) X.H₀ b=none:=fun b ob q n=>by
  have hb:H b=none:=I.base.free b ob q n (by rw[hex];simp);rw[tf fun o' u' q'=>by rw[ak (old b ob q),hb] at q';cases q'];exact n
 obtain⟨b1,b2,b3,b4,b5,b6,b7⟩:=J.base;refine { J with ok:=I.ok,base:=⟨fun b ob q n=>b1 b ob q (e1 b ob q n),fun b ob q n=>b2 b ob q (e1 b ob q n),fun b ob q n=>b3 b ob q (e1 b ob q n),b4,fun b xs q=>b5 b xs ?_,fun b ob u q=>b6 b ob u ?_,fun b pp pq q=>b7 b pp pq ?_⟩ }
 ·have h:=I.base.tups b xs q
  show dN _ _ _=_;rw[tf fun o' u' q'=>by rw[ak (na _ _ h),h] at q';cases q'];exact q
 ·have h:=I.base.frzs b ob u q
  exact wH (by rw[ak (na _ _ h)];exact h)
 ·have h:=I.base.tbls b pp pq q
  show dN _ _ _=_;rw[tf fun o' u' q'=>by rw[ak (na _ _ h),h] at q';cases q'];exact q
theorem B2 {Q:Bool->Shared->Prop}{K:PySem.W.Frag}{e:Addr}{b:Bool} (X:K.In s.heap) (he:s.heap.get? e=some oe) (hc:oe.cls=.ref C) (hb:PySem.W.mroIn K C (.ref D)=some b)
  (hB:PySem.W.mroIn K D (.type "BaseException")=some true) (hT:PySem.W.typeIn K (.ref D)=some (.type "type")) (fin:Q b s):wpAny M A (excMatches (.ref e) (.ref D)) Q E s:=by
 have L1:=PySem.W.looks_typeIn (M:=M) X hT;have L2:=PySem.W.looks_mroIn (M:=M) X hB;have L3:=PySem.W.looks_mroIn (M:=M) X hb;have L4:PySem.W.Looks M s.heap (isType (.ref D)) true:=by
  obtain⟨cd,h1,_⟩:=Option.bind_eq_some_iff.mp hB;unfold PySem.W.clsIn at h1;split at h1
  ·rename_i c1 d1 e1 s1 at1
   intro A' Q' E' s' k q;unfold isType loadHead;exact l7 (O7 (k _ _ (X _ _ at1)) (Mb q))
  ·cases h1
 have L5:PySem.W.Looks M s.heap (isInstance (.ref D) (.type "tuple")) false:=L1.andThen (PySem.W.Looks.of_pure tc_notTuple);have L6:PySem.W.Looks M s.heap (typeOf (.ref e)) (.ref C):=(PySem.W.Looks.ld he).andThen (by rw[hc];exact .now);have L7:PySem.W.Looks M s.heap (isExcClass (.ref D)) true:=L4.andThen L2;unfold excMatches;refine l7 (L5.here ?_);simp only[MY,if_false]
 refine l7 (Mb (l7 ?_));simp only[Oj,List.forIn_nil]
 refine l7 (l7 (L7.here ?_));simp only[Pf,MY,if_false]
 refine Mb (Mb (l7 (L6.here (l7 (l7 (l7 (L3.here ?_)))))));cases b with
 | true=>
  simp only[if_true]
  exact Mb (Mb (Mb fin))
 | false=>
  simp only[MY,if_false]
  exact Mb (Mb (Mb fin))
theorem sN {n:Str} (I:Inv X aa σ H s) (hN:X.N.Nodup) (hi:X.N[i]?=some n) (hk:X.env.kindOf n=some .local)
  (fin:∀ s',Inv X aa (σ.set i none) H s'->Q () s'):wpAny M A (do bindName X.env n .none;unbindBehindTheSuite X.env n pos) Q E s:=by
 obtain⟨m,hn,hl⟩:=id I.loc;have mf:(X.env.scope.kind == .class || (X.env.scope.kind == .module && X.env.locals != X.env.globals))=false:=by rw[I.ok.kind];rfl
 obtain⟨oL,_,_,yC,_⟩:=id hn;refine wpAny_nameGoes_keeps hk hn mf fun h' v vA hs=>fin _ ?_
 have lo:∀ b o,X.s₀.heap.get? b=some o->b≠X.env.locals:=fun b o e=>Mn (Mv (Mc e) I.ok.above)
 refine { ok:=I.ok,os:=I.os,bare:=I.bare,base:=⟨fun b o e n hb hx=>(hs.2 b (lo b o e)).trans (I.base.keep b o e n hb hx),fun b o e n hb hx=>?_,I.base.free,fun b o e hx=>?_,I.base.tups,I.base.frzs,I.base.tbls⟩,loc:=⟨_,vA,fun j y v' e1 e2 e3=>?_⟩,cell:=fun y c e=>?_,free:=I.free,freeC:=I.freeC,pin:=fun p hp=>?_,hok:=fun b ob e=>?_,len:=by simpa using I.len }
 ·obtain⟨sl,e1⟩:=I.base.slot b o e n hb hx
  exact⟨sl,(hs.2 b (lo b o e)).trans e1⟩
 ·obtain⟨o',e1⟩:=I.base.there b o e hx
  exact⟨o',(hs.2 b (lo b o e)).trans e1⟩
 ·have hj:j≠i:=fun z=>by
   subst z;have sh:j<σ.length:=by rw[I.len];exact(List.getElem?_eq_some_iff.mp hi).1
   rw[NM sh] at e2;cases e2
  rw[NQ (Ne.symm hj)] at e2;obtain⟨u',r',q⟩:=hl j y v' e1 e2 e3;refine⟨u',r',?_⟩;rcases q with⟨k,e⟩|⟨k,c,e,z⟩
  ·refine .inl ⟨k,?_⟩
   have:y≠n:=fun e=>hj (wB hN e1 (e ▸ hi))
   simp[this,e]
  ·exact .inr ⟨k,c,e,z.sameBut hs (I.cne y c e)⟩
 ·obtain⟨w',z⟩:=I.cell y c e
  exact⟨w',z.sameBut hs (I.cne y c e)⟩
 ·obtain⟨e,n,ne,nf,d⟩:=I.pin p hp
  exact⟨(hs.2 p.1 ne).trans e,n,ne,nf,d⟩
 ·refine(I.hok b ob e).stay (fun c w' hc q=>(hs.2 c ?_).trans q) (fun _ q=>q) fun _ _ q=>q
  rintro rfl
  rcases hc with hc|hc
  ·rw[<- hc,I.free] at e;cases e
  ·rw[I.free] at hc;cases hc
abbrev Hd1:=Addr×Option Nat×TS
def eF.as (D:eF) (i:Nat):eF:=⟨fun σ H=>D.nx (σ.set i none) H,D.rt,fun σ H=>D.bk (σ.set i none) H,fun σ H=>D.ct (σ.set i none) H⟩
def tI (K:PySem.W.Frag):List Hd1->eF->RK
 | [],_,_,_,_,_=>False
 | (D,i,t)::r,En,σ,c,dd,H=>∃ C b,c=.ref C/\PySem.W.mroIn K C (.ref D)=some b/\if b=true then ∀ a o,H a=none->o.cls=c->o.dict=dd->(∃ vs,o.data=.fields vs) ->
   (match i with|none=>t En σ (upd H a (.frz o (.own a)))|some i=>t (En.as i) (σ.set i (some (.ref a))) (upd H a (.frz o (.own a)))) else tI K r En σ c dd H
inductive PHs (X:Cx):List ExceptHandler->List Hd1->Prop where
 | nil:PHs X [] []
 | one {x:Str}{np pos:Pos}{b₀:Stmt}{su:List Stmt}{D:Addr}{t:TS}{hs:List ExceptHandler}{ts:List Hd1} (hg:Gl X x) (hm:X.mg x=some (.ref D)) (hB:PySem.W.mroIn X.K D (.type "BaseException")=some true) (hT:PySem.W.typeIn X.K (.ref D)=some (.type "type"))
   (hdb:(x == ("__debug__":Str))=false) (hb:∀ a H₀,PSs (X.hnd a H₀) (b₀::su) t) (r:PHs X hs ts):PHs X (.ExceptHandler (some (.Name x np)) none (b₀::su) pos::hs) ((D,none,t)::ts)
 | as_ {x n:Str}{i:Nat}{np pos:Pos}{b₀:Stmt}{su:List Stmt}{D:Addr}{t:TS}{hs:List ExceptHandler}{ts:List Hd1} (hg:Gl X x) (hm:X.mg x=some (.ref D)) (hB:PySem.W.mroIn X.K D (.type "BaseException")=some true) (hT:PySem.W.typeIn X.K (.ref D)=some (.type "type"))
   (hdb:(x == ("__debug__":Str))=false) (hN:X.N.Nodup) (hi:X.N[i]?=some n) (hk:X.env.kindOf n=some .local) (hb:∀ a H₀,PSs (X.hnd a H₀) (b₀::su) t) (r:PHs X hs ts):PHs X (.ExceptHandler (some (.Name x np)) (some n) (b₀::su) pos::hs) ((D,some i,t)::ts)
theorem CK {Q:Value->Shared->Prop} (I:Inv X aa σ H s) (hg:Gl X x) (hm:X.mg x=some u) (h:Q u s)
  (hd:(x == ("__debug__":Str))=false):wpAny (model X.prog X.w) A (eval (.Name x pos) X.env) Q E s:=
 Calls.Name_function_global I.ok.kind hg (Calls.loadGlobal_global (by rw[I.ok.glob];exact I.mod.glob.keeps I.bk) hm h) hd
theorem SP.leave {aa:List (Addr×Obj)}{σ:St}{H:Hp}{s s':Shared}{a:Addr}{o:Obj}{D:eF}{f:Flow} (hex:X.ex=[]) (I:Inv X aa σ H s) (fp:bv X aa H a) (h:SP (X.hnd a (dN (upd H a (.frz o (.own a))) X.H₀)) aa D f s'):SP X aa D f s':=by
 cases f with
 | next=>obtain⟨σ',H',J,q⟩:=h;exact⟨σ',H',I.leave hex fp J,q⟩
 | brk=>obtain⟨σ',H',J,q⟩:=h;exact⟨σ',H',I.leave hex fp J,q⟩
 | cont=>obtain⟨σ',H',J,q⟩:=h;exact⟨σ',H',I.leave hex fp J,q⟩
 | ret u=>obtain⟨v,σ',H',J,q⟩:=h;exact⟨v,σ',H',I.leave hex fp J,q⟩
theorem SP.as_ {A:Around}{E:Value->Shared->Prop}{aa:List (Addr×Obj)}{s:Shared}{i:Nat}{n:Str}{pos:Pos}{D:eF}{f:Flow} (hN:X.N.Nodup) (hi:X.N[i]?=some n) (hk:X.env.kindOf n=some .local) (h:SP X aa (D.as i) f s) :
  wpAny (model X.prog X.w) A (do bindName X.env n .none;unbindBehindTheSuite X.env n pos) (fun _ s'=>SP X aa D f s') E s:=by
 cases f with
 | next=>obtain⟨σ',H',J,q⟩:=h;exact sN J hN hi hk fun s' J'=>⟨_,H',J',q⟩
 | brk=>obtain⟨σ',H',J,q⟩:=h;exact sN J hN hi hk fun s' J'=>⟨_,H',J',q⟩
 | cont=>obtain⟨σ',H',J,q⟩:=h;exact sN J hN hi hk fun s' J'=>⟨_,H',J',q⟩
 | ret u=>obtain⟨v,σ',H',J,q⟩:=h;exact sN J hN hi hk fun s' J'=>⟨v,_,H',J',q⟩
theorem F4 {ts:List Hd1} (hex:X.ex=[]) (P:PHs X hs ts):∀ {aa:List (Addr×Obj)}{σ:St}{H:Hp}{s:Shared}{a:Addr}{c:Value}{dd:Option Addr}{T:Addr}{D:eF},Inv X aa σ H s->Exc X aa H s.heap a c dd (some (T,.none))->tI X.K ts D σ c dd H ->
  wpAny (model X.prog X.w) X.A (handleBy (.ref a) X.env hs) (SP X aa D) X.xe s:=by
 induction P with
 | nil=>intro aa σ H s a c dd T D I x h;exact h.elim
 | @one x np pos b₀ su Dc t hs ts hg hm hB hT hdb hb r ih=>
  intro aa σ H s a c dd T D I x h;obtain⟨C,b,rfl,mD,h⟩:=h;obtain⟨o,vs,h1,hc,_⟩:=x.at_.ob;refine Pg (codeAny_handlers_test (CK I hg hm (B2 I.kIn h1 hc mD hB hT ?_) hdb)) (by intro q;cases q);cases b with
  | false=>exact ih I x (by simpa using h)
  | true=>
   refine codeAny_handlers_suite (I.land x fun s1 I1 x1=>?_);obtain⟨o1,g1,g2,g3,J⟩:=I1.enter hex x1;rw[if_pos rfl] at h;refine MV (hb a _ aa s1 σ _ D J (h a o1 x1.fp.1 g1 g2 g3)) (fun f s2 z=>z.leave hex I1 x1.fp) fun _ _ z=>z.elim
 | @as_ x n i np pos b₀ su Dc t hs ts hg hm hB hT hdb hN hi hk hb r ih=>
  intro aa σ H s a c dd T D I x h;obtain⟨C,b,rfl,mD,h⟩:=h;obtain⟨o,vs,h1,hc,_⟩:=x.at_.ob;refine Pg (codeAny_handlers_test (CK I hg hm (B2 I.kIn h1 hc mD hB hT ?_) hdb)) (by intro q;cases q);cases b with
  | false=>exact ih I x (by simpa using h)
  | true=>
   refine codeAny_handlers_suite_as (I.land x fun s1 I1 x1=>?_);obtain⟨o1,g1,g2,g3,J⟩:=I1.enter hex x1;rw[if_pos rfl] at h;refine xu (X:=X.hnd a _) J hN hi (.inl hk) (v:=.ref a) Y (fun s2 J2=>?_) (.inr hk);exact MV (hb a _ aa s2 _ _ (D.as i) J2 (h a o1 x1.fp.1 g1 g2 g3)) (fun f s3 z=>(z.leave hex I1 x1.fp).as_ hN hi hk) fun _ _ z=>z.elim
def tTry (K:PySem.W.Frag) (ts:List Hd1) (tb:RK->TS) (te:TS):TS:=fun D σ H=>tb (tI K ts D) { D with nx:=fun σ H=>te D σ H } σ H
theorem ps_try {body iB:List Stmt}{h₀:ExceptHandler}{ts:List Hd1}{tb:RK->TS}{te:TS} (B:Body X) (hex:X.ex=[]) (P:PHs X (h₀::hs) ts)
  (hb:∀ (pn:List (Addr×Obj)) (E:Value->Shared->Prop) (R:RK),PX (X.tr pn E) R->PassesOwn (model X.prog X.w) X.A X.env E->PSs (X.tr pn E) body (tb R)) (he:PSs X iB te):PS X (.Try body (h₀::hs) iB [] pos) (tTry X.K ts tb te):=by
 intro aa s σ H D I h;refine wpAny_Try_except ?_;have to:∀ {bI σ' H' s'},Inv X aa σ' H' s'->Inv (X.tr (X.pn++aa) bI) [] σ' H' s':=fun {bI σ' H' s'} J=>{ J with pin:=fun p hp=>J.pin p (by simpa using hp),ok:={ J.ok with } }
 have qo:∀ {E' bI σ' H' s'},Inv (X.tr (X.pn++aa) E') bI σ' H' s'->Inv X aa σ' H' s':=fun {E' bI σ' H' s'} J=>{ J with pin:=fun p hp=>J.pin p (MC _ hp),ok:={ J.ok with } }
 refine MV (hb (X.pn++aa) (fun e s₁=>wpAny (model X.prog X.w) X.A (noteFrame e X.env) (fun _ s₂=>wpAny (model X.prog X.w) X.A (setFlight e none) (fun _ s₃=>wpAny (model X.prog X.w) X.A (handleBy e X.env (h₀::hs)) (SP X aa D) X.xe s₃) X.xe s₂) X.xe s₁)
  (tI X.K ts D) ?_ PassesOwn.looking [] s σ H _ (to I) h) (fun f s1 z=>?_) fun _ _ z=>z
 ·intro bI σ' H' s' a c dd tb J x hR
  have J':=qo J;have x':Exc X aa H' s'.heap a c dd (tb.map fun T=>(T,Value.none)):=⟨⟨x.fp.1,x.fp.2.1,x.fp.2.2.1,x.fp.2.2.2.1,x.fp.2.2.2.2.1,fun p hp=>x.fp.2.2.2.2.2 p (MC _ hp)⟩,fun p q=>by
   have y:=x.fpT p q;exact⟨y.1,y.2.1,y.2.2.1,y.2.2.2.1,y.2.2.2.2.1,fun p hp=>y.2.2.2.2.2 p (MC _ hp)⟩,x.at_⟩
  refine J'.note B x' CM fun s2 T I2 x2=>?_
  exact I2.land x2 fun s3 I3 x3=>F4 hex P I3 x3 hR
 ·cases f with
  | next=>obtain⟨σ',H',J,q⟩:=z;exact he aa s1 σ' H' D (qo J) q
  | brk=>obtain⟨σ',H',J,q⟩:=z;exact⟨σ',H',qo J,q⟩
  | cont=>obtain⟨σ',H',J,q⟩:=z;exact⟨σ',H',qo J,q⟩
  | ret u=>obtain⟨v,σ',H',J,q⟩:=z;exact⟨v,σ',H',qo J,q⟩
structure dR (K:PySem.W.Frag) (x qual:Str) (st:Stmt) (f:Addr) (fd:FuncData):Prop where
 ex:∃ (oc:Value) (od:Option Addr) (dV kV bF pm:Value) (an:Option Addr) (aw ct:Value) (cX:Array (Option Value)),
  fd=PySem.W.fnOf x qual (mX st) (jh st) (aA st) dV kV bF pm an aw ct/\K.lookup f=some ⟨oc,od,.func fd,cX⟩/\PySem.W.codeIn K aw qual=true
theorem oy {K:PySem.W.Frag}{od an:Option Addr}{dV kV bF aw:Value} (l:K.lookup f=some ⟨oc,od,.func (PySem.W.fnOf x qual (mX st) (jh st) (aA st) dV kV bF pm an aw ct),cX⟩)
  (c:PySem.W.codeIn K aw qual=true):dR K x qual st f (PySem.W.fnOf x qual (mX st) (jh st) (aA st) dV kV bF pm an aw ct):=⟨⟨oc,od,dV,kV,bF,pm,an,aw,ct,cX,Y,l,c⟩⟩
section
variable {K:PySem.W.Frag}
theorem dR.ok {k:Nat} (F:dR K x qual st f fd) (S:aN N ps (aA st)) (len:∀ vs H Q E,sp vs H Q E->vs.length=ps.length)
  (cF:∀ (aw:Value) (A:Around) (outer:List Env) (s:Shared) (H:Hp) (vs:List V) (Q:VK) (E:XK),aZ k (A.deeper (envOfC qual (aA st) s.heap.objs.size f aw))->sp vs H Q E ->
   ∃ t,PSs (iK CX0 P w K mg base N qual (aA st) f aw A outer s H E).nox (jh st) t/\t { nx:=fun _ H'=>Q .non H',rt:=Q } (jf N vs) H):bX P w K mg base CX0 (k + 1) f fd ps sp:=by
 obtain⟨oc,od,dV,kV,bF,pm,an,aw,ct,cX,rfl,lk,eM⟩:=F.ex;refine xx lk eM S len fun A outer s H vs Q E hr gK=>?_
 obtain⟨t,h,q⟩:=cF aw A outer s H vs Q E hr gK;exact⟨t,h.nox,q⟩
theorem dR.okX {k:Nat} (F:dR K x qual st f fd) (S:aN N ps (aA st)) (len:∀ vs H Q E,sp vs H Q E->vs.length=ps.length)
  (cF:∀ (aw:Value) (A:Around) (outer:List Env) (s:Shared) (H:Hp) (vs:List V) (Q:VK) (E:XK),aZ k (A.deeper (envOfC qual (aA st) s.heap.objs.size f aw))->sp vs H Q E ->
   ∃ t,PSs (iK (CXe P w) P w K mg base N qual (aA st) f aw A outer s H E) (jh st) t/\t { nx:=fun _ H'=>Q .non H',rt:=Q } (jf N vs) H):bX P w K mg base (CXe P w) (k + 1) f fd ps sp:=by
 obtain⟨oc,od,dV,kV,bF,pm,an,aw,ct,cX,rfl,lk,eM⟩:=F.ex;exact xx lk eM S len fun A outer s H vs Q E hr gK=>cF aw A outer s H vs Q E hr gK
end
structure Def (K:PySem.W.Frag) (mg:Str->Option Value) (x:Str) (st:Stmt) (ps:List Str) (aI:List V):Prop where
 ex:∃ f fd ds,dR K x x st f fd/\mg x=some (.ref f)/\PySem.W.keepIn K (.ref f)=true/\dc K fd ps ds/\av aI ds
structure Met (K:PySem.W.Frag) (C:Addr) (m qual:Str) (st:Stmt) (ps:List Str) (aI:List V):Prop where
 ex:∃ f fd ds,dR K m qual st f fd/\Meth K C m f/\dc K fd ps ds/\av aI ds
structure Ini (K:PySem.W.Frag) (mg:Str->Option Value) (C:Addr) (x qual:Str) (st:Stmt) (ps:List Str):Prop where
 ex:∃ f fd,dR K "__init__" qual st f fd/\Mk K C f/\mg x=some (.ref C)/\dc K fd ps []
structure XIni (K:PySem.W.Frag) (mg:Str->Option Value) (C:Addr) (x qual:Str) (st:Stmt) (ps:List Str):Prop where
 ex:∃ f fd,dR K "__init__" qual st f fd/\XCI K C f/\mg x=some (.ref C)/\dc K fd ps []
structure Cal (P:Program) (w:World) (K:PySem.W.Frag) (mg:Str->Option Value) (base:Heap) (CX:CXT) (k:Nat) (x:Str) (ps:List Str) (aI:List V) (sp:Sp):Prop where
 ex:∃ f fd ds,bX P w K mg base CX k f fd ps sp/\mg x=some (.ref f)/\PySem.W.keepIn K (.ref f)=true/\dc K fd ps ds/\av aI ds
structure eK (P:Program) (w:World) (K:PySem.W.Frag) (mg:Str->Option Value) (base:Heap) (CX:CXT) (k:Nat) (C:Addr) (m:Str) (ps:List Str) (aI:List V) (sp:Sp):Prop where
 ex:∃ f fd ds,bX P w K mg base CX k f fd ps sp/\Meth K C m f/\dc K fd ps ds/\av aI ds
structure oM (P:Program) (w:World) (K:PySem.W.Frag) (mg:Str->Option Value) (base:Heap) (CX:CXT) (k:Nat) (C:Addr) (x:Str) (ps:List Str) (sp:Sp):Prop where
 ex:∃ f fd,bX P w K mg base CX k f fd ps sp/\Mk K C f/\mg x=some (.ref C)/\dc K fd ps []
structure tu (P:Program) (w:World) (K:PySem.W.Frag) (mg:Str->Option Value) (base:Heap) (CX:CXT) (k:Nat) (C:Addr) (x:Str) (ps:List Str) (sp:Sp):Prop where
 ex:∃ f fd,bX P w K mg base CX k f fd ps sp/\XCI K C f/\mg x=some (.ref C)/\dc K fd ps []
section
variable {K:PySem.W.Frag}{k:Nat}{m:Str}
theorem Def.cal (D:Def K mg x st ps aI) (h:∀ f fd,dR K x x st f fd->bX P w K mg base CX k f fd ps sp):Cal P w K mg base CX k x ps aI sp:=
 let ⟨f,fd,ds,F,r⟩:=D.ex;⟨f,fd,ds,h f fd F,r⟩
theorem Met.cal (D:Met K C m qual st ps aI) (h:∀ f fd,dR K m qual st f fd->bX P w K mg base CX k f fd ps sp):eK P w K mg base CX k C m ps aI sp:=
 let ⟨f,fd,ds,F,r⟩:=D.ex;⟨f,fd,ds,h f fd F,r⟩
theorem Ini.cal (D:Ini K mg C x qual st ps) (h:∀ f fd,dR K "__init__" qual st f fd->bX P w K mg base CX k f fd ps sp):oM P w K mg base CX k C x ps sp:=
 let ⟨f,fd,F,r⟩:=D.ex;⟨f,fd,h f fd F,r⟩
theorem XIni.cal (D:XIni K mg C x qual st ps) (h:∀ f fd,dR K "__init__" qual st f fd->bX P w K mg base CX k f fd ps sp):tu P w K mg base CX k C x ps sp:=
 let ⟨f,fd,F,r⟩:=D.ex;⟨f,fd,h f fd F,r⟩
end
variable {I S d i1 i2 l1 l2 z:Addr}{P:List Value->Prop}{Q:Option Value->Shared->Prop}{b:Bool}{c ep:Nat}{cs wr:List Addr}{g:TG}{kvs:List (Key×V)}{ns:List Int}{pl:Sem Bool}{t:Tok}{ta:TA}{tb:TS}{te tl:TE}{tpos:Pos}
def tCallR (sp:Sp) (aI:List V) (R:RK) (t:TA):TE:=fun σ H Q=>t σ H fun vs H1=>sp (vs++aI) H1 Q (R σ)
def tMethR (C:Addr) (m:Str) (sp:Sp) (aI:List V) (R:RK) (ta:TE) (t:TA):TE:=fun σ H Q=>ta σ H fun x H1=>∃ a dx fs,x=.ref a/\H1 a=some (.ins C dx fs)/\fs.lookup m=none /\
 t σ H1 fun vs H2=>sp (x::(vs++aI)) H2 Q (R σ)
section
variable {k:Nat}{R:RK}{m:Str}{p aK:Pos}{o:Expr}{ta:TE}{t:TA}
theorem sS:PX X (fun _ _ _ _=>False):=fun _ _ _ _ _ _ _ _ _ _ h=>h.elim
theorem CC {Q:VK}{vs:List V} (F:bX X.prog X.w X.K X.mg X.base (CXe X.prog X.w) k f fd ps sp) (hp:PX X R) (hr:aZ k X.A)
  (hb:dc X.K fd ps ds) (hd:av aI ds) (I:Inv X aa σ H s) (r:av vs us) (h:sp (vs++aI) H Q (R σ)):wpAny (model X.prog X.w) X.A (call (.ref f) us) (EP X aa σ Q) X.xe s:=by
 have r2:av (vs++aI) (us++ds):=r.append hd;have hl:(us++ds).length=ps.length:=by rw[<- r2.length];exact F.len _ _ _ _ h
 refine NI (codeAny_mono (F.run X.A X.stack s H ⟨us,[]⟩ (us++ds) (vs++aI) Q (R σ) hr I.env0 (hb s us I.kIn hl) r2 h) fun r s' hq=>?_);cases r with
 | error e=>exact Hn hp aa σ H s e s' I hq
 | ok fl=>cases fl <;> first | exact I.after hq | exact False.elim hq
theorem bD (c:Cal X.prog X.w X.K X.mg X.base CX0 k x ps aI sp) (hr:aZ k X.A) (hg:Gl X x) (ha:PA X (e::es) t) (hdb:(x == ("__debug__":Str))=false:=by decide)
  (he:starEach (e::es) X.env=(false,eval e X.env)::starEach es X.env:=by rfl) (cu:(backTo pos (starEach es X.env)).any (·.1)=false:=by rfl):PE X (.Call (.Name x p) (e::es) [] pos) (tCall sp aI E0 t):=by
 obtain⟨f,fd,ds,F,hm,hk,hb,hd⟩:=c.ex;exact J4 F hr hg hm hk hb hd sM ha hdb he cu
theorem JY (c:Cal X.prog X.w X.K X.mg X.base (CXe X.prog X.w) k x ps aI sp) (hp:PX X R) (hr:aZ k X.A) (hg:Gl X x) (ha:PA X (e::es) t) (hdb:(x == ("__debug__":Str))=false:=by decide)
  (he:starEach (e::es) X.env=(false,eval e X.env)::starEach es X.env:=by rfl) (cu:(backTo pos (starEach es X.env)).any (·.1)=false:=by rfl):PE X (.Call (.Name x p) (e::es) [] pos) (tCallR sp aI R t):=by
 obtain⟨f,fd,ds,F,hm,hk,hb,hd⟩:=c.ex;intro aa s σ H Q I h;refine M4 (nr I hg hm ?_ hdb);refine PySem.W.callWith_K (h₀:=X.base) I.ok.mod.kin hk (thn (ha pos aa s σ H _ I h) fun us s1=>L2.ex5 fun vs H1 I1 r q=>⟨I1.kIn,?_⟩) he cu;exact CC F hp hr hb hd I1 r q
theorem cy  (he:PE X o ta) (cl:Cls X.K C) (c:eK X.prog X.w X.K X.mg X.base CX0 k C m ps aI sp) (hr:aZ k X.A)
  (ht:eval (.Call (.Attribute o m aK) [] [] pos) X.env=(do
   let ov <- eval o X.env
   standAt aK.atName
   let (f,first) <- holding [ov] (getMethod ov m pl)
   callWith pos f first (backTo pos (starEach [] X.env)) (backToKw pos (keywordEach [] X.env))):=by rfl) :
  PE X (.Call (.Attribute o m aK) [] [] pos) (iF C m sp aI E0 ta eS):=by
 obtain⟨f,fd,ds,F,hm,hb,hd⟩:=c.ex;exact JB (pl:=pl) he cl hm F hr hb hd sM ht
theorem kK  (he:PE X o ta) (cl:Cls X.K C) (c:eK X.prog X.w X.K X.mg X.base (CXe X.prog X.w) k C m ps aI sp) (hp:PX X R) (hr:aZ k X.A) (ha:PA X (e::es) t)
  (dG:starEach (e::es) X.env=(false,eval e X.env)::starEach es X.env:=by rfl) (cu:(backTo pos (starEach es X.env)).any (·.1)=false:=by rfl)
  (ht:eval (.Call (.Attribute o m aK) (e::es) [] pos) X.env=(do
   let ov <- eval o X.env
   standAt aK.atName
   let (f,first) <- holding [ov] (getMethod ov m pl)
   callWith pos f first (backTo pos (starEach (e::es) X.env)) (backToKw pos (keywordEach [] X.env))):=by rfl) :
  PE X (.Call (.Attribute o m aK) (e::es) [] pos) (tMethR C m sp aI R ta t):=by
 obtain⟨f,fd,ds,F,hm,hb,hd⟩:=c.ex;intro aa s σ H Q I h;refine PySem.W.methodCall_KW (pl:=pl) (thn (he aa s σ H _ I h) fun u s1=>L2.ex5 fun x H1 I1 rx aX=>?_) ht;obtain⟨a,dx,fs,ex,ea,l,q⟩:=aX;subst ex;obtain rfl:u=Value.ref a:=rx;refine wN I1 ea cl hm l ?_;refine PySem.W.callWith_K (first:=[.ref a]) (h₀:=X.base) I.ok.mod.kin hm.kp (thn (ha pos aa s1 σ H1 _ I1 q) fun us s2=>L2.ex5 fun vs H2 I2 r q2=>⟨I2.kIn,?_⟩) dG cu;exact CC (us:=.ref a::us) (vs:=.ref a::vs) F hp hr hb hd I2 (.cons Y r) q2
theorem B4 (c:oM X.prog X.w X.K X.mg X.base CX0 k C x ps sp) (hr:aZ (k + 1) X.A) (hg:Gl X x) (ha:PA X (e::es) t) (hdb:(x == ("__debug__":Str))=false:=by decide)
  (he:starEach (e::es) X.env=(false,eval e X.env)::starEach es X.env:=by rfl) (cu:(backTo pos (starEach es X.env)).any (·.1)=false:=by rfl):PE X (.Call (.Name x p) (e::es) [] pos) (tM C sp [] E0 t):=by
 obtain⟨f,fd,F,M,hm,hb⟩:=c.ex;exact HG M F hr hg hm hb .nil sM ha hdb he cu
theorem Ke (c:oM X.prog X.w X.K X.mg X.base CX0 k C x ps sp) (hr:aZ (k + 1) X.A) (hg:Gl X x) (hdb:(x == ("__debug__":Str))=false:=by decide):PE X (.Call (.Name x p) [] [] pos) (tM C sp [] E0 eS):=by
 obtain⟨f,fd,F,M,hm,hb⟩:=c.ex;exact Jd M F hr hg hm hb .nil sM hdb
theorem AW {aC:Pos} (hp:PX X R) (c:tu X.prog X.w X.K X.mg X.base CX0 k C x ps sp) (hr:aZ (k + 1) X.A) (hg:Gl X x) (ha:PA X (e::es) t)
  (hdb:(x == ("__debug__":Str))=false:=by decide) (he:starEach (e::es) X.env=(false,eval e X.env)::starEach es X.env:=by rfl) (cu:(backTo aC (starEach es X.env)).any (·.1)=false:=by rfl) :
  PS X (.Raise (some (.Call (.Name x np) (e::es) [] aC)) none pos) (Ax C sp [] R t):=by
 obtain⟨f,fd,F,c',hm,hb⟩:=c.ex;exact FV hp c' F hr hb .nil (fun _ _ _ _ _ _ _ _ z=>z.elim) hg hm ha hdb he cu
theorem kH {i:Int} (hg:Gl X x) (hm:∃ t,X.mg x=some (.int i t)) (hd:(x == ("__debug__":Str))=false:=by decide):PE X (.Name x pos) (tC (.int i)):=let ⟨t,h⟩:=hm;wc hg h ⟨t,Y⟩ hd
theorem GF {i:Str} (hg:Gl X x) (hm:∃ t,X.mg x=some (.str i t)) (hd:(x == ("__debug__":Str))=false:=by decide):PE X (.Name x pos) (tC (.str i)):=let ⟨t,h⟩:=hm;wc hg h ⟨t,Y⟩ hd
theorem qA {n:String} (hg:Gl X x) (hm:X.mg x=none) (hv:bootBuiltins x=some (.type n)) (hn:x≠"__name__":=by decide) (hd:(x == ("__debug__":Str))=false:=by decide):PE X (.Name x pos) (tC (.ty n)):=Jw hg hm hv Y hn hd
end
def HdC (A:Around) (cs:List Addr):Prop:=(A.handled=none/\cs=[])\/∃ a r,cs=a::r/\A.handled=some (.ref a)
theorem Hd.chain  (x:Hd A h):∃ cs,HdC A cs/\Chn h cs:=by
 rcases x with e|⟨a,cs,e,c⟩
 ·exact⟨[],.inl ⟨e,Y⟩,NO,fun j a z=>by simp at z⟩
 ·exact⟨a::cs,.inr ⟨a,cs,Y,e⟩,c⟩
theorem HdC.hd  (x:HdC A cs) (c:Chn h cs):Hd A h:=by
 rcases x with⟨e,rfl⟩|⟨a,r,rfl,e⟩
 ·exact .inl e
 ·exact .inr ⟨a,r,e,c⟩
theorem Chn.but {it:Addr} (c:Chn h cs) (hI:it∉cs) (k:∀ b o,b≠it->h.get? b=some o->h'.get? b=some o):Chn h' cs:=
 c.mono fun b o hb e=>k b o (fun z=>hI (z ▸ hb)) e
section
theorem qS (hc:HdC A cs) (I ax:Addr) (jt:ax≠I) (hI:I∉cs) (items:Array Value) :
  Walks prog w A I (I::ax::cs) [I] items.size (fun i v=>items[i]?=some v) (fun i h=>h.IsListIter I ax i/\h.IsList ax items/\Chn h cs) where
 sub:=fun b hb=>by simp at hb;simp[hb]
 frame:=fun _ _ _ st hk=>⟨st.1.at fun o e=>hk I (by simp) o e,st.2.1.at fun o e=>hk ax (by simp) o e,st.2.2.mono fun b o hb e=>hk b (by simp[hb]) o e⟩
 item:=fun i s Q E hi st hQ=>by
  refine O0 st.1 st.2.1 (x:=items[i]) (by simp[hi]) fun h' fh bT=>?_
  exact hQ _ h' s.toks (by simp[hi]) ⟨fh,st.2.1.extBut bT.extBut jt,st.2.2.but hI bT.extBut⟩ fun b o hb e=>bT.extBut b o (fun h=>hb (by simp[h])) e
 done:=fun s Q E st hQ=>Ae (hc.hd st.2.2) st.1 st.2.1 (by simp) fun h' c8=>hQ h' s.toks fun b o hb e=>c8 b o (fun h=>hb (by simp[h])) e
 self:=fun _ _ _ _ st hQ=>O6 st.1 hQ
theorem Hj {it:Addr} (hd:Hd A s.heap) (hit:s.heap.IsStrIter it "str_ascii_iterator" x t i) (hx:x.cps[i]?=none)
  (hQ:∀ h',Heap.ExtBut it s.heap h'->Q none { s with heap:=h' }):wpAny (model prog w) A (pyNext (.ref it)) Q E s:=by
 obtain⟨o,ho,hc,aB⟩:=id hit;unfold pyNext;refine l7 (Np (MQ (name:=Str.ofString "__next__") hit.typeIs F.slot_str_ascii_iterator_next (M7 F.slot_str_ascii_iterator_next hit.typeIs F.entry_str_ascii_iterator_next ?_ (F.args_str_ascii_iterator_next_1 _))));refine(show wpAny _ _ (field (.ref it) 0 >>= _) _ _ s from l7 (MM ho aB (x:=.str x t) Y ?_));refine(show wpAny _ _ (field (.ref it) 1 >>= _) _ _ s from l7 (MM ho aB (x:=.int i 0) Y ?_));simp only[MA,hx]
 refine l7 (Nq (l7 (Ng ho aB (by simp) (l7 (ND ?_)))));refine kF (A:=A.in1) (hd.but ho (fun vs q=>.inl (by rw[aB] at q;cases q;simp)) (Heap.SameBut.update ..).extBut) fun h' e k' ⟨o',e',c'⟩=>?_
 exact l7 (Nb (T:="StopIteration") (b:=true) ⟨o',e',c'⟩ isSubtype_stop (Mb (hQ h' fun b q hb hq=>k' b q ((Heap.SameBut.update ..).extBut b q hb hq))))
theorem GY {it:Addr} (hd:Hd A s.heap) (hit:s.heap.IsStrIter it "str_iterator" x t i) (hx:x.cps[i]?=none)
  (hQ:∀ h',Heap.ExtBut it s.heap h'->Q none { s with heap:=h' }):wpAny (model prog w) A (pyNext (.ref it)) Q E s:=by
 obtain⟨o,ho,hc,aB⟩:=id hit;unfold pyNext;refine l7 (Np (MQ (name:=Str.ofString "__next__") hit.typeIs F.slot_str_iterator_next (M7 F.slot_str_iterator_next hit.typeIs F.entry_str_iterator_next ?_ (F.args_str_iterator_next_1 _))));refine(show wpAny _ _ (field (.ref it) 0 >>= _) _ _ s from l7 (MM ho aB (x:=.str x t) Y ?_));refine(show wpAny _ _ (field (.ref it) 1 >>= _) _ _ s from l7 (MM ho aB (x:=.int i 0) Y ?_));simp only[MA,hx]
 refine l7 (Nq (l7 (Ng ho aB (by simp) (l7 (ND ?_)))));refine kF (A:=A.in1) (hd.but ho (fun vs q=>.inl (by rw[aB] at q;cases q;simp)) (Heap.SameBut.update ..).extBut) fun h' e k' ⟨o',e',c'⟩=>?_
 exact l7 (Nb (T:="StopIteration") (b:=true) ⟨o',e',c'⟩ isSubtype_stop (Mb (hQ h' fun b q hb hq=>k' b q ((Heap.SameBut.update ..).extBut b q hb hq))))
def kU (h:Heap) (I:Addr) (x:Str) (t:Tok) (i:Nat):Prop:=h.IsStrIter I "str_ascii_iterator" x t i\/h.IsStrIter I "str_iterator" x t i
theorem kU.keep  (y:kU h I x t i) (k:∀ o,h.get? I=some o->h'.get? I=some o):kU h' I x t i:=by
 rcases y with⟨o,e,r⟩|⟨o,e,r⟩
 ·exact .inl ⟨o,k o e,r⟩
 ·exact .inr ⟨o,k o e,r⟩
theorem Gv {it:Addr} (hit:kU s.heap it x t i) (hx:x.cps[i]?=some c)
  (hQ:∀ h' u tk,kU h' it x t (i + 1)->Heap.SameBut it s.heap h'->Q (some (.str ⟨#[c]⟩ u)) { s with heap:=h',toks:=tk }):wpAny (model prog w) A (pyNext (.ref it)) Q E s:=by
 rcases hit with y|y
 ·exact wpAny_pyNext_ascii_item y hx fun h' y' hs=>hQ h' _ _ (.inl y') hs
 ·exact wpAny_pyNext_wide_item y hx fun h' y' hs=>hQ h' _ _ (.inr y') hs
theorem KJ {it:Addr} (hd:Hd A s.heap) (hit:kU s.heap it x t i) (hx:x.cps[i]?=none)
  (hQ:∀ h',Heap.ExtBut it s.heap h'->Q none { s with heap:=h' }):wpAny (model prog w) A (pyNext (.ref it)) Q E s:=by
 rcases hit with y|y
 ·exact Hj hd y hx hQ
 ·exact GY hd y hx hQ
theorem wX {it:Addr} {items}{Q:Value->Shared->Prop} (hd:Hd A s.heap) (hit:s.heap.IsListIter it l i) (hl:s.heap.IsList l items) (hx:items[i]?=none)
  (hE:∀ h' e,Heap.ExtBut it s.heap h'->(∃ o,h'.get? e=some o/\o.cls=.type "StopIteration")->E (.ref e) { s with heap:=h' }):wpAny (model prog w) A (Builtin.SmallTypes.nextOf (.ref it)) Q E s:=by
 obtain⟨o,ho,hc,aB⟩:=id hit;obtain⟨ol,qh,_,nl,lZ⟩:=hl;unfold Builtin.SmallTypes.nextOf;refine l7 (MQ (name:=Str.ofString "__next__") hit.typeIs slot_listiter_next (M7 slot_listiter_next hit.typeIs entry_listiter_next ?_ (args_listiter_next _)));refine(show wpAny _ _ (field (.ref it) 0 >>= _) _ _ s from l7 (MM ho aB (x:=.ref l) Y ?_));refine(show wpAny _ _ (if (Value.ref l == Value.none)=true then _ else _) _ _ s from ?_);rw[if_neg (show ¬ ((Value.ref l == Value.none)=true) from Mq)];refine(show wpAny _ _ (field (.ref it) 1 >>= _) _ _ s from l7 (MM ho aB (x:=.int i 0) Y ?_));refine(show wpAny _ _ (seqItems? (.ref l) >>= _) _ _ s from l7 (Nh qh lZ ?_));simp only[MA,hx]
 refine l7 (Nq (l7 (Ng ho aB (by simp) ?_)));refine kF (A:=A.in1) (hd.but ho (fun vs q=>.inl (by rw[aB] at q;cases q;simp)) (Heap.SameBut.update ..).extBut) fun h' e k' x=>hE h' e (fun b q hb hq=>k' b q ((Heap.SameBut.update ..).extBut b q hb hq)) x
theorem FS {TI TO:Addr}{k1 k2:Nat}{xs ys:Array Value}{a b:Value} (hc:HdC A cs) (c:Chn s.heap cs) (nz:z∉cs) (nT:TO∉cs) (n1:i1∉cs) (n2:i2∉cs) (D:ZipApart z TI TO i1 i2 l1 l2)
  (hz:IsZip s.heap z TI TO .none) (hZ:IsPair s.heap TI (.ref i1) (.ref i2)) (iW:IsPair s.heap TO a b) (h1:s.heap.IsListIter i1 l1 k1) (h2:s.heap.IsListIter i2 l2 k2) (oS:s.heap.IsList l1 xs) (kh:s.heap.IsList l2 ys) (vJ:xs[k1]?=none\/ys[k2]?=none)
  (hQ:∀ h',(∀ c o,c≠z->c≠TO->c≠i1->c≠i2->s.heap.get? c=some o->h'.get? c=some o)->Q none { s with heap:=h' }):wpAny (model prog w) A (pyNext (.ref z)) Q E s:=by
 have hT:s.TypeIs (.ref z) "zip":=⟨_,hz,Y⟩;have fin:∀ h' e,(∀ c o,c≠z->c≠TO->c≠i1->c≠i2->s.heap.get? c=some o->h'.get? c=some o)->(∃ o,h'.get? e=some o/\o.cls=.type "StopIteration") ->
   wpAny (model prog w) A (do if <- isInstance (.ref e) (.type "StopIteration") then pure none else throw (.ref e)) Q E { s with heap:=h' }:=fun h' e k ⟨o,ho,pC⟩=>
  l7 (Nb (T:="StopIteration") (b:=true) ⟨o,ho,pC⟩ isSubtype_stop (Mb (hQ _ k)))
 unfold pyNext;refine l7 (Np (MQ (name:=Str.ofString "__next__") hT F.slot_zip_next (M7 F.slot_zip_next hT F.entry_zip_next ?_ (F.args_zip_next_1 _))));refine(show wpAny _ _ (field (.ref z) 2 >>= _) _ _ _ from l7 (MM hz Y (x:=.bool false) Y ?_));refine(show wpAny _ _ (field (.ref z) 3 >>= _) _ _ _ from l7 (MM hz Y (x:=.ref TI) Y (l7 (Nh hZ Y ?_))));refine(show wpAny _ _ (Builtin.SmallTypes.ownedTupleIsFree (.ref z) >>= _) _ _ _ from l7 ?_);unfold Builtin.SmallTypes.ownedTupleIsFree;refine l7 (MM hz Y (x:=.none) Y (Mb ?_));simp only[if_true]
 refine l7 (Nq (l7 (MM hz Y (x:=.ref TO) Y (l7 (Ox hz (by simp) fun h₁ sA dJ=>?_)))))
 replace sA:IsZip h₁ z TI TO .ellipsis:=sA
 have c₁:Chn h₁ cs:=c.but nz dJ.extBut;refine l7 ?_;simp only[List.zipIdx_cons,List.zipIdx_nil,Oj,List.forIn_nil]
 refine l7 (l7 (wpAny_onRaise ?_));cases hx:xs[k1]? with
 | none=>
  refine(show wpAny _ _ (Builtin.SmallTypes.nextOf (.ref i1) >>= _) _ _ _ from l7 (wX (A:=A.in1) (HdC.hd (A:=A.in1) hc c₁) (h1.extBut dJ.extBut D.i1z) (oS.extBut dJ.extBut D.l1z) hx fun h₂ e jx he=>?_));obtain⟨oe,lF,pQ⟩:=he;have xV:IsZip h₂ z TI TO .ellipsis:=jx _ _ D.i1z.symm sA;have vV:e≠z:=fun x=>by subst x;rw[xV] at lF;cases lF;simp at pQ
  exact Ox xV (by simp) fun h₃ _ jY=>fin h₃ e (fun c o c1 _ c3 _ x=>jY.extBut _ _ c1 (jx _ _ c3 (dJ.extBut _ _ c1 x))) ⟨oe,jY.extBut _ _ vV lF,pQ⟩
 | some x=>
  have hy:ys[k2]?=none:=by rcases vJ with h|h;rw[hx] at h;cases h;exact h
  refine(show wpAny _ _ (Builtin.SmallTypes.nextOf (.ref i1) >>= _) _ _ _ from l7 (wpAny_nextOf_list_item (h1.extBut dJ.extBut D.i1z) (oS.extBut dJ.extBut D.l1z) hx fun h₂ LI jx=>Mb ?_));have oZ:IsPair h₂ TO a b:=jx.extBut _ _ D.TOi1 (dJ.extBut _ _ D.TOz iW);refine l7 (Nh oZ Y (l7 (wpAny_updateSeq_pair oZ fun h₃ C5 jY=>l7 (ND (Mb ?_)))));refine l7 (l7 (wpAny_onRaise ?_));have c₃:Chn h₃ cs:=(c₁.but n1 jx.extBut).but nT jY.extBut;refine(show wpAny _ _ (Builtin.SmallTypes.nextOf (.ref i2) >>= _) _ _ _ from l7 (wX (A:=A.in1) (HdC.hd (A:=A.in1) hc c₃) (((h2.extBut dJ.extBut D.i2z).extBut jx.extBut D.i12.symm).extBut jY.extBut D.TOi2.symm)
   (((kh.extBut dJ.extBut D.l2z).extBut jx.extBut D.l2i1).extBut jY.extBut D.l2TO) hy fun h₄ e yo he=>?_))
  obtain⟨oe,lF,pQ⟩:=he;have yd:IsZip h₄ z TI TO .ellipsis:=yo _ _ D.i2z.symm (jY.extBut _ _ D.TOz.symm (jx.extBut _ _ D.i1z.symm sA));have vV:e≠z:=fun x=>by subst x;rw[yd] at lF;cases lF;simp at pQ
  exact Ox yd (by simp) fun h₅ _ zT=>fin h₅ e (fun c o c1 c2 c3 c4 x=>zT.extBut _ _ c1 (yo _ _ c4 (jY.extBut _ _ c2 (jx.extBut _ _ c3 (dJ.extBut _ _ c1 x))))) ⟨oe,zT.extBut _ _ vV lF,pQ⟩
section
variable {κ:Type} [DecidableEq κ] {knd:KeyKind prog w κ}
theorem HW {it:Addr}{kvs:List (κ×Value)} (hd:Hd A s.heap) (hit:s.heap.IsKeyIter it d i kvs.length ep) (hm:s.heap.DictAt knd d kvs ep) (hx:kvs[i]?=none)
  (hQ:∀ h',Heap.ExtBut it s.heap h'->Q none { s with heap:=h' }):wpAny (model prog w) A (pyNext (.ref it)) Q E s:=by
 obtain⟨o,ho,hc,aB⟩:=id hit;obtain⟨od,es,jA,eM,gM,hk,hp,hn⟩:=id hm;have hsz:es.size=kvs.length:=by rw[<- hp.length];simp
 have gN:es.size<=i:=by rw[hsz];simpa using hx
 have lH:Builtin.Dict_items.ownsTuple "dict_keyiterator"=false:=by decide
 unfold pyNext;refine l7 (Np (MQ (name:=Str.ofString "__next__") hit.typeIs F.slot_dict_keyiterator_next (M7 F.slot_dict_keyiterator_next hit.typeIs F.entry_dict_keyiterator_next ?_ (F.args_dict_keyiterator_next_1 _))));refine l7 (Mb (l7 (l7 ?_)))
 first|refine l7 (Oq hit.typeIs (Mb (l7 (Ov ho aB ?_))))|refine l7 (OM hit.typeIs (Mb (l7 (Ov ho aB ?_))))
 simp only[lH,MY,if_false]
 show wpAny _ _ (if (Value.ref d == Value.none)=true then _ else _) _ _ s;rw[if_neg (show ¬ ((Value.ref d == Value.none)=true) from Mq)];refine l7 (Mb (l7 (Pw jA gM ?_)));rw[if_neg (by rw[hsz];simp)];refine l7 (Mb (l7 (wpAny_dictEpoch jA gM ?_)));rw[if_neg (by simp)];refine Mb ?_;simp only[show ¬ ((i:Int)<0) from by omega,if_false,MA,Oa gN]
 refine l7 ?_
 first|refine l7 (Oq hit.typeIs (Mb ?_))|refine l7 (OM hit.typeIs (Mb ?_))
 refine(show wpAny _ _ (setField (.ref it) 0 .none >>= _) _ _ s from l7 (Ng ho aB (by simp) ?_));refine kF (A:=A.in1) (hd.but ho (fun vs q=>.inr (by rw[aB] at q;cases q;simp)) (Heap.SameBut.update ..).extBut) fun h' e k' ⟨o',e',c'⟩=>?_
 exact l7 (Nb (T:="StopIteration") (b:=true) ⟨o',e',c'⟩ isSubtype_stop (Mb (hQ h' fun b q hb hq=>k' b q ((Heap.SameBut.update ..).extBut b q hb hq))))
theorem Gh (hc:HdC A cs) (I d:Addr) (jt:d≠I) (hI:I∉cs) (kvs:List (κ×Value)) (ep:Nat) :
  Walks prog w A I (I::d::cs) [I] kvs.length (fun i v=>∃ k x,kvs[i]?=some (k,x)/\knd.is k v=true) (fun i h=>h.IsKeyIter I d i kvs.length ep/\h.DictAt knd d kvs ep/\Chn h cs) where
 sub:=fun b hb=>by simp at hb;simp[hb]
 frame:=fun _ _ _ st hk=>⟨st.1.at fun o e=>hk I (by simp) o e,st.2.1.at' fun o e=>hk d (by simp) o e,st.2.2.mono fun b o hb e=>hk b (by simp[hb]) o e⟩
 item:=fun i s Q E hi st hQ=>by
  obtain⟨⟨k,x⟩,hx⟩:∃ p,kvs[i]?=some p:=⟨kvs[i],by simp[hi]⟩;refine wpAny_pyNext_dict_item st.1 st.2.1 hx fun key h' dI fh bT=>?_
  exact hQ key h' s.toks ⟨k,x,hx,dI⟩ ⟨fh,st.2.1.extBut bT.extBut jt,st.2.2.but hI bT.extBut⟩ fun b o hb e=>bT.extBut b o (fun h=>hb (by simp[h])) e
 done:=fun s Q E st hQ=>HW (hc.hd st.2.2) st.1 st.2.1 (by simp) fun h' c8=>hQ h' s.toks fun b o hb e=>c8 b o (fun h=>hb (by simp[h])) e
 self:=fun _ _ _ _ st hQ=>wpAny_pyIter_keyiter st.1 hQ
theorem Jz {it:Addr}{kvs:List (κ×Value)}{ok ov:Value} (hc:HdC A cs) (c:Chn s.heap cs) (hI:it∉cs) (hit:IsItemIter s.heap it d i kvs.length ep ok ov) (hm:s.heap.DictAt knd d kvs ep) (hx:kvs[i]?=none)
  (hQ:∀ h',Heap.ExtBut it s.heap h'->Q none { s with heap:=h' }):wpAny (model prog w) A (pyNext (.ref it)) Q E s:=by
 obtain⟨od,es,jA,eM,gM,hk,hp,hn⟩:=id hm;have hT:s.TypeIs (.ref it) "dict_itemiterator":=⟨_,hit,Y⟩;have hsz:es.size=kvs.length:=by rw[<- hp.length];simp
 have gN:es.size<=i:=by rw[hsz];simpa using hx
 have lH:Builtin.Dict_items.ownsTuple "dict_itemiterator"=true:=by decide
 unfold pyNext;refine l7 (Np (MQ (name:=Str.ofString "__next__") hT F.slot_dict_itemiterator_next (M7 F.slot_dict_itemiterator_next hT F.entry_dict_itemiterator_next ?_ (F.args_dict_itemiterator_next_1 _))));refine l7 (Mb (l7 (l7 ?_)))
 first|refine l7 (Om hT (Mb (l7 (Ov hit Y ?_))))|refine l7 (OG hT (Mb (l7 (Ov hit Y ?_))))
 simp only[lH,if_true]
 show wpAny _ _ (if (Value.ref d == Value.none)=true then _ else _) _ _ s;rw[if_neg (show ¬ ((Value.ref d == Value.none)=true) from Mq)];refine l7 (Mb (l7 (Pw jA gM ?_)));rw[if_neg (by rw[hsz];simp)];refine l7 (Mb (l7 (wpAny_dictEpoch jA gM ?_)));rw[if_neg (by simp)];refine Mb ?_;simp only[show ¬ ((i:Int)<0) from by omega,if_false,MA,Oa gN]
 refine l7 ?_
 first|refine l7 (Om hT (Mb ?_))|refine l7 (OG hT (Mb ?_))
 refine(show wpAny _ _ (setField (.ref it) 2 .none >>= _) _ _ s from l7 (Ng hit Y (by simp) ?_));refine kF (A:=A.in1) (HdC.hd (A:=A.in1) hc (c.but hI (Heap.SameBut.update ..).extBut)) fun h' e k' ⟨o',e',c'⟩=>?_
 exact l7 (Nb (T:="StopIteration") (b:=true) ⟨o',e',c'⟩ isSubtype_stop (Mb (hQ h' fun b q hb hq=>k' b q ((Heap.SameBut.update ..).extBut b q hb hq))))
theorem Ij:typeLookup (.type "dict") "__len__"=pure (some (.builtin "dict.__len__")):=by rw[typeLookup_type,builtinLookup_eq_fast];kernel_rfl
theorem Kl  (hc:HdC A cs){kvs:List (κ×Value)}{c₀:Nat}{res:Value} (hd:(d == sysModules)=false) (hm:s.heap.DictAt knd d kvs ep) (c:Chn s.heap cs) (hS:s.heap.get? S=some { cls:=.type "list",data:=.seq #[] c₀ }) (uT:S≠d) (yV:S∉cs) (hn:kvs.length<=sizeLine)
  (hR:∀ s' acc c',Moved (S::[s.heap.objs.size]) (fun a b=>b=a) s s'->s'.heap.get? S=some { cls:=.type "list",dict:=none,data:=.seq acc c',slots:=#[] }->ItemsOf (fun i v=>∃ k x,kvs[i]?=some (k,x)/\knd.is k v=true) acc kvs.length->R (.ok (.ret res)) s') :
  wpAny (model prog w) A.in1 (Builtin.List.listExtendWith (.ref S) (.ref d) res) (fun fin s'=>match fin with|.done f=>R (.ok f) s'|.again c'=>c'.quiet=true/\codeAny (model prog w) A c' R s') (fun e s'=>R (.error e) s') s:=by
 have hT:s.TypeIs (.ref d) "dict":=hm.dictOf.typeIs;have h1:Builtin.List.listSameRef (.ref S) (.ref d)=false:=by simp[Builtin.List.listSameRef,uT]
 unfold Builtin.List.listExtendWith;refine l7 (Ol hT ?_);rw[if_neg (by rw[h1];decide)];refine l7 (wpAny_pyIter_dict hd hm ?_);have m1:=hm.push { cls:=.type "dict_keyiterator",data:=.fields #[.ref d,.int 0 0,.int kvs.length 0,.int ep 0] };have vi:Shared.TypeIs { s with heap:=s.heap.push { cls:=.type "dict_keyiterator",data:=.fields #[.ref d,.int 0 0,.int kvs.length 0,.int ep 0] } } (.ref d) "dict":=m1.dictOf.typeIs;refine l7 (MS ?_);unfold Builtin.List.listLengthHint;refine l7 (OV vi Ij ?_);generalize xK:("dict.__len__":String)=id0
 wp_delta
 rw[show splitId id0=some ("dict","__len__") from by subst xK;decide +kernel];subst xK;refine l7 (Nb (b:=true) vi (by rw[isSubtype_type];kernel_rfl) ?_);simp only[Pf,MY,if_false]
 rw[if_pos (by decide +kernel)];refine l7 (Ol vi (Mb ?_));rw[if_pos (by decide +kernel)];refine l7 (Nq (l7 ?_));have bp:S<s.heap.objs.size:=Mc hS;have zB:S≠s.heap.objs.size:=Mn bp;have ut:d≠s.heap.objs.size:=Mn hm.lt_size;have vk:s.heap.objs.size∉cs:=fun z=>MF _ (c.lt _ z)
 have ya:=Ma { cls:=.type "dict_keyiterator",data:=.fields #[.ref d,.int 0 0,.int kvs.length 0,.int ep 0] } hS;refine(show wpAny _ A.in1 (updateSeq S (·.push .none) >>= fun _=>updateSeq S (·.pop)) _ _ _ from l7 (NK ya rfl ?_));have rN:=MJ (Obj.mapSeq (·.push Value.none)) ya rfl;refine NK (hz:=by seq_fits) rN rfl ?_;have yk:=MJ (Obj.mapSeq (·.pop)) rN rfl;generalize hG:((s.heap.push { cls:=.type "dict_keyiterator",data:=.fields #[.ref d,.int 0 0,.int kvs.length 0,.int ep 0] }).update S (Obj.mapSeq (·.push Value.none))).update S (Obj.mapSeq (·.pop))=G at yk;have iu:∀ b o,b≠S->(s.heap.push { cls:=.type "dict_keyiterator",data:=.fields #[.ref d,.int 0 0,.int kvs.length 0,.int ep 0] }).get? b=some o->G.get? b=some o:=fun b o hb e=>by
  rw[<- hG];exact(Mw _ _ (Ne.symm hb)).trans ((Mw _ _ (Ne.symm hb)).trans e)
 have W:=(Gh (prog:=prog) (w:=w) (knd:=knd) (A:=A.in1) hc s.heap.objs.size d ut vk kvs ep).toS;have DO:G.IsKeyIter s.heap.objs.size d 0 kvs.length ep:=⟨_,iu _ _ (Ne.symm zB) (Mi _ Y),Y,Y⟩;have d0:G.DictAt knd d kvs ep:=m1.at' fun o e=>iu d o (Ne.symm uT) e
 have c0:Chn G cs:=c.mono fun b o hb e=>iu b o (fun z=>yV (z ▸ hb)) (Ma _ e)
 have e8:S∉s.heap.objs.size::d::cs:=by simp[zB,uT,yV]
 refine Mb ⟨plainId_quiet F.plain_extend_loop _,codeAny_extend_loopS W hn S e8 res kvs.length 0 _ _ _ Y (MW _) ⟨DO,d0,c0⟩ yk (ItemsOf.nil _) fun s' uq c' EJ iX mw=>?_⟩;have Et:Moved (S::[s.heap.objs.size]) (fun a b=>b=a) s { s with heap:=G }:=⟨fun b o hb e=>iu b o (fun z=>hb (M5.mpr (.inl z))) (Ma _ e),Y,Y,Y,Md _⟩;exact hR s' uq c' (Moved.trans (fun _ _ _ h1 h2=>h2.trans h1) Et EJ) iX mw
theorem Kw {Q:Value->Shared->Prop} (hc:HdC A cs){kvs:List (κ×Value)} (hd:(d == sysModules)=false) (hm:s.heap.DictAt knd d kvs ep) (c:Chn s.heap cs) (hn:kvs.length<=sizeLine)
  (hQ:∀ s' acc c',(∀ b o,s.heap.get? b=some o->s'.heap.get? b=some o)->s'.gens=s.gens->s'.drawn=s.drawn->s'.os=s.os->s'.heap.get? s.heap.objs.size=some { cls:=.type "list",dict:=none,data:=.seq acc c',slots:=#[] } ->
   ItemsOf (fun i v=>∃ k x,kvs[i]?=some (k,x)/\knd.is k v=true) acc kvs.length->Q (.ref s.heap.objs.size) s'):wpAny (model prog w) A (call (.type "list") [.ref d]) Q E s:=by
 refine callType_codes (Q₁:=fun obj s₁=>obj=.ref s.heap.objs.size/\s₁={ s with heap:=s.heap.push { cls:=.type "list",data:=.seq #[] } }) F.called_list (F.typeCall_list_1 _) F.entry_list_init (code_list_new _ ⟨Y,Y⟩) fun obj s₁ h₁=>?_
 obtain⟨rfl,rfl⟩:=h₁;have hS:(s.heap.push { cls:=.type "list",data:=.seq #[] }).get? s.heap.objs.size=some { cls:=.type "list",data:=.seq #[] }:=Mi _ rfl;have ut:s.heap.objs.size≠d:=Ne.symm (Mn hm.lt_size);have vk:s.heap.objs.size∉cs:=fun z=>MF _ (c.lt _ z)
 refine⟨⟨_,hS,Y⟩,F.args_list_init_2 _ _,?_⟩;refine(show wpAny _ A.in1.in1 (do let old <- Builtin.List.listItems (.ref s.heap.objs.size);Builtin.List.listUpdate (.ref s.heap.objs.size) (fun _=>#[]);letGo old.toList.reverse;Builtin.List.listExtendWith (.ref s.heap.objs.size) (.ref d) .none) _ _ _ from l7 ?_);unfold Builtin.List.listItems;refine l7 (Nh hS Y (Mb ?_));refine(show wpAny _ A.in1.in1 (updateSeq s.heap.objs.size (fun _=>#[]) >>= fun _=>letGo (#[]:Array Value).toList.reverse >>= fun _=>Builtin.List.listExtendWith (.ref s.heap.objs.size) (.ref d) .none) _ _ _ from l7 (NK hS Y (l7 (ND ?_))));have rN:=MJ (Obj.mapSeq (fun _=>(#[]:Array Value))) hS rfl;have iu:∀ b o,s.heap.get? b=some o->((s.heap.push { cls:=.type "list",data:=.seq #[] }).update s.heap.objs.size (Obj.mapSeq (fun _=>(#[]:Array Value)))).get? b=some o:=fun b o e=>
  (Mw _ _ (Ne.symm (Mn (Mc e)))).trans (Ma _ e)
 have sz:((s.heap.push { cls:=.type "list",data:=.seq #[] }).update s.heap.objs.size (Obj.mapSeq (fun _=>(#[]:Array Value)))).objs.size=s.heap.objs.size + 1:=by rw[ON,MI]
 refine Kl (A:=A.in1) hc hd (hm.at' fun o e=>iu d o e) (c.mono fun b o _ e=>iu b o e) rN ut vk hn fun s' acc c' mv iX mw=>⟨Y,?_⟩
 refine hQ s' acc c' (fun b o e=>mv.heap b o (fun z=>?_) (iu b o e)) mv.gens mv.drawn mv.os iX mw;have lt:=Mc e;simp only[M5,MO,or_false] at z
 rcases z with z|z
 ·exact absurd lt (by rw[z];exact MF _)
 ·exact absurd lt (by rw[z,sz];exact Nat.not_lt.mpr (M3 _))
end
end
def Its (x:Str):It:=⟨fun i _=>i<x.cps.size,fun i H v H'=>H'=H/\∃ c,x.cps[i]?=some c/\v=.str ⟨#[c]⟩,fun i _=>x.cps.size<=i⟩
theorem Ia {P:Program}{K:PySem.W.Frag} (x:Str) (t:Tok) (it:Addr):jG P w K tg (Its x) [it] it (fun i h=>kU h it x t i) where
 mem:=by simp
 obj:=fun i h st b hb=>by
  have e:b=it:=by simpa using hb
  subst e;rcases st with⟨o,e,c,d⟩|⟨o,e,c,d⟩ <;> exact⟨o,e,fun v z=>by rw[d] at z;cases z⟩
 keep:=fun i h h' st k=>st.keep fun o e=>k it (by simp) o e
 item:=by
  intro X hP hw hK hc i aa s σ H E I hf st hg;subst hP hw hK;obtain⟨f0,f1,f2,f3,f4,f5⟩:=hf it (by simp);have DQ:i<x.cps.size:=hg;have hx:x.cps[i]?=some x.cps[i]:=by simp[DQ]
  refine Gv st hx fun h' u tk aL sb=>?_
  have I1:Inv X aa σ H { s with heap:=h',toks:=tk }:=I.turned (fun b o hb e=>(sb.2 b hb).trans e) f0 f1 f3 f4 f5;rcases id aL with⟨o,e,c,d⟩|⟨o,e,c,d⟩
  ·exact⟨_,Y,re (s:={ s with heap:=h',toks:=tk }) e c d (by decide) ⟨.str ⟨#[x.cps[i]]⟩,H,I1,⟨u,Y⟩,⟨Y,_,hx,Y⟩,aL,fun b hb=>(hf b hb).1⟩⟩
  ·exact⟨_,Y,re (s:={ s with heap:=h',toks:=tk }) e c d (by decide) ⟨.str ⟨#[x.cps[i]]⟩,H,I1,⟨u,Y⟩,⟨Y,_,hx,Y⟩,aL,fun b hb=>(hf b hb).1⟩⟩
 done:=by
  intro X hP hw hK hc i aa s σ H E I hf st hg;subst hP hw hK;obtain⟨f0,f1,f2,f3,f4,f5⟩:=hf it (by simp);exact KJ I.hd st (Oa hg) fun h' eb=>⟨Y,I.turned (t':=s.toks) (fun b o hb e=>eb b o hb e) f0 f1 f3 f4 f5⟩
 self:=fun _ _ _ _ _ st h=>by
  rcases st with y|y
  ·exact wpAny_pyIter_striter_ascii y h
  ·exact wpAny_pyIter_striter_wide y h
def iStr (tl:TE):TI:=fun σ H R=>tl σ H fun x H1=>∃ z,x=.str z/\R (Its z) H1
theorem pi_str {l:Expr} (hl:PE X l tl):PI X tg l (iStr tl):=by
 intro aa s σ H R I h;refine thn (hl aa s σ H _ I h) fun v s1=>L2.ex5 fun x H1 I1 r1 aX=>?_
 obtain⟨z,e,q⟩:=aX;subst e;obtain⟨t,rfl⟩:=r1;have fin:∀ ob:Obj,kU (s1.heap.push ob) s1.heap.objs.size z t 0->PIE X aa σ tg R (.ref s1.heap.objs.size) { s1 with heap:=s1.heap.push ob }:=fun ob st=>
  ⟨s1.heap.objs.size,[s1.heap.objs.size],_,Its z,H1,rfl,I1.kept (t':=s1.toks) fun b o e=>Ma _ e,Ia z t _,st,fun b hb=>by
   have e:b=s1.heap.objs.size:=by simpa using hb
   subst e;exact I1.fpOk (Md _) (I1.hok.fresh (Md _)),q⟩
 cases ha:z.cps.all (·<128)
 ·exact wpAny_pyIter_wide ha (fin _ (.inr ⟨_,Mi _ Y,Y,Y⟩))
 ·exact wpAny_pyIter_ascii ha (fin _ (.inl ⟨_,Mi _ Y,Y,Y⟩))
theorem Gy {Q:VK} (Pv:Nat->St->Hp->Prop) (h0:Pv 0 τ H)
  (hs:∀ i c τ H,x.cps[i]?=some c->Pv i τ H->g (.str ⟨#[c]⟩) τ H fun τ2 H2=>tt τ2 H2 fun b H3=>
   if b=true then te τ2 H3 fun y H4=>∃ ys,H4 D=some (.lst ys)/\ys.length<sizeLine/\Pv (i + 1) τ2 (upd H4 D (.lst (ys++[y]))) else Pv (i + 1) τ2 H3)
  (hd:∀ τ H,Pv x.cps.size τ H->Q (.ref D) H):jU (Its x) D τ H g tt te Q:=by
 refine⟨fun i m τ H=>m=x.cps.size - i/\i<=x.cps.size/\Pv i τ H,⟨x.cps.size,by simp,MW _,h0⟩,?_⟩;rintro i m τ H ⟨rfl,hi,p⟩
 by_cases bp:i<x.cps.size
 ·refine .inr ⟨bp,Pv (i + 1),fun τ' H' p'=>⟨x.cps.size - (i + 1),by omega,Y,bp,p'⟩,fun v H' y=>?_⟩
  obtain⟨e,c,hc,ev⟩:=y;subst e ev;exact hs i c τ _ hc p
 ·have e:i=x.cps.size:=by omega
  subst e;exact .inl ⟨Md _,hd τ H p⟩
def Itz (K:PySem.W.Frag) (l1 l2:Addr):It:=
  ⟨fun i H=>∃ xs ys x y,SqL K H l1 xs/\SqL K H l2 ys/\xs[i]?=some x/\ys[i]?=some y,
   fun i H v H'=>∃ T x y,v=.ref T/\H T=none/\H'=upd H T (.tup [x,y])/\(∀ xs,SqL K H l1 xs->xs[i]?=some x)/\∀ ys,SqL K H l2 ys->ys[i]?=some y,
   fun i H=>∃ xs ys,SqL K H l1 xs/\SqL K H l2 ys/\(xs.length<=i\/ys.length<=i)⟩
def ZipIt (h:Heap) (z TI TO i1 i2 l1 l2:Addr) (i:Nat):Prop:=IsZip h z TI TO .none/\IsPair h TI (.ref i1) (.ref i2)/\(∃ a b,IsPair h TO a b)/\h.IsListIter i1 l1 i/\h.IsListIter i2 l2 i
theorem JE {P:Program}{K:PySem.W.Frag}{k:Nat}{TI TO:Addr} (D:ZipApart z TI TO i1 i2 l1 l2) :
  jG P w K (.Tuple es k pos) (Itz K l1 l2) [z,TI,TO,i1,i2] z (fun i h=>ZipIt h z TI TO i1 i2 l1 l2 i) where
 mem:=by simp
 obj:=fun i h st b hb=>by
  obtain⟨hz,hZ,⟨a,c,iW⟩,⟨o1,e1,c1,d1⟩,⟨o2,e2,c2,d2⟩⟩:=st;simp only[M5,MO,or_false] at hb
  rcases hb with rfl|rfl|rfl|rfl|rfl
  ·exact⟨_,hz,fun v q=>by simp at q⟩
  ·exact⟨_,hZ,fun v q=>by simp at q⟩
  ·exact⟨_,iW,fun v q=>by simp at q⟩
  ·exact⟨_,e1,fun v q=>by rw[d1] at q;cases q⟩
  ·exact⟨_,e2,fun v q=>by rw[d2] at q;cases q⟩
 keep:=fun i h h' st k=>by
  obtain⟨hz,hZ,⟨a,c,iW⟩,h1,h2⟩:=st;exact⟨k z (by simp) _ hz,k TI (by simp) _ hZ,⟨a,c,k TO (by simp) _ iW⟩,h1.at fun o e=>k i1 (by simp) o e,h2.at fun o e=>k i2 (by simp) o e⟩
 item:=by
  intro X hP hw hK hc i aa s σ H E I hf st hg;subst hP hw hK;obtain⟨xs,ys,x,y,q1,q2,hx,hy⟩:=hg;obtain⟨hz,hZ,⟨a,c,iW⟩,h1,h2⟩:=st;obtain⟨ac,rv,pl,_⟩:=I.list q1;obtain⟨its',cZ,nV,_⟩:=I.list q2;obtain⟨u,hu,ru⟩:=rv.get hx;obtain⟨u',eQ,vh⟩:=cZ.get hy;have nf:∀ b∈[z,TI,TO,i1,i2],b∉frs X.stack:=fun b hb q=>(M5.mp (I.stkSub b q)).elim (hf b hb).2.1 (hf b hb).2.2.1
  refine wpAny_pyNext_zip_item D hz hZ iW h1 h2 pl.isList nV.isList (x:=u) (y:=u') (by simpa using hu) (by simpa using eQ) fun h' a1 a2 a3 a4 a5 a6 hk=>⟨_,Y,?_⟩
  refine wpAny_letOwnedTupleGo_zip (s:={ s with heap:=h' }) a1 fun eP iZ bT=>?_
  have pN:H s.heap.objs.size=none:=I.hok.fresh (Md _);have LL:=Mc hz;have old:∀ b o,b≠z->b≠TO->b≠i1->b≠i2->s.heap.get? b=some o->eP.get? b=some o:=fun b o n1 n2 n3 n4 e=>bT.extBut b o n1 (hk b o n1 n2 n3 n4 e)
  have I1:Inv X aa σ (upd H s.heap.objs.size (.tup [x,y])) { s with heap:=s.heap.push { cls:=.type "tuple",data:=.seq #[u,u'] } }:=
   I.laid (t':=s.toks) (fun b o e=>Ma _ e) (Md _) ⟨by show 2<=sizeLine;decide,[u,u'],.cons ru (.cons vh .nil),⟨_,Mi _ rfl,Y,_,Y⟩⟩
  have ph:∀ b∈[z,TI,TO,i1,i2],bv X aa (upd H s.heap.objs.size (.tup [x,y])) b:=fun b hb=>by
   obtain⟨f0,r⟩:=hf b hb;refine⟨?_,r⟩;have lt:b<s.heap.objs.size:=by
    simp only[M5,MO,or_false] at hb
    rcases hb with rfl|rfl|rfl|rfl|rfl
    ·exact Mc hz
    ·exact Mc hZ
    ·exact Mc iW
    ·obtain⟨o,e,_⟩:=h1;exact Mc e
    ·obtain⟨o,e,_⟩:=h2;exact Mc e
   rw[ak (Mn lt)];exact f0
  have I2:Inv X aa σ (upd H s.heap.objs.size (.tup [x,y])) { s with heap:=eP }:=by
   have back:∀ b o,(s.heap.push { cls:=.type "tuple",data:=.seq #[u,u'] }).get? b=some o->b≠z->b≠TO->b≠i1->b≠i2->eP.get? b=some o:=fun b o e n1 n2 n3 n4=>by
    rcases On e with⟨rfl,rfl⟩|e
    ·exact bT.extBut _ _ n1 a5
    ·exact old b o n1 n2 n3 n4 e
   refine I1.slots (ch:=[z,TO,i1,i2]) (tk:=s.toks) (fun b hb=>ph b (by simp only[M5,MO,or_false] at hb ⊢;rcases hb with e|e|e|e <;> simp[e])) (fun b o _ hc e=>?_) (fun b o hb e=>⟨o.slots,?_⟩) (fun b hb o e=>?_)
   ·simp only[M5,MO,or_false,not_or] at hc
    exact back b o e hc.1 hc.2.1 hc.2.2.1 hc.2.2.2
   ·exact back b o e (fun q=>nf z (by simp) (q ▸ hb)) (fun q=>nf TO (by simp) (q ▸ hb)) (fun q=>nf i1 (by simp) (q ▸ hb)) (fun q=>nf i2 (by simp) (q ▸ hb))
   ·simp only[M5,MO,or_false] at hb
    rcases hb with rfl|rfl|rfl|rfl
    ·exact⟨_,iZ⟩
    ·exact⟨_,bT.extBut _ _ D.TOz a2⟩
    ·obtain⟨o,e,_⟩:=a3;exact⟨_,bT.extBut _ _ D.i1z e⟩
    ·obtain⟨o,e,_⟩:=a4;exact⟨_,bT.extBut _ _ D.i2z e⟩
  refine⟨.ref s.heap.objs.size,_,I2,Y,⟨_,x,y,Y,pN,Y,fun pI q=>by rw[I.list_inj q q1];exact hx,fun jC q=>by rw[I.list_inj q q2];exact hy⟩,?_,fun b hb=>(ph b hb).1⟩;exact⟨iZ,old TI _ D.TIz D.TITO D.TIi1 D.TIi2 hZ,⟨_,_,bT.extBut _ _ D.TOz a2⟩,a3.extBut bT.extBut D.i1z,a4.extBut bT.extBut D.i2z⟩
 done:=by
  intro X hP hw hK hc i aa s σ H E I hf st hg;subst hP hw hK;obtain⟨xs,ys,q1,q2,az⟩:=hg;obtain⟨hz,hZ,⟨a,c,iW⟩,h1,h2⟩:=st;obtain⟨ac,rv,pl,_⟩:=I.list q1;obtain⟨its',cZ,nV,_⟩:=I.list q2;have e1:=rv.length;have e2:=cZ.length;have nf:∀ b∈[z,TI,TO,i1,i2],b∉frs X.stack:=fun b hb q=>(M5.mp (I.stkSub b q)).elim (hf b hb).2.1 (hf b hb).2.2.1
  have nc:∃ cs,HdC X.A cs/\Chn s.heap cs/\∀ b∈[z,TI,TO,i1,i2],b∉cs:=by
   rcases I.hdAt with e|⟨b,cs,e,c⟩
   ·exact⟨[],.inl ⟨e,Y⟩,⟨NO,fun j a q=>by simp at q⟩,fun b _ q=>by simp at q⟩
   ·exact⟨b::cs,.inr ⟨b,cs,Y,e⟩,c.chn I.hok,fun d hd=>c.not_mem (hf d hd).1⟩
  obtain⟨cs,dH,ch,nQ⟩:=nc;refine FS dH ch (nQ z (by simp)) (nQ TO (by simp)) (nQ i1 (by simp)) (nQ i2 (by simp)) D hz hZ iW h1 h2 pl.isList nV.isList (by rcases az with q|q;(left;simp;omega);(right;simp;omega)) fun h' hk=>⟨Y,?_⟩
  refine I.slot0 (ch:=[z,TI,TO,i1,i2]) (tk:=s.toks) hf (fun b o _ hc e=>?_) (fun b o hb e=>⟨o.slots,?_⟩)
  ·simp only[M5,MO,or_false,not_or] at hc
   exact hk b o hc.1 hc.2.2.1 hc.2.2.2.1 hc.2.2.2.2 e
  ·exact hk b o (fun q=>nf z (by simp) (q ▸ hb)) (fun q=>nf TO (by simp) (q ▸ hb)) (fun q=>nf i1 (by simp) (q ▸ hb)) (fun q=>nf i2 (by simp) (q ▸ hb)) e
 self:=fun _ _ _ _ _ st h=>wpAny_pyIter_zip st.1 h
def iZip (K:PySem.W.Frag) (ta:TA):TI:=fun σ H R=>ta σ H fun vs H1=>∃ l1 l2,vs=[.ref l1,.ref l2]/\(∃ xs,SqL K H1 l1 xs)/\(∃ ys,SqL K H1 l2 ys)/\R (Itz K l1 l2) H1
theorem sZ {k:Nat}{p:Pos}{a b:Expr} (hg:Gl X "zip") (hm:X.mg "zip"=none) (ha:PA X [a,b] ta) (hs:starEach [a,b] X.env=[(false,eval a X.env),(false,eval b X.env)]:=by rfl) (fX:starEach [b] X.env=[(false,eval b X.env)]:=by rfl) :
  PI X (.Tuple es k tpos) (.Call (.Name "zip" p) [a,b] [] pos) (iZip X.K ta):=by
 intro aa s σ H R I h;refine Call_ (jk I hg hm boot_zip (PyProof.Rows.callWith_type1 (thn (ha pos aa s σ H _ I h) fun us s1=>L2.ex5 fun vs H1 I1 r1 aX=>?_) (by rw[hs,fX]) (by rw[fX];rfl)));obtain⟨l1,l2,e,⟨xs,q1⟩,⟨ys,q2⟩,q⟩:=aX;subst e;obtain⟨u,u',rfl,ru,vh⟩:=tQ r1;obtain rfl:u=Value.ref l1:=ru;obtain rfl:u'=Value.ref l2:=vh;obtain⟨ac,rv,pl,_⟩:=I1.list q1;obtain⟨its',cZ,nV,_⟩:=I1.list q2;refine call_zip_2 pl.isList nV.isList fun h' b1 b2 b3 b4 b5 b6 hk=>?_
 refine wpAny_pyIter_zip (s:={ s1 with heap:=h' }) b1 ?_;have jV:l1<s1.heap.objs.size:=by obtain⟨o,e,_⟩:=pl.isList;exact Mc e
 have rK:l2<s1.heap.objs.size:=by obtain⟨o,e,_⟩:=nV.isList;exact Mc e
 have nn:∀ (x y:Nat),x<y->∀ j:Nat,x≠y + j:=fun x y h j e=>by omega
 have n0:∀ (y i j:Nat),i≠j->y + i≠y + j:=fun y i j h e=>by omega
 have D:ZipApart (s1.heap.objs.size + 4) (s1.heap.objs.size + 2) (s1.heap.objs.size + 3) s1.heap.objs.size (s1.heap.objs.size + 1) l1 l2:=
  ⟨n0 _ 2 4 (by decide),n0 _ 3 4 (by decide),n0 _ 0 4 (by decide),n0 _ 1 4 (by decide),n0 _ 2 3 (by decide),n0 _ 2 0 (by decide),n0 _ 2 1 (by decide),n0 _ 3 0 (by decide),n0 _ 3 1 (by decide),n0 _ 0 1 (by decide),
   nn _ _ jV 4,nn _ _ jV 3,nn _ _ jV 0,nn _ _ jV 1,nn _ _ rK 4,nn _ _ rK 3,nn _ _ rK 0,nn _ _ rK 1⟩
 refine⟨s1.heap.objs.size + 4,[s1.heap.objs.size + 4,s1.heap.objs.size + 2,s1.heap.objs.size + 3,s1.heap.objs.size,s1.heap.objs.size + 1],_,_,H1,Y,I1.kept (t':=s1.toks) hk,JE D,⟨b1,b2,⟨_,_,b3⟩,b4,b5⟩,fun b hb=>?_,q⟩;have ge:s1.heap.objs.size<=b:=by
  simp only[M5,MO,or_false] at hb
  rcases hb with rfl|rfl|rfl|rfl|rfl
  ·exact M6 _ _
  ·exact M6 _ _
  ·exact M6 _ _
  ·exact Md _
  ·exact M6 _ _
 exact I1.fpOk ge (I1.hok.fresh ge)
theorem Inv.freeze  (I:Inv X aa σ H s) (e:H d=some (.dK kvs)) (ho:s.heap.get? d=some o):Inv X aa σ (upd H d (.frz o (.dK kvs))) s:=by
 have ne:∀ b u,H b=some u->u≠.dK kvs->b≠d:=fun b u q n z=>by rw[z,e] at q;cases q;exact n rfl
 have kp:∀ b u,H b=some u->u≠.dK kvs->upd H d (.frz o (.dK kvs)) b=some u:=fun b u q n=>by rw[ak (ne b u q n)];exact q
 refine I.un (h':=s.heap) (t':=s.toks) ⟨fun b _ q _ _ _=>q,fun b ob q _ _ _=>⟨ob.slots,q⟩,fun b ob q n _=>?_,fun b ob q _=>⟨ob,q⟩,fun b xs q=>kp b _ q (by intro z;cases z),fun b ob u q=>kp b _ q (by intro z;cases z),fun b pp pq q=>kp b _ q (by intro z;cases z)⟩ fun b u q=>?_
 ·rw[ak (fun z=>by rw[z,e] at n;cases n)];exact n
 ·by_cases hb:b=d
  ·subst hb
   rw[ah] at q;cases q
   exact⟨ho,(I.hok _ _ e)⟩
  ·rw[ak hb] at q
   exact(I.hok b u q).stay (fun c v _ r=>r) (fun c r=>kp c _ r (by intro z;cases z)) (fun c xs r=>kp c _ r (by intro z;cases z)) fun c ob r=>kp c _ r (by intro z;cases z)
theorem Inv.thaw  (I:Inv X aa σ H s) (hX:∀ o u,X.H₀ d≠some (.frz o u)) (e:H d=some (.frz o (.dK kvs))):Inv X aa σ (upd H d (.dK kvs)) s:=by
 have ne:∀ b u,H b=some u->(∀ o v,u≠.frz o v)->b≠d:=fun b u q n z=>by rw[z,e] at q;cases q;exact n _ _ rfl
 have kp:∀ b u,H b=some u->(∀ o v,u≠.frz o v)->upd H d (.dK kvs) b=some u:=fun b u q n=>by rw[ak (ne b u q n)];exact q
 have nn:∀ b,H b=none->upd H d (.dK kvs) b=none:=fun b q=>by rw[ak (fun z=>by rw[z,e] at q;cases q)];exact q
 have un:Un X.fs X.ex X.H₀ (upd H d (.dK kvs)) X.s₀.heap s.heap:=by
  obtain⟨b1,b2,b3,b4,b5,b6,b7⟩:=I.base;refine⟨b1,b2,fun b ob q n x=>nn b (b3 b ob q n x),b4,fun b xs q=>kp b _ (b5 b xs q) (by intro _ _ z;cases z),fun b ob u q=>?_,fun b pp pq q=>?_⟩
  ·rw[ak (fun z=>hX ob u (by rw[<- z];exact q))];exact b6 b ob u q
  ·exact kp b _ (b7 b pp pq q) (by intro _ _ z;cases z)
 refine { I with base:=un,free:=nn _ I.free,freeC:=fun x c q=>nn _ (I.freeC x c q),pin:=fun p hp=>?_,hok:=fun b u q=>?_ }
 ·obtain⟨p1,p2,p3⟩:=I.pin p hp
  exact⟨p1,nn _ p2,p3⟩
 ·by_cases hb:b=d
  ·subst hb
   rw[ah] at q;cases q
   exact(I.hok _ _ e).2
  ·rw[ak hb] at q
   exact(I.hok b u q).stay (fun c v _ r=>r) (fun c r=>kp c _ r (by intro _ _ z;cases z)) (fun c xs r=>kp c _ r (by intro _ _ z;cases z)) fun c ob r=>by rw[ak (fun z=>by rw[z,e] at r;cases r)];exact r
theorem Inv.notFrz  (I:Inv X aa σ H s) (e:H d=some (.dK kvs)):∀ o u,X.H₀ d≠some (.frz o u):=fun o u q=>by
 have:=I.base.frzs d o u q;rw[e] at this;cases this
def tThaw (t:TE):TE:=fun σ H Q=>∃ d kvs,H d=some (.dK kvs)/\t σ H fun v H1=>∃ o,H1 d=some (.frz o (.dK kvs))/\Q v (upd H1 d (.dK kvs))
theorem GM {t:TE} (h:PE X e t):PE X e (tThaw t):=by
 intro aa s σ H Q I q;obtain⟨d,kvs,hd,q⟩:=q;exact thn (h aa s σ H _ I q) fun u s1 ⟨x,H1,I1,r,o,e1,q1⟩=>⟨x,_,I1.thaw (I.notFrz hd) e1,r,q1⟩
def qP (v d:Addr):HO:=.ext fun h=>h.IsItemsView v d
def rItems:V->List V->Hp->VK->Prop:=fun x vs H Q=>∃ d kvs,x=.ref d/\vs=[]/\H d=some (.dK kvs)/\∀ v,H v=none->Q (.ref v) (upd H v (qP v d))
theorem IC:MtR X "dict.items" rItems:=by
 intro aa s σ H x xs v us Q I rx r h;obtain⟨d,kvs,rfl,rfl,e,q⟩:=h;obtain rfl:v=Value.ref d:=rx;cases r
 obtain⟨z,hd,vs,rel,dd⟩:=jF I.hok e;refine call_meetsIn PySem.F.slot_dict_items dd.typeIs PySem.F.entry_dict_items (PySem.F.args_dict_items_1 _) (meets_dict_items (cf X.prog X.w) d hd) ⟨⟨vs,dd⟩,?_⟩;refine⟨.ref s.heap.objs.size,_,I.laid (t':=s.toks) (o:=qP s.heap.objs.size d) (fun b ob q=>Ma _ q) (Md _) ?_,Y,q _ (I.hok.fresh (Md _))⟩;exact⟨⟨_,Mi _ Y,Y,Y⟩,⟨_,Mi _ Y⟩,fun h1 h2 ⟨o,a,r⟩ k=>⟨o,k o a,r⟩⟩
def Iti (d:Addr) (o:Obj) (kvs:List (Key×V)):It:=
 ⟨fun i H=>H d=some (.frz o (.dK kvs))/\i<kvs.length,fun i H v H'=>∃ T k x,v=.ref T/\H T=none/\kvs[i]?=some (k,x)/\H'=upd H T (.tup [kV k,x]),fun i H=>H d=some (.frz o (.dK kvs))/\kvs.length<=i⟩
def ItemIt (h:Heap) (it d:Addr) (o:Obj) (n i:Nat):Prop:=∃ es ep ok ov,o.data=.dict es ep/\IsItemIter h it d i n ep ok ov
theorem kV_of {P:Program}{k:Key} (h:(cf P w).is k u=true):ay (kV k) u:=by
 rcases jn (show mH k u=true from h) with⟨i,t,rfl,rfl⟩|⟨x,t,rfl,rfl⟩
 ·exact⟨t,Y⟩
 ·exact⟨t,Y⟩
theorem KV.get {kvs:List (Key×V)}{vs:List (Key×Value)} (r:KV kvs vs):∀ {i:Nat}{k:Key}{x:V},kvs[i]?=some (k,x)->∃ u,vs[i]?=some (k,u)/\ay x u:=by
 induction r with
 | nil=>intro i k x e;simp at e
 | @cons p q l1 l2 h t ih=>
  intro i k x e;cases i with
  | zero=>
   simp at e
   subst e;exact⟨q.2,by simp only[List.getElem?_cons_zero,Option.some.injEq];exact Prod.ext h.1.symm Y,h.2⟩
  | succ i=>exact ih (by simpa using e)
theorem Gj:entryFor table "dict_itemiterator.__iter__"=some Builtin.«dict_keyiterator.__iter__»:=entryFor_alias (id':="dict_keyiterator.__iter__") (by kernel_rfl) rfl (by decide +kernel) (by kernel_rfl)
theorem HH {P:Program}{K:PySem.W.Frag}{k:Nat}{it:Addr}:jG P w K (.Tuple es k pos) (Iti d o kvs) [it] it (fun i h=>ItemIt h it d o kvs.length i) where
 mem:=by simp
 obj:=fun i h st b hb=>by
  have e:b=it:=by simpa using hb
  subst e;obtain⟨_,_,_,_,_,e⟩:=st;exact⟨_,e,fun v q=>by simp at q⟩
 keep:=fun i h h' st kk=>by
  obtain⟨a,b,c,e,q,y⟩:=st;exact⟨a,b,c,e,q,kk it (by simp) _ y⟩
 item:=by
  intro X hP hw hK hc i aa s σ H E I hf st hg;subst hP hw hK;obtain⟨hd,bp⟩:=hg;obtain⟨gJ,ep,ok,ov,aB,hit⟩:=st;obtain⟨f0,f1,f2,f3,f4,f5⟩:=hf it (by simp);obtain⟨ho,uV⟩:=I.hok _ _ hd;obtain⟨z,sr,vs,rel,⟨o',Db,FE,mB,tX,gI,r2⟩⟩:=uV;rw[ho] at mB;cases mB
  rw[aB] at gI;cases gI
  have mo:s.heap.DictAt (cf X.prog X.w) d vs ep:=⟨o,gJ,ho,tX,aB,r2⟩;obtain⟨⟨kk,x⟩,hx⟩:∃ p,kvs[i]?=some p:=⟨kvs[i],by simp[bp]⟩;obtain⟨u,hu,ru⟩:=rel.get hx;have az:kvs.length=vs.length:=rel.length;rw[az] at hit;refine wpAny_pyNext_items_item hit mo hu fun key h' dI a1 a2 a3 Ea=>⟨_,Y,?_⟩
  refine wpAny_letOwnedTupleGo_items (s:={ s with heap:=h' }) a1 fun eP fh bT=>?_
  have pN:H s.heap.objs.size=none:=I.hok.fresh (Md _);have nT:s.heap.objs.size≠it:=Ne.symm (Mn (Mc hit));have I1:Inv X aa σ (upd H s.heap.objs.size (.tup [kV kk,x])) { s with heap:=s.heap.push { cls:=.type "tuple",data:=.seq #[key,u] } }:=
   I.laid (t':=s.toks) (fun b o e=>Ma _ e) (Md _) ⟨by show 2<=sizeLine;decide,[key,u],.cons (kV_of dI) (.cons ru .nil),⟨_,Mi _ rfl,Y,_,Y⟩⟩
  have xM:upd H s.heap.objs.size (.tup [kV kk,x]) it=none:=by rw[ak (Ne.symm nT)];exact f0
  have I2:Inv X aa σ (upd H s.heap.objs.size (.tup [kV kk,x])) { s with heap:=eP }:=I1.turned (t':=s.toks) (fun b ob hb e=>by
   rcases On e with⟨rfl,rfl⟩|e
   ·exact bT.extBut _ _ hb a2
   ·exact bT.extBut _ _ hb (Ea b ob hb e)) xM f1 f3 f4 f5
  refine⟨.ref s.heap.objs.size,_,I2,Y,⟨_,kk,x,Y,pN,hx,Y⟩,⟨gJ,ep,key,u,aB,by rw[az];exact fh⟩,fun b hb=>?_⟩;have e:b=it:=by simpa using hb
  subst e;exact xM
 done:=by
  intro X hP hw hK hc i aa s σ H E I hf st hg;subst hP hw hK;obtain⟨hd,gN⟩:=hg;obtain⟨gJ,ep,ok,ov,aB,hit⟩:=st;obtain⟨f0,f1,f2,f3,f4,f5⟩:=hf it (by simp);obtain⟨ho,uV⟩:=I.hok _ _ hd;obtain⟨z,sr,vs,rel,⟨o',Db,FE,mB,tX,gI,r2⟩⟩:=uV;rw[ho] at mB;cases mB
  rw[aB] at gI;cases gI
  have mo:s.heap.DictAt (cf X.prog X.w) d vs ep:=⟨o,gJ,ho,tX,aB,r2⟩;have az:kvs.length=vs.length:=rel.length;rw[az] at hit;have nc:∃ cs,HdC X.A cs/\Chn s.heap cs/\it∉cs:=by
   rcases I.hdAt with e|⟨b,cs,e,c⟩
   ·exact⟨[],.inl ⟨e,Y⟩,⟨NO,fun j a q=>by simp at q⟩,by simp⟩
   ·exact⟨b::cs,.inr ⟨b,cs,Y,e⟩,c.chn I.hok,c.not_mem f0⟩
  obtain⟨cs,dH,ch,nQ⟩:=nc;exact Jz dH ch nQ hit mo (O9 (by rw[<- az];exact gN)) fun h' eb=>⟨Y,I.turned (t':=s.toks) (fun b o hb e=>eb b o hb e) f0 f1 f3 f4 f5⟩
 self:=fun A i s Q E st h=>by
  obtain⟨gJ,ep,ok,ov,aB,hit⟩:=st;have hT:s.TypeIs (.ref it) "dict_itemiterator":=⟨_,hit,Y⟩;refine wpAny_pyIter_slot hT PySem.F.slot_dict_itemiterator_iter (M7 PySem.F.slot_dict_itemiterator_iter hT Gj ?_ (PySem.F.args_dict_itemiterator_iter_1 _));show wpAny _ _ (ret (.ref it)) _ _ s;exact Mb ⟨_,Y,"dict_itemiterator",_,hT,PySem.F.slot_dict_itemiterator_next.lookup,h⟩
def iView (tl:TE):TI:=fun σ H R=>tl σ H fun x H1=>∃ v d kvs,x=.ref v/\H1 v=some (qP v d)/\H1 d=some (.dK kvs)/\∀ o,R (Iti d o kvs) (upd H1 d (.frz o (.dK kvs)))
theorem HK {k:Nat}{l:Expr} (hl:PE X l tl):PI X (.Tuple es k tpos) l (iView tl):=by
 intro aa s σ H R I h;refine thn (hl aa s σ H _ I h) fun w s1=>L2.ex5 fun x H1 I1 r1 aX=>?_
 obtain⟨v,d,kvs,e,hv,hd,q⟩:=aX;subst e;obtain rfl:w=Value.ref v:=r1;obtain⟨z,sr,vs,rel,dd⟩:=jF I1.hok hd;obtain⟨o,gJ,ep,ho,hx,aB,r⟩:=id dd;have mo:s1.heap.DictAt (cf X.prog X.w) d vs ep:=⟨o,gJ,ho,hx,aB,r⟩;refine wpAny_pyIter_items (I1.hok _ _ hv).1 mo ?_;have I2:=(I1.freeze hd ho).kept (t':=s1.toks) (h':=s1.heap.push { cls:=.type "dict_itemiterator",data:=.fields #[.none,.bool false,.ref d,.int 0 0,.int vs.length 0,.int ep 0,.none,.none] }) fun b o e=>Ma _ e
 refine⟨s1.heap.objs.size,[s1.heap.objs.size],_,_,_,Y,I2,HH,⟨gJ,ep,.none,.none,aB,?_⟩,fun b hb=>?_,q o⟩
 ·rw[rel.length];exact Mi _ rfl
 ·have e:b=s1.heap.objs.size:=by simpa using hb
  subst e;refine I1.fpOk (Md _) ?_;rw[ak (Ne.symm (Mn (Mc ho)))];exact I1.hok.fresh (Md _)
theorem F0 {Q:VK} (Pv:Nat->St->Hp->Prop) (h0:Pv 0 τ H) (hf:∀ i τ H,i<=kvs.length->Pv i τ H->H d=some (.frz o (.dK kvs)))
  (hs:∀ i k x T τ H,kvs[i]?=some (k,x)->H T=none->Pv i τ H->g (.ref T) τ (upd H T (.tup [kV k,x])) fun τ2 H2=>tt τ2 H2 fun b H3=>
   if b=true then te τ2 H3 fun y H4=>∃ ys,H4 D=some (.lst ys)/\ys.length<sizeLine/\Pv (i + 1) τ2 (upd H4 D (.lst (ys++[y]))) else Pv (i + 1) τ2 H3)
  (hd:∀ τ H,Pv kvs.length τ H->Q (.ref D) H):jU (Iti d o kvs) D τ H g tt te Q:=
 wk_ (n:=kvs.length) Pv h0 (fun i σ H hi p=>⟨fun h=>⟨hf i σ H hi p,h⟩,fun h=>⟨hf i σ H hi p,h⟩⟩) (fun i v σ H H' hi p y=>by
 obtain⟨T,k,x,rfl,hT,hx,rfl⟩:=y;exact hs i k x T σ H hx hT p) hd
theorem qF:bootBuiltins "int"=some (.type "int"):=by decide +kernel
theorem mS:bootBuiltins "str"=some (.type "str"):=by decide +kernel
theorem KP:bootBuiltins "bool"=some (.type "bool"):=by decide +kernel
theorem wT:bootBuiltins "list"=some (.type "list"):=by decide +kernel
theorem jb:bootBuiltins "isinstance"=some (.builtin "isinstance"):=by decide +kernel
theorem bt_all:bootBuiltins "all"=some (.builtin "all"):=by decide +kernel
theorem cQ:bootBuiltins "len"=some (.builtin "len"):=by decide +kernel
theorem sL:bootBuiltins "max"=some (.builtin "max"):=by decide +kernel
theorem Il:bootBuiltins "sorted"=some (.builtin "sorted"):=by decide +kernel
theorem B1:bootBuiltins "sum"=some (.builtin "sum"):=by decide +kernel
theorem KL (bs:List Bool) (d:Bool):(List.range bs.length).all (fun i=>bs.getD i d)=bs.all id:=by
 induction bs with
 | nil=>rfl
 | cons b bs ih=>
  rw[Mt,O3,Ob,Pm,Ob,<- ih];rfl
theorem Kn {bs:List Bool} (r:av (bs.map V.bl) us) (h:us[i]?=some v):v=.bool (bs.getD i true):=by
 have hl:(bs.map V.bl).length=us.length:=r.length;have hi:i<bs.length:=by
  have:=(List.getElem?_eq_some_iff.mp h).1;rw[L9] at hl;omega
 obtain⟨u,hu,ru⟩:=r.get (i:=i) (x:=.bl bs[i]) (by simp[hi]);rw[h] at hu;cases hu
 rw[My,Mj hi];exact ru
theorem F8:fP X (.builtin "all") (fun xs H Q=>∃ p,∃ bs:List Bool,xs=[.ref p]/\SqL X.K H p (bs.map V.bl)/\Q (.bl (bs.all id)) H):=by
 intro aa s σ H xs us Q I r h;obtain⟨p,bs,rfl,hq,q⟩:=h;obtain⟨u,rfl,ru⟩:=eV r;obtain rfl:u=Value.ref p:=ru;obtain⟨ac,rv,pl,_⟩:=I.list hq;obtain⟨cs,dH,ch⟩:=I.hd.chain;have bp:p<s.heap.objs.size:=by obtain⟨o,e,_⟩:=pl.isList;exact Mc e
 have lU:s.heap.objs.size∉cs:=fun z=>MF _ (ch.lt _ z)
 have az:ac.length=bs.length:=by rw[<- rv.length,L9]
 refine call_all_walk (NB pl.isList ⟨s.heap.objs.size,_,_,_,_,_,fun i=>bs.getD i true,Y,qS (A:=X.A.in1) dH s.heap.objs.size p (Mn bp) lU ac.toArray,⟨⟨_,Mi _ Y,Y,Y⟩,pl.isList.push _,ch.mono fun b o _ e=>Ma _ e⟩,?_,fun h' tk hk=>?_⟩)
 ·intro i v s' Q' E' hv CU
  have eC:ac[i]?=some v:=by simpa using hv
  rw[Kn rv eC];exact Nn CU
 ·have e:(List.range ac.toArray.size).all (fun i=>bs.getD i true)=bs.all id:=by rw[Mp,az];exact KL bs true
  rw[e];exact⟨.bl _,H,I.kept fun b o e=>hk b o (fun z=>by
   have:b=s.heap.objs.size:=by simpa using z
   exact absurd (Mc e) (by rw[this];exact MF _)) (Ma _ e),Y,q⟩
theorem Io {P:Program}:∀ {kvs:List (Key×V)}{vs:List (Key×Value)}{acc:List Value},KV kvs vs->acc.length=vs.length->(∀ (i:Nat) (v:Value),acc[i]?=some v->∃ k x,vs[i]?=some (k,x)/\(cf P w).is k v=true)->av (kvs.map fun kv=>kV kv.1) acc:=by
 intro kvs vs acc r
 induction r generalizing acc with
 | nil=>
  intro hl _;cases acc with
  | nil=>exact .nil
  | cons _ _=>simp at hl
 | @cons p q ps qs h t ih=>
  intro hl hk;cases acc with
  | nil=>simp at hl
  | cons v acc=>
   obtain⟨k,x,e,hv⟩:=hk 0 v rfl;simp at e
   subst e;refine .cons ?_ (ih (by simpa using hl) fun i v' eC=>by simpa using hk (i + 1) v' (by simpa using eC));show ay (kV p.1) v;rw[h.1];exact kV_of hv
theorem KG:fP X (.type "list") (fun xs H Q=>∃ d kvs,xs=[.ref d]/\H d=some (.dK kvs)/\∀ l,H l=none->Q (.ref l) (upd H l (.lst (kvs.map fun kv=>kV kv.1)))):=by
 intro aa s σ H xs us Q I r h;obtain⟨d,kvs,rfl,hd,q⟩:=h;obtain⟨u,rfl,ru⟩:=eV r;obtain rfl:u=Value.ref d:=ru;obtain⟨z,sr,vs,rel,dd⟩:=jF I.hok hd;obtain⟨ep,mo⟩:=dd.dictAt;obtain⟨cs,dH,ch⟩:=I.hd.chain;refine Kw dH sr mo ch (by rw[<- rel.length];exact z) fun s' acc c' kp g1 g2 g3 hS ha=>?_
 have rv:av (kvs.map fun kv=>kV kv.1) acc.toList:=Io rel (by simpa using ha.1) fun i v hv=>ha.2 i v (by simpa using hv)
 have I':Inv X aa σ (upd H s.heap.objs.size (.lst (kvs.map fun kv=>kV kv.1))) { s with heap:=s'.heap,toks:=s'.toks }:=
  I.laid kp (Md _) ⟨by rw[L9];exact z,acc.toList,c',rv,by simpa using hS⟩
 obtain⟨h',g',d',t',rC⟩:=s';dsimp only at g1 g2 g3 I';subst g1 g2 g3;exact⟨.ref s.heap.objs.size,_,I',Y,q _ (I.hok.fresh (Md _))⟩
section
variable {K:PySem.W.Frag} (hK:X.K=K)
include hK
theorem kI:IxR X (rIxL K):=hK ▸ bC
theorem mF:IxR X (rIxT K):=hK ▸ cB
theorem tL {k:Nat}{t:TGs} (hc:X.calm=true) (h:PGs X es t) (hn:(assignEach es X.env).length=n:=by rfl) (dG:(assignEach es X.env).findIdx? (·.1)=none:=by rfl):PG X (.Tuple es k pos) (gTup K n t):=hK ▸ gR hc h hn dG
def Ig (K:PySem.W.Frag):List V->Hp->VK->Prop:=fun xs H Q=>∃ p ys,xs=[.ref p]/\(SqL K H p ys\/SqT K H p ys)/\Q (.int ys.length) H
theorem CJ:fP X (.builtin "len") (Ig K):=by subst hK;exact eG
def rIsi (K:PySem.W.Frag):List V->Hp->VK->Prop:=fun xs H Q=>∃ x c k t b,xs=[x,c]/\xg c=some k/\fR K H x t/\PySem.W.kitOne K t k=some b/\Q (.bl b) H
theorem Gp:fP X (.builtin "isinstance") (rIsi K):=by subst hK;exact jc
theorem GW {l:Expr} (hl:PE X l tl):PI X tg l (iList K tl):=hK ▸ cw hl
end
section
theorem Jv (hc:HdC A cs) (I ax:Addr) (jt:ax≠I) (hI:I∉cs) (items:Array Value) :
  Walks prog w A I (I::ax::cs) [I] items.size (fun i v=>items[i]?=some v) (fun i h=>h.IsTupleIter I ax i/\h.IsTuple ax items/\Chn h cs) where
 sub:=fun b hb=>by simp at hb;simp[hb]
 frame:=fun _ _ _ st hk=>⟨st.1.at fun o e=>hk I (by simp) o e,st.2.1.at fun o e=>hk ax (by simp) o e,st.2.2.mono fun b o hb e=>hk b (by simp[hb]) o e⟩
 item:=fun i s Q E hi st hQ=>by
  refine OR st.1 st.2.1 (x:=items[i]) (by simp[hi]) fun h' fh bT=>?_
  exact hQ _ h' s.toks (by simp[hi]) ⟨fh,st.2.1.extBut bT.extBut jt,st.2.2.but hI bT.extBut⟩ fun b o hb e=>bT.extBut b o (fun h=>hb (by simp[h])) e
 done:=fun s Q E st hQ=>wO (hc.hd st.2.2) st.1 st.2.1 (by simp) fun h' c8=>hQ h' s.toks fun b o hb e=>c8 b o (fun h=>hb (by simp[h])) e
 self:=fun _ _ _ _ st hQ=>O2 st.1 hQ
section
variable {κ:Type} [DecidableEq κ] {knd:KeyKind prog w κ}
end
end
theorem max2H {a b:Int}{u:Tok}{Q:Value->Shared->Prop} (hc:HdC A cs) (ch:Chn s.heap cs)
  (h:∀ h' tk,(∀ c o,s.heap.get? c=some o->h'.get? c=some o)->Q (if b > a then .int b u else .int a t) { s with heap:=h',toks:=tk }) :
  wpAny (model prog w) A (call (.builtin "max") [.int a t,.int b u]) Q E s:=by
 have hT:(s.heap.push { cls:=.type "tuple",data:=.seq #[.int a t,.int b u] }).IsTuple s.heap.objs.size (intItems #[(a,t),(b,u)]):=⟨_,Mi _ Y,Y,0,by simp[intItems]⟩;refine call_max_two (Pk hT ?_);have hsz:(s.heap.push { cls:=.type "tuple",data:=.seq #[.int a t,.int b u] }).objs.size=s.heap.objs.size + 1:=MI ..;have ns:∀ k,s.heap.objs.size<=k->k∉cs:=fun k hk z=>absurd (ch.lt _ z) (Nat.not_lt.mpr hk)
 refine⟨_,_,[_],_,_,_,_,Y,Jv (A:=A.in1) hc _ s.heap.objs.size (by rw[hsz];exact Mn (Nc _)) (ns _ (by rw[hsz];exact M3 _)) (intItems #[(a,t),(b,u)]),
  ⟨⟨_,Mi _ rfl,rfl,rfl⟩,hT.push _,ch.mono fun b o _ e=>Ma _ (Ma _ e)⟩,fun c hc=>?_,by simp[intItems],CmpOf.ints_gt (numAt #[(a,t),(b,u)]) (fun _ _=>intItems_at),fun v h' tk hP hk=>?_⟩
 ·show c<((s.heap.push _).push _).objs.size
  rw[MI,hsz];rcases M5.mp hc with rfl|hc
  ·rw[hsz];exact Nc _
  ·rcases M5.mp hc with rfl|hc
   ·exact M0 (Nc _)
   ·exact Mv (ch.lt _ hc) (by omega)
 ·have ug:∀ c o,s.heap.get? c=some o->h'.get? c=some o:=fun c o e=>by
   refine hk c o (fun hm=>?_) (Ma _ (Ma _ e));have e1:=List.mem_singleton.mp hm;have:=Mc e;rw[e1,hsz] at this;exact MF _ (OD this)
  have:=h h' tk ug;have hv:v=if b > a then Value.int b u else Value.int a t:=by
   have iN:(intItems #[(a,t),(b,u)])[argBest (fun i j=>decide (numAt #[(a,t),(b,u)] i > numAt #[(a,t),(b,u)] j)) 1]?=some v:=by
    have vH:(intItems #[(a,t),(b,u)]).size - 1=1:=by simp[intItems]
    rw[<- vH];exact hP
   by_cases rV:b > a
   ·have e:argBest (fun i j=>decide (numAt #[(a,t),(b,u)] i > numAt #[(a,t),(b,u)] j)) 1=1:=by simp[argBest,numAt,rV]
    rw[e] at iN
    simpa [intItems,rV] using iN.symm
   ·have e:argBest (fun i j=>decide (numAt #[(a,t),(b,u)] i > numAt #[(a,t),(b,u)] j)) 1=0:=by simp[argBest,numAt,rV]
    rw[e] at iN
    simpa [intItems,rV] using iN.symm
  rw[hv];exact this
theorem Ct:fP X (.builtin "max") (fun xs H Q=>∃ i j,xs=[.int i,.int j]/\Q (.int (if j > i then j else i)) H):=by
 intro aa s σ H xs us Q I r h;obtain⟨i,j,rfl,q⟩:=h;obtain⟨u,w',rfl,⟨t,rfl⟩,⟨t',rfl⟩⟩:=tQ r;obtain⟨cs,dH,ch⟩:=I.hd.chain;refine max2H dH ch fun h' tk k=>⟨_,H,I.kept k,?_,q⟩
 by_cases hj:j > i
 ·rw[if_pos hj,if_pos hj];exact⟨_,Y⟩
 ·rw[if_neg hj,if_neg hj];exact⟨_,Y⟩
theorem qR  (r:av (ns.map V.int) us) (h:us[i]?=some v):∃ t,v=.int (ns.getD i 0) t:=by
 induction ns generalizing us i with
 | nil=>
  cases r
  simp at h
 | cons n ns ih=>
  cases r with
  | cons rv rr=>
   cases i with
   | zero=>
    obtain⟨t,rfl⟩:=rv;simp at h
    exact⟨t,h.symm⟩
   | succ i=>exact ih rr (by simpa using h)
theorem Kr (f:Nat->Int) (ns:List Int) (h:∀ i,f i=ns.getD i 0):preSum f ns.length=ns.sum:=by
 have e:f=fun i=>ns.getD i 0:=funext h
 rw[e,preSum_getD,Mu]
theorem Aq:fP X (.builtin "sum") (fun xs H Q=>∃ p,∃ ns:List Int,xs=[.ref p]/\SqL X.K H p (ns.map V.int)/\Q (.int ns.sum) H):=by
 intro aa s σ H xs us Q I r h;obtain⟨p,ns,rfl,hq,q⟩:=h;obtain⟨u,rfl,ru⟩:=eV r;obtain rfl:u=Value.ref p:=ru;obtain⟨ac,rv,pl,_⟩:=I.list hq;obtain⟨cs,dH,ch⟩:=I.hd.chain;have bp:p<s.heap.objs.size:=by obtain⟨o,e,_⟩:=pl.isList;exact Mc e
 have lU:s.heap.objs.size∉cs:=fun z=>MF _ (ch.lt _ z)
 have az:ac.length=ns.length:=by rw[<- rv.length,L9]
 refine call_sum_walkG (NB pl.isList ⟨s.heap.objs.size,_,_,_,_,_,fun i=>ns.getD i 0,Y,qS (A:=X.A.in1) dH s.heap.objs.size p (Mn bp) lU ac.toArray,⟨⟨_,Mi _ Y,Y,Y⟩,pl.isList.push _,ch.mono fun b o _ e=>Ma _ e⟩,?_,?_,fun h' tk t' hk=>?_⟩)
 ·intro b hb
  show b<(s.heap.push _).objs.size;rw[MI];rcases M5.mp hb with rfl|hb
  ·exact Nc _
  ·rcases M5.mp hb with rfl|hb
   ·exact M0 bp
   ·exact M0 (ch.lt _ hb)
 ·intro i v hv
  exact qR rv (by simpa using hv)
 ·have e:preSum (fun i=>ns.getD i 0) ac.toArray.size=ns.sum:=by rw[Mp,az];exact Kr _ _ fun _=>rfl
  rw[e];exact⟨.int _,H,I.kept fun b o e=>hk b o (fun z=>by
   have:b=s.heap.objs.size:=by simpa using z
   exact absurd (Mc e) (by rw[this];exact MF _)) (Ma _ e),⟨_,Y⟩,q⟩
theorem len0  (h:P []) (us:List Value) (e:us.length=0):P us:=by
 rw[List.length_eq_zero_iff.mp e];exact h
theorem ou  (h:∀ a us,us.length=n->P (a::us)) (us:List Value) (e:us.length=n + 1):P us:=by
 cases us with
 | nil=>cases e
 | cons a us=>exact h a us (Nat.succ.inj e)
theorem len1  (h:∀ a0,P [a0]):∀ us:List Value,us.length=1->P us:=ou fun a=>len0 (P:=fun r=>P (a::r)) (h a)
theorem len2  (h:∀ a0 a1,P [a0,a1]):∀ us:List Value,us.length=2->P us:=ou fun a=>len1 (P:=fun r=>P (a::r)) (h a)
theorem len3  (h:∀ a0 a1 a2,P [a0,a1,a2]):∀ us:List Value,us.length=3->P us:=ou fun a=>len2 (P:=fun r=>P (a::r)) (h a)
theorem len4  (h:∀ a0 a1 a2 a3,P [a0,a1,a2,a3]):∀ us:List Value,us.length=4->P us:=ou fun a=>len3 (P:=fun r=>P (a::r)) (h a)
theorem len5  (h:∀ a0 a1 a2 a3 a4,P [a0,a1,a2,a3,a4]):∀ us:List Value,us.length=5->P us:=ou fun a=>len4 (P:=fun r=>P (a::r)) (h a)
theorem len6  (h:∀ a0 a1 a2 a3 a4 a5,P [a0,a1,a2,a3,a4,a5]):∀ us:List Value,us.length=6->P us:=ou fun a=>len5 (P:=fun r=>P (a::r)) (h a)
theorem cg {A B:Prop} (hb:b=false) (h:B):if b=true then A else B:=by
 subst hb;exact iteF h
theorem Ak {A B:Prop} (hb:b=true) (h:A):if b=true then A else B:=by
 subst hb;exact lp h
theorem bE {A B:Prop} (h1:b=true->A) (h2:b=false->B):if b=true then A else B:=by
 cases b with
 | true=>exact lp (h1 Y)
 | false=>exact iteF (h2 Y)
def isTup:HO->Bool
 | .tup _=>true
 | .frz _ (.tup _)=>true
 | _=>false
def Tk (H H':Hp):Prop:=∀ b o,H b=some o->isTup o=true->H' b=some o
theorem Tk.of  (e:af H H'):Tk H H':=fun b o h _=>e b o h
theorem Tk.trans  (a:Tk H H1) (b:Tk H1 H2):Tk H H2:=fun c o h z=>b c o (a c o h z) z
theorem Tk.upd {H:Hp}{c:Addr}{u o:HO} (h:H c=some u) (n:isTup u=false):Tk H (L2.upd H c o):=fun b w e z=>by
 have:b≠c:=fun q=>by subst q;rw[h] at e;cases e;rw[n] at z;cases z
 rw[ak this];exact e
theorem Tk.sqT {K:PySem.W.Frag} (e:Tk H H') (h:SqT K H a xs):SqT K H' a xs:=by
 rcases h with(h|⟨o,h⟩)|h
 ·exact .inl (.inl (e _ _ h Y))
 ·exact .inl (.inr ⟨o,e _ _ h Y⟩)
 ·exact .inr h
mutual
def sY:Dt->Bool
 | .lst _=>false
 | .tup ds=>oO ds
 | _=>true
def oO:List Dt->Bool
 | []=>true
 | d::ds=>sY d && oO ds
end
mutual
theorem Tk.dt {K:PySem.W.Frag}{H H':Hp} (e:Tk H H'):∀ {d:Dt}{x:V},sY d=true->DtV K H d x->DtV K H' d x
 | .non,_,_,h=>h
 | .bl _,_,_,h=>h
 | .int _,_,_,h=>h
 | .str _,_,_,h=>h
 | .lst ds,_,z,h=>by cases z
 | .tup ds,_,z,h=>by
  obtain⟨a,xs,e1,h1,h2⟩:=h;exact⟨a,xs,e1,e.sqT h1,e.dts z h2⟩
theorem Tk.dts {K:PySem.W.Frag}{H H':Hp} (e:Tk H H'):∀ {ds:List Dt}{xs:List V},oO ds=true->aM K H ds xs->aM K H' ds xs
 | [],_,_,h=>h
 | d::ds,_,z,h=>by
  obtain⟨y,ys,e1,h1,h2⟩:=h;have z':=(Mz _ _).mp z;exact⟨y,ys,e1,e.dt z'.1 h1,e.dts z'.2 h2⟩
end
theorem dX {α:Type}{f:α->Dt} (h:∀ x,sY (f x)=true):∀ l:List α,oO (l.map f)=true
 | []=>rfl
 | x::l=>by
  show(sY (f x) && oO (l.map f))=true;rw[h x,dX h l];rfl
theorem tG {α:Type}{f:α->Dt} (h:∀ x,fK n (f x)) (l:List α):dP n (l.map f):=dP.of fun d hd=>by
 obtain⟨x,_,rfl⟩:=List.mem_map.mp hd;exact h x
theorem nB {K:PySem.W.Frag}{α:Type}{f:α->Dt}{l:List α}{x:V} (h:aM K H (l.map f) xs) (e:xs[i]?=some x):∃ q,l[i]?=some q/\DtV K H (f q) x:=by
 have hi:i<l.length:=by
  have h1:=h.length;rw[L9] at h1;have:=(List.getElem?_eq_some_iff.mp e).1;omega
 obtain⟨q,hq⟩:=jj hi;obtain⟨y,hy,hd⟩:=h.get (j:=i) (d:=f q) (by rw[Mm,hq];rfl);rw[e] at hy;cases hy
 exact⟨q,hq,hd⟩
theorem bP {α:Type}{l:List α}{q:α} (h:l[i]?=some q):l.take (i + 1)=l.take i++[q]:=by
 rw[NX,h];rfl
def Tps (H:Hp) (xs:List V):Prop:=∀ x∈xs,∃ q zs,x=V.ref q/\H q=some (.tup zs)
theorem Tps.tk  (h:Tps H xs) (e:Tk H H'):Tps H' xs:=fun x hx=>by
 obtain⟨q,zs,rfl,hq⟩:=h x hx;exact⟨q,zs,Y,e _ _ hq Y⟩
theorem Tps.snoc {zs:List V} (h:Tps H xs) (hz:H z=some (.tup zs)):Tps H (xs++[.ref z]):=fun x hx=>by
 rcases List.mem_append.mp hx with q|q
 ·exact h x q
 ·exact⟨z,zs,List.mem_singleton.mp q,hz⟩
theorem Tps.nil:Tps H []:=fun x hx=>by simp at hx
theorem Iz (ns:List Int) (lo hi:Option Int):∃ ms:List Int,d5 (ns.map V.int) lo hi=ms.map V.int/\ms.length<=ns.length:=by
 refine⟨(ns.drop (HT.sIx (ns.map V.int).length 0 lo)).take (HT.sIx (ns.map V.int).length (ns.map V.int).length hi - HT.sIx (ns.map V.int).length 0 lo),?_,?_⟩
 ·unfold d5
  rw[Oz,List.map_drop]
 ·rw[Ml,Nl]
  omega
theorem wC {α:Type}{f:St->Hp->Prop} (σ:α->St) (I:α->Hp->Prop){G:Prop} (h:∀ x H,I x H->f (σ x) H) (g:(∀ x H,I x H->f (σ x) H)->G):G:=g h
theorem BZ {k:Int} (h0:0<=k) (h1:k<n):ixN n k=some k.toNat:=by
 unfold ixN;rw[if_pos h0,if_pos h1]
theorem B3 {α:Type}{xs:List α}{k:Int} (h0:0<=k):atI xs k=xs[k.toNat]?:=by
 unfold atI ixN;rw[if_pos h0];by_cases h:k<xs.length
 ·rw[if_pos h];rfl
 ·rw[if_neg h]
  show none=_;rw[O9 (by omega)]
def Ite (K:PySem.W.Frag) (l:Addr):It:=
  ⟨fun i H=>∃ xs x,SqL K H l xs/\xs[i]?=some x,
   fun i H v H'=>∃ T x,v=.ref T/\H T=none/\H'=upd H T (.tup [.int i,x])/\∀ xs,SqL K H l xs->xs[i]?=some x,
   fun i H=>∃ xs,SqL K H l xs/\xs.length<=i⟩
theorem KM {e it:Addr}{items:Array Value}{old:Value} (hd:Hd A s.heap)
  (he:IsEnum s.heap e it i old) (hit:s.heap.IsListIter it l i) (hl:s.heap.IsList l items) (hx:items[i]?=none)
  (hQ:∀ h',Heap.ExtBut it s.heap h'->Q none { s with heap:=h' }):wpAny (model prog w) A (pyNext (.ref e)) Q E s:=by
 have ht:s.TypeIs (.ref e) "enumerate":=⟨_,he,Y⟩;unfold pyNext;refine l7 (Np (MQ (name:=Str.ofString "__next__") ht F.slot_enumerate_next (M7 F.slot_enumerate_next ht F.entry_enumerate_next ?_ (F.args_enumerate_next_1 _))));refine(show wpAny _ _ (field (.ref e) 2 >>= _) _ _ _ from l7 (MM he Y (x:=.ref it) Y ?_));refine l7 (wX (A:=A.in1) hd hit hl hx fun h' x c8 ir=>?_);obtain⟨o,ho,hc⟩:=ir;exact l7 (Nb (T:="StopIteration") (b:=true) ⟨o,ho,hc⟩ isSubtype_stop (Mb (hQ _ c8)))
def EnumIt (h:Heap) (e it l:Addr) (i:Nat):Prop:=∃ old,IsEnum h e it (i:Int) old/\h.IsListIter it l i
theorem KR {P:Program}{K:PySem.W.Frag}{k:Nat}{e it:Addr} (jt:e≠it) :
  jG P w K (.Tuple es k pos) (Ite K l) [e,it] e (fun i h=>EnumIt h e it l i) where
 mem:=by simp
 obj:=fun i h st b hb=>by
  obtain⟨old,he,⟨o1,e1,c1,d1⟩⟩:=st;simp only[M5,MO,or_false] at hb
  rcases hb with rfl|rfl
  ·exact⟨_,he,fun v q=>by simp at q⟩
  ·exact⟨_,e1,fun v q=>by rw[d1] at q;cases q⟩
 keep:=fun i h h' st k=>by
  obtain⟨old,he,h1⟩:=st;exact⟨old,k e (by simp) _ he,h1.at fun o q=>k it (by simp) o q⟩
 item:=by
  intro X hP hw hK hc i aa s σ H E I hf st hg;subst hP hw hK;obtain⟨xs,x,q1,hx⟩:=hg;obtain⟨old,he,h1⟩:=st;obtain⟨ac,rv,pl,_⟩:=I.list q1;obtain⟨u,hu,ru⟩:=rv.get hx;have nf:∀ b∈[e,it],b∉frs X.stack:=fun b hb q=>(M5.mp (I.stkSub b q)).elim (hf b hb).2.1 (hf b hb).2.2.1
  refine wpAny_pyNext_enum_item he h1 pl.isList (x:=u) (by simpa using hu) jt fun h' a1 a2 a3 a4 hk=>⟨_,Y,?_⟩
  refine wpAny_letOwnedTupleGo_enum (s:={ s with heap:=h',toks:=s.toks + 1 }) a1 fun eP iZ bT=>?_
  replace bT:Heap.SameBut e h' eP:=bT
  have pN:H s.heap.objs.size=none:=I.hok.fresh (Md _);have FJ:=Mc he;have um:∀ b o,b≠e->b≠it->s.heap.get? b=some o->eP.get? b=some o:=fun b o n1 n2 q=>bT.extBut b o n1 (hk b o n1 n2 q)
  have I1:Inv X aa σ (upd H s.heap.objs.size (.tup [.int i,x])) { s with heap:=s.heap.push { cls:=.type "tuple",data:=.seq #[.int i s.toks,u] },toks:=s.toks + 1 }:=
   I.laid (t':=s.toks + 1) (fun b o q=>Ma _ q) (Md _) ⟨by show 2<=sizeLine;decide,[.int i s.toks,u],.cons ⟨_,Y⟩ (.cons ru .nil),⟨_,Mi _ rfl,Y,_,Y⟩⟩
  have ph:∀ b∈[e,it],bv X aa (upd H s.heap.objs.size (.tup [.int i,x])) b:=fun b hb=>by
   obtain⟨f0,r⟩:=hf b hb;refine⟨?_,r⟩;have lt:b<s.heap.objs.size:=by
    simp only[M5,MO,or_false] at hb
    rcases hb with rfl|rfl
    ·exact FJ
    ·obtain⟨o,q,_⟩:=h1;exact Mc q
   rw[ak (Mn lt)];exact f0
  have I2:Inv X aa σ (upd H s.heap.objs.size (.tup [.int i,x])) { s with heap:=eP,toks:=s.toks + 1 }:=by
   have back:∀ b o,(s.heap.push { cls:=.type "tuple",data:=.seq #[.int i s.toks,u] }).get? b=some o->b≠e->b≠it->eP.get? b=some o:=fun b o q n1 n2=>by
    rcases On q with⟨rfl,rfl⟩|q
    ·exact bT.extBut _ _ n1 a3
    ·exact um b o n1 n2 q
   refine I1.slots (ch:=[e,it]) (tk:=s.toks + 1) ph (fun b o _ hc q=>?_) (fun b o hb q=>⟨o.slots,?_⟩) (fun b hb o q=>?_)
   ·simp only[M5,MO,or_false,not_or] at hc
    exact back b o q hc.1 hc.2
   ·exact back b o q (fun z=>nf e (by simp) (z ▸ hb)) (fun z=>nf it (by simp) (z ▸ hb))
   ·simp only[M5,MO,or_false] at hb
    rcases hb with rfl|rfl
    ·exact⟨_,iZ⟩
    ·obtain⟨o,q,_⟩:=a2;exact⟨_,bT.extBut _ _ jt.symm q⟩
  refine⟨.ref s.heap.objs.size,_,I2,Y,⟨_,x,Y,pN,Y,fun pI q=>by rw[I.list_inj q q1];exact hx⟩,?_,fun b hb=>(ph b hb).1⟩;exact⟨u,iZ,a2.extBut bT.extBut jt.symm⟩
 done:=by
  intro X hP hw hK hc i aa s σ H E I hf st hg;subst hP hw hK;obtain⟨xs,q1,az⟩:=hg;obtain⟨old,he,h1⟩:=st;obtain⟨ac,rv,pl,_⟩:=I.list q1;have e1:=rv.length;have nf:∀ b∈[e,it],b∉frs X.stack:=fun b hb q=>(M5.mp (I.stkSub b q)).elim (hf b hb).2.1 (hf b hb).2.2.1
  refine KM I.hd he h1 pl.isList (by simp;omega) fun h' hk=>⟨Y,?_⟩
  refine I.slot0 (ch:=[e,it]) (tk:=s.toks) hf (fun b o _ hc q=>?_) (fun b o hb q=>⟨o.slots,?_⟩)
  ·simp only[M5,MO,or_false,not_or] at hc
   exact hk b o hc.2 q
  ·exact hk b o (fun z=>nf it (by simp) (z ▸ hb)) q
 self:=fun _ _ s _ _ st h=>by
  obtain⟨old,he,_⟩:=st;exact Px he h
def iEnum (K:PySem.W.Frag) (ta:TA):TI:=fun σ H R=>ta σ H fun vs H1=>∃ l,vs=[.ref l]/\(∃ xs,SqL K H1 l xs)/\R (Ite K l) H1
theorem CG {k:Nat}{p:Pos}{a:Expr} (hg:Gl X "enumerate") (hm:X.mg "enumerate"=none) (ha:PA X [a] ta) (hs:starEach [a] X.env=[(false,eval a X.env)]:=by rfl) :
  PI X (.Tuple es k tpos) (.Call (.Name "enumerate" p) [a] [] pos) (iEnum X.K ta):=by
 intro aa s σ H R I h;refine Call_ (jk I hg hm boot_enumerate (PyProof.Rows.callWith_type1 (thn (ha pos aa s σ H _ I h) fun us s1=>L2.ex5 fun vs H1 I1 r1 aX=>?_) hs Y));obtain⟨l,e,⟨xs,q1⟩,q⟩:=aX;subst e;obtain⟨u,rfl,ru⟩:=eV r1;obtain rfl:u=Value.ref l:=ru;obtain⟨ac,rv,pl,_⟩:=I1.list q1;refine call_enumerate_list pl.isList fun h' b1 b2 b3 hk=>?_
 refine Px (s:={ s1 with heap:=h' }) b1 ?_;refine⟨s1.heap.objs.size + 1,[s1.heap.objs.size + 1,s1.heap.objs.size],_,_,H1,Y,I1.kept (t':=s1.toks) hk,KR (Nf (Nc _)),⟨_,b1,b2⟩,fun b hb=>?_,q⟩;have ge:s1.heap.objs.size<=b:=by
  simp only[M5,MO,or_false] at hb
  rcases hb with rfl|rfl
  ·exact M6 _ _
  ·exact Md _
 exact I1.fpOk ge (I1.hok.fresh ge)
theorem AK {K:PySem.W.Frag}{D:eF} (Pv:Nat->St->Hp->Prop) (h0:Pv 0 σ H) (hl:∀ i σ H,i<=xs.length->Pv i σ H->SqL K H l xs)
  (hs:∀ i x T σ H,xs[i]?=some x->H T=none->Pv i σ H->g (.ref T) σ (upd H T (.tup [.int i,x])) fun σ2 H2=>tb { D with nx:=Pv (i + 1),ct:=Pv (i + 1),bk:=D.nx } σ2 H2) (hd:∀ σ H,Pv xs.length σ H->D.nx σ H):ForW (Ite K l) D g tb σ H:=
 wk_ (n:=xs.length) Pv h0 (fun i σ H hi p=>⟨fun h=>⟨xs,xs[i],hl i σ H hi p,by simp[h]⟩,fun h=>⟨xs,hl i σ H hi p,h⟩⟩) (fun i v σ H H' hi p y=>by
 obtain⟨T,x,rfl,hT,rfl,hx⟩:=y;exact hs i x T σ H (hx xs (hl i σ H (Nk hi) p)) hT p) hd
theorem wx {K:PySem.W.Frag}{D:eF} (az:xs.length=ys.length) (Pv:Nat->St->Hp->Prop) (h0:Pv 0 σ H) (hl:∀ i σ H,i<=xs.length->Pv i σ H->SqL K H l1 xs/\SqL K H l2 ys)
  (hs:∀ i x y T σ H,xs[i]?=some x->ys[i]?=some y->H T=none->Pv i σ H->g (.ref T) σ (upd H T (.tup [x,y])) fun σ2 H2=>tb { D with nx:=Pv (i + 1),ct:=Pv (i + 1),bk:=D.nx } σ2 H2) (hd:∀ σ H,Pv xs.length σ H->D.nx σ H):ForW (Itz K l1 l2) D g tb σ H:=
 wk_ (n:=xs.length) Pv h0 (fun i σ H hi p=>⟨fun h=>⟨xs,ys,xs[i],ys[i],(hl i σ H hi p).1,(hl i σ H hi p).2,by simp[h],by simp[show i<ys.length by omega]⟩,fun h=>⟨xs,ys,(hl i σ H hi p).1,(hl i σ H hi p).2,.inl h⟩⟩) (fun i v σ H H' hi p y=>by
 obtain⟨T,x,y,rfl,hT,rfl,hx,hy⟩:=y;exact hs i x y T σ H (hx xs (hl i σ H (Nk hi) p).1) (hy ys (hl i σ H (Nk hi) p).2) hT p) hd
theorem BH  (h:i<ns.length):ns.getD i 0∈ns:=by
 rw[My,Mj h];exact Nv h
theorem B7 {x:Int} (h:x∈ns):∃ j,j<ns.length/\ns.getD j 0=x:=by
 obtain⟨j,hj,e⟩:=Ot h;exact⟨j,hj,by rw[My,Mj hj];exact e⟩
theorem xw (f:Nat->Int):∀ k,argBest (fun i j=>decide (f i > f j)) k<=k/\∀ j,j<=k->f (argBest (fun i j=>decide (f i > f j)) k) >= f j
 | 0=>⟨Md _,fun j hj=>by rw[Nat.le_zero.mp hj];exact MX _⟩
 | k + 1=>by
  obtain⟨h1,h2⟩:=xw f k;by_cases hb:f (k + 1) > f (argBest (fun i j=>decide (f i > f j)) k)
  ·have e:argBest (fun i j=>decide (f i > f j)) (k + 1)=k + 1:=by simp[argBest,hb]
   rw[e];refine⟨Md _,fun j hj=>?_⟩;rcases OO j (k + 1) with z|z
   ·have:=h2 j (by omega);omega
   ·rw[show j=k + 1 by omega];exact MX _
  ·have e:argBest (fun i j=>decide (f i > f j)) (k + 1)=argBest (fun i j=>decide (f i > f j)) k:=by simp[argBest,hb]
   rw[e];refine⟨by omega,fun j hj=>?_⟩;rcases OO j (k + 1) with z|z
   ·exact h2 j (by omega)
   ·rw[show j=k + 1 by omega];omega
section
variable {P:Nat->Value->Prop}{St:Nat->Heap->Prop}
end
section
variable {P:Nat->Value->Prop}{St:Nat->Heap->Prop}
theorem FO (kw:List (Str×Value)) (W:Walks prog w A.in1 I fp wr n P St) (bt:Nat->Nat->Bool) (mn:CmpOf prog w A.in1 .Gt P bt) (S:Addr) (e8:S∉fp) :
  ∀ (k j:Nat) (s:Shared) (vb:Value) (c:Nat),n - (j + 1)=k->j + 1<=n->St (j + 1) s.heap->P (argBest bt j) vb->s.heap.get? S=some { cls:=.type "list",dict:=none,data:=.seq #[vb,vb] c,slots:=#[] } ->
  (∀ v h' tk,P (argBest bt (n - 1)) v->(∀ b o,b∉wr->b≠S->s.heap.get? b=some o->h'.get? b=some o)->R (.ok (.ret v)) { s with heap:=h',toks:=tk }) ->
  codeAny (model prog w) A (.builtin "max.loop" ⟨[.ref I,.none,.ref S],kw⟩) R s:=by
 have rR:S∉wr:=fun h=>e8 (W.sub _ h)
 have cG:(toString "max"++toString ".loop":String)="max.loop":=by decide
 intro k
 induction k with
 | zero=>
  intro j s vb c hk hj dG r9 hS hR;have lC:j + 1=n:=by omega
  refine codeAny_builtin F.entry_max_loop ?_;rw[Around.under_plainId F.plain_max_loop _];refine(show wpAny _ A.in1 (seqItems? (.ref S) >>= _) _ _ s from l7 (Nh hS Y ?_));refine(show wpAny _ A.in1 (tryCatch (pyNext (.ref I)) _ >>= _) _ _ s from l7 (NP (W.done s _ _ (lC ▸ dG) fun h' tk iy=>?_)));refine(show wpAny _ A.in1 (updateSeq S (fun _=>#[]) >>= _) _ _ _ from l7 (NK (iy S _ rR hS) Y (l7 (ND (Mb ?_)))));exact hR vb _ tk (by rw[<- lC];exact r9) fun b o iY jo e=>(Mw _ _ (Ne.symm jo)).trans (iy b o iY e)
 | succ k ih=>
  intro j s vb c hk hj dG r9 hS hR;have bp:j + 1<n:=by omega
  refine codeAny_builtin F.entry_max_loop ?_;rw[Around.under_plainId F.plain_max_loop _];refine(show wpAny _ A.in1 (seqItems? (.ref S) >>= _) _ _ s from l7 (Nh hS Y ?_));refine(show wpAny _ A.in1 (tryCatch (pyNext (.ref I)) _ >>= _) _ _ s from l7 (NP (W.item (j + 1) s _ _ bp dG fun v h' tk hP gz iy=>?_)));have iX:=iy S _ rR hS;refine(show wpAny _ A.in1 (tryCatch (holding [v,v] (richCompare .Gt v vb >>= _)) _ >>= _) _ _ _ from l7 (NP (MS (l7 (mn (j + 1) (argBest bt j) v vb _ _ _ hP r9 ?_)))));refine l7 (MS (Nn (l7 (ND (Mb ?_)))));cases hb:bt (j + 1) (argBest bt j) with
  | true=>
   simp only[if_true]
   refine l7 (NK iX Y (l7 (ND ?_)));rw[cG];refine Mb ⟨plainId_quiet F.plain_max_loop _,ih (j + 1) _ v _ (by omega) bp (W.frame _ _ _ gz fun b vj o e=>(Mw _ _ (fun h:S=b=>e8 (by rw[h];exact vj))).trans e) (by simp only[argBest,hb,if_true];exact hP) (MJ _ iX Y) fun v' eP iA iN ij=>?_⟩;exact hR v' eP iA iN fun b o iY jo e=>ij b o iY jo ((Mw _ _ (Ne.symm jo)).trans (iy b o iY e))
  | false=>
   simp only[MY,if_false]
   refine l7 (ND ?_);rw[cG];exact Mb ⟨plainId_quiet F.plain_max_loop _,ih (j + 1) _ vb c (by omega) bp gz (by simp only[argBest,hb,MY,if_false];exact r9) iX fun v' eP iA iN ij=>hR v' eP iA iN fun b o iY jo e=>ij b o iY jo (iy b o iY e)⟩
theorem Bs (kw:List (Str×Value)) (W:Walks prog w A.in1 I fp wr n P St) (bt:Nat->Nat->Bool) (mn:CmpOf prog w A.in1 .Gt P bt) (S:Addr) (e8:S∉fp) (hn:0<n) (dG:St 0 s.heap)
  (hS:s.heap.get? S=some { cls:=.type "list",dict:=none,data:=.seq #[] c,slots:=#[] })
  (hR:∀ v h' tk,P (argBest bt (n - 1)) v->(∀ b o,b∉wr->b≠S->s.heap.get? b=some o->h'.get? b=some o)->R (.ok (.ret v)) { s with heap:=h',toks:=tk }) :
  codeAny (model prog w) A (.builtin "max.loop" ⟨[.ref I,.none,.ref S],kw⟩) R s:=by
 have rR:S∉wr:=fun h=>e8 (W.sub _ h)
 have cG:(toString "max"++toString ".loop":String)="max.loop":=by decide
 refine codeAny_builtin F.entry_max_loop ?_;rw[Around.under_plainId F.plain_max_loop _];refine(show wpAny _ A.in1 (seqItems? (.ref S) >>= _) _ _ s from l7 (Nh hS Y ?_));refine(show wpAny _ A.in1 (tryCatch (pyNext (.ref I)) _ >>= _) _ _ s from l7 (NP (W.item 0 s _ _ hn dG fun v h' tk hP gz iy=>?_)));have iX:=iy S _ rR hS;refine(show wpAny _ A.in1 (updateSeq S (fun _=>#[v,v]) >>= _) _ _ _ from l7 (NK iX Y ?_));rw[cG];exact Mb ⟨plainId_quiet F.plain_max_loop _,FO kw W bt mn S e8 _ 0 _ v _ Y hn (W.frame _ _ _ gz fun b vj o e=>(Mw _ _ (fun h:S=b=>e8 (by rw[h];exact vj))).trans e) hP (MJ _ iX Y) fun v' eP iA iN ij=>hR v' eP iA iN fun b o iY jo e=>ij b o iY jo ((Mw _ _ (Ne.symm jo)).trans (iy b o iY e))⟩
theorem B6 (W:Walks prog w A.in1 I fp wr 0 P St) (S:Addr) (e8:S∉fp){d:Value} (dG:St 0 s.heap) (hS:s.heap.get? S=some { cls:=.type "list",dict:=none,data:=.seq #[] c,slots:=#[] })
  (hR:∀ h' tk,(∀ b o,b∉wr->s.heap.get? b=some o->h'.get? b=some o)->R (.ok (.ret d)) { s with heap:=h',toks:=tk }) :
  codeAny (model prog w) A (.builtin "max.loop" ⟨[.ref I,.none,.ref S],[(nm,d)]⟩) R s:=by
 refine codeAny_builtin F.entry_max_loop ?_;rw[Around.under_plainId F.plain_max_loop _];refine(show wpAny _ A.in1 (seqItems? (.ref S) >>= _) _ _ s from l7 (Nh hS Y ?_));refine(show wpAny _ A.in1 (tryCatch (pyNext (.ref I)) _ >>= _) _ _ s from l7 (NP (W.done s _ _ dG fun h' tk iy=>?_)));exact l7 (Nq (Mb (hR h' tk iy)))
end
theorem zY (a v:Value):argsOk "max" ⟨[a],[(Str.ofString "default",v)]⟩:=by unfold argsOk;kernel_rfl
theorem IA {a:Expr}{i:Int}{p bK aC:Pos} (hg:Gl X "max") (hm:X.mg "max"=none) (ha:PA X [a] ta)
  (hs:backTo pos (starEach [a] X.env)=(false,eval a X.env)::backTo pos (starEach [] X.env):=by rfl) (hp:(backTo pos (starEach [a] X.env)).any (·.1)=false:=by rfl) (qp:(backToKw pos (keywordEach [⟨some "default",.Constant (.int i) j aC,bK⟩] X.env)).all (·.1.isSome)=true:=by rfl)
  (qt:(backToKw pos (keywordEach [⟨some "default",.Constant (.int i) j aC,bK⟩] X.env)).any (·.1.isNone)=false:=by rfl) (o4:∀ u:Value,((backToKw pos (keywordEach [⟨some "default",.Constant (.int i) j aC,bK⟩] X.env)).filterMap (·.1)).zip [u]=[(Str.ofString "default",u)]:=by intro u;rfl) :
  PE X (.Call (.Name "max" p) [a] [⟨some "default",.Constant (.int i) j aC,bK⟩] pos) (fun σ H Q=>ta σ H fun vs H1=>∃ q,∃ ns:List Int,vs=[.ref q]/\SqL X.K H1 q (ns.map V.int)/\(ns=[]->Q (.int i) H1)/\∀ m∈ns,(∀ x∈ns,x<=m)->Q (.int m) H1):=by
 intro aa s σ H Q I h;refine M4 (jk I hg hm sL ?_);refine PyProof.Rows.callWith_kw (thn (ha pos aa s σ H _ I h) fun us s1=>L2.ex5 fun vs H1 I1 r1 aX=>?_) hs hp qp qt;obtain⟨l,ns,e,q1,k0,k1⟩:=aX;subst e;obtain⟨u,rfl,ru⟩:=eV r1;obtain rfl:u=Value.ref l:=ru;refine PyProof.Rows.kws_cons (Pj (PyProof.Rows.kws_nil ?_));rw[o4];obtain⟨ac,rv,pl,_⟩:=I1.list q1;obtain⟨cs,dH,ch⟩:=I1.hd.chain;have bp:l<s1.heap.objs.size:=by obtain⟨o,e,_⟩:=pl.isList;exact Mc e
 have lU:s1.heap.objs.size∉cs:=fun z=>MF _ (ch.lt _ z)
 have az:ac.length=ns.length:=by rw[<- rv.length,L9]
 have cG:(toString "max"++toString ".loop":String)="max.loop":=by decide
 refine kmk_tree PySem.F.kind_max PySem.F.plain_max PySem.F.entry_max (zY _ _) ?_;refine(show wpAny _ _ (Builtin.Builtins.bindParams "max" ["key","default"] 0 ⟨[],[(Str.ofString "default",_)]⟩ >>= _) _ _ _ from l7 (Ow (show Builtin.Builtins.bindParams "max" ["key","default"] 0 ⟨[],[(Str.ofString "default",_)]⟩=pure [none,some _] from rfl) ?_));refine l7 (Mb ?_);refine l7 (NB (s:={ s1 with toks:=s1.toks + 1 }) pl.isList ?_);refine l7 (OA ?_ (MW _));rw[cG];have hz:(s1.heap.push { cls:=.type "list_iterator",data:=.fields #[.ref l,.int 0 0] }).objs.size=s1.heap.objs.size + 1:=MI ..;have W:=qS (prog:=X.prog) (w:=X.w) (A:=X.A.in1) dH s1.heap.objs.size l (Mn bp) lU ac.toArray;have e8:(s1.heap.push { cls:=.type "list_iterator",data:=.fields #[.ref l,.int 0 0] }).objs.size∉s1.heap.objs.size::l::cs:=by
  rw[hz];intro z;rcases M5.mp z with z|z
  ·exact absurd z (Nf (Nc _))
  ·rcases M5.mp z with z|z
   ·exact absurd z (Nf (M0 bp))
   ·exact absurd (ch.lt _ z) (Nat.not_lt.mpr (M3 _))
 have iR:((s1.heap.push { cls:=.type "list_iterator",data:=.fields #[.ref l,.int 0 0] }).push (seqObj "list" #[] 0)).IsListIter s1.heap.objs.size l 0/\((s1.heap.push { cls:=.type "list_iterator",data:=.fields #[.ref l,.int 0 0] }).push (seqObj "list" #[] 0)).IsList l ac.toArray/\Chn ((s1.heap.push { cls:=.type "list_iterator",data:=.fields #[.ref l,.int 0 0] }).push (seqObj "list" #[] 0)) cs:=
  ⟨⟨_,Ma _ (Mi _ rfl),rfl,rfl⟩,(pl.isList.push _).push _,ch.mono fun b o _ e=>Ma _ (Ma _ e)⟩
 refine Mb ⟨plainId_quiet PySem.F.plain_max_loop _,?_⟩;have back:∀ (h':Heap),(∀ b o,b∉[s1.heap.objs.size]->b≠(s1.heap.push { cls:=.type "list_iterator",data:=.fields #[.ref l,.int 0 0] }).objs.size->((s1.heap.push { cls:=.type "list_iterator",data:=.fields #[.ref l,.int 0 0] }).push (seqObj "list" #[] 0)).get? b=some o->h'.get? b=some o)->∀ b o,s1.heap.get? b=some o->h'.get? b=some o:=fun h' hk b o e=>by
  have lt:=Mc e;refine hk b o (fun z=>?_) (fun z=>?_) (Ma _ (Ma _ e))
  ·rw[List.mem_singleton.mp z] at lt;exact MF _ lt
  ·rw[z,hz] at lt;exact MF _ (OD lt)
 by_cases hn:ns=[]
 ·subst hn
  have e0:ac=[]:=List.length_eq_zero_iff.mp (by rw[az];rfl);subst e0;exact B6 W _ e8 iR (Mi _ Y) fun h' tk hk=>⟨.int i,H1,I1.kept (back h' fun b o h1 _ e=>hk b o h1 e),⟨_,Y⟩,k0 Y⟩
 ·have tZ:0<ns.length:=List.length_pos_iff.mpr hn
  refine Bs _ W (fun i j=>decide (ns.getD i 0 > ns.getD j 0)) (CmpOf.ints_gt (fun i=>ns.getD i 0) fun i v hv=>qR rv (by simpa using hv)) _ e8 (by simp;omega) iR (Mi _ rfl) fun v h' tk hv hk=>?_
  have eC:ac.toArray[argBest (fun i j=>decide (ns.getD i 0 > ns.getD j 0)) (ac.toArray.size - 1)]?=some v:=hv;rw[Pa] at eC;obtain⟨t,rfl⟩:=qR rv eC;obtain⟨b1,b2⟩:=xw (fun i=>ns.getD i 0) (ac.toArray.size - 1);have e1:ac.toArray.size=ns.length:=by simp[az]
  rw[e1] at b1 b2;refine⟨.int _,H1,I1.kept (back h' hk),⟨_,Y⟩,?_⟩;rw[e1];exact k1 _ (BH (by omega)) fun x hx=>by
   obtain⟨j,hj,rfl⟩:=B7 hx;exact b2 j (by omega)
def rInD (K:PySem.W.Frag) (pM:Bool):R2:=fun x y H Q=>∃ p ds xs d,y=.ref p/\SqL K H p xs/\aM K H ds xs/\DtV K H d x/\dP 50 ds/\Q (.bl (if pM then !(ds.any fun e=>eqD e d) else ds.any fun e=>eqD e d)) H
open Classical in
theorem Inv.eqFn (I:Inv X aa σ H s){ds:List Dt}{d:Dt}{x:V} (h:aM X.K H ds xs) (rv:av xs ac) (hx:DtV X.K H d x) (rx:ay x v) (hd:dP 50 ds) (hu:A.units + 50<cLine) :
  ∃ f:Value->Bool,(∀ u∈ac,SeqAt.EqAt A s u v (f u))/\ac.any f=ds.any fun e=>eqD e d:=by
 let f:Value->Bool:=fun u=>decide (∃ (j:Nat) (e:Dt),ac[j]?=some u/\ds[j]?=some e/\eqD e d=true)
 have hl:ds.length=ac.length:=h.length.trans rv.length;have one:∀ (j:Nat) (u:Value) (e:Dt),ac[j]?=some u->ds[j]?=some e->f u=eqD e d:=fun j u e h1 h2=>by
  show decide _=_;rw[NH,decide_eq_true_iff]
  constructor
  ·rintro⟨j',e',lE,fc,h3⟩
   obtain⟨y,hy,dy⟩:=h.get h2;obtain⟨y',iS,FG⟩:=h.get fc;obtain⟨u1,i4,r1⟩:=rv.get hy;obtain⟨u2,zG,r2⟩:=rv.get iS;rw[h1] at i4;rw[lE] at zG;cases i4
   cases zG
   rw[r1.inj r2] at dy;rw[I.dtUniq dy FG];exact h3
  ·intro h3
   exact⟨j,e,h1,h2,h3⟩
 refine⟨f,fun u eQ=>?_,?_⟩
 ·obtain⟨j,hj,e⟩:=Ot eQ
  have h1:ac[j]?=some u:=by rw[Mj hj,e]
  obtain⟨e',c8⟩:=jj (l:=ds) (j:=j) (by omega);obtain⟨y,hy,dy⟩:=h.get c8;obtain⟨u1,i4,r1⟩:=rv.get hy;rw[h1] at i4;cases i4
  rw[one j u e' h1 c8];exact I.eqAt dy hx r1 rx (hd.get c8) hu
 ·rw[NH,List.any_eq_true,List.any_eq_true]
  constructor
  ·rintro⟨u,eQ,hf⟩
   obtain⟨j,e,h1,h2,h3⟩:=MP hf;exact⟨e,Me h2,h3⟩
  ·rintro⟨e,he,h3⟩
   obtain⟨j,hj,e2⟩:=Ot he;have h2:ds[j]?=some e:=by rw[Mj hj,e2]
   obtain⟨u,eQ⟩:=jj (l:=ac) (j:=j) (by omega);exact⟨u,Me eQ,by rw[one j u e eQ h2];exact h3⟩
theorem FY (hu:X.A.units + 64<cLine):OpR X (compareOp .NotIn) (rInD X.K true):=by
 intro aa s σ H x y v u Q I rx ry h;obtain⟨p,ds,xs,d,rfl,hq,hd,hx,dl,q⟩:=h;cases ry
 obtain⟨ac,r,pl,hz⟩:=I.list hq;obtain⟨f,h1,h2⟩:=I.eqFn (A:=X.A.in1) hd r hx rx dl (by show X.A.units + 1 + 50<cLine;omega);refine SeqAt.notIn_listAt f pl.isList (fun w hw=>h1 w (by simpa using hw)) ⟨.bl _,H,I,Y,?_⟩;rw[show ac.toArray.any f=ac.any f by simp,h2];exact q
theorem FQ {K:PySem.W.Frag} (hK:X.K=K) (hu:X.A.units + 64<cLine):OpR X (compareOp .NotIn) (rInD K true):=hK ▸ FY hu
variable {P q:Program}{Q:Value->Shared->Prop}{aP e1 ek nT nn t':Nat}{ac kA:Array Value}{body:Expr}{c:Int}{fo ol:Obj}{kS r:Addr}{key:V->Int}{od ye:Option Addr}{p:Keyed}{params:Arguments}{v:V}{vs:List Value}{xs:Array Keyed}
theorem Gf {K:PySem.W.Frag}{xs:List V}{Q:VK} (h1:n<=xs.length) (h2:n<=ys.length) (h3:xs.length=n\/ys.length=n) (Pv:Nat->St->Hp->Prop) (h0:Pv 0 τ H) (hl:∀ i τ H,i<=n->Pv i τ H->SqL K H l1 xs/\SqL K H l2 ys)
  (hs:∀ i x y T τ H,i<n->xs[i]?=some x->ys[i]?=some y->H T=none->Pv i τ H->g (.ref T) τ (upd H T (.tup [x,y])) fun τ2 H2=>tt τ2 H2 fun b H3=>
   if b=true then te τ2 H3 fun y H4=>∃ ys,H4 D=some (.lst ys)/\ys.length<sizeLine/\Pv (i + 1) τ2 (upd H4 D (.lst (ys++[y]))) else Pv (i + 1) τ2 H3)
  (hd:∀ τ H,Pv n τ H->Q (.ref D) H):jU (Itz K l1 l2) D τ H g tt te Q:=
 wk_ (n:=n) Pv h0 (fun i σ H hi p=>⟨fun h=>⟨xs,ys,xs[i],ys[i],(hl i σ H hi p).1,(hl i σ H hi p).2,by simp[show i<xs.length by omega],by simp[show i<ys.length by omega]⟩,fun h=>⟨xs,ys,(hl i σ H hi p).1,(hl i σ H hi p).2,by omega⟩⟩) (fun i v σ H H' hi p y=>by
 obtain⟨T,x,y,rfl,hT,rfl,hx,hy⟩:=y;exact hs i x y T σ H hi (hx xs (hl i σ H (Nk hi) p).1) (hy ys (hl i σ H (Nk hi) p).2) hT p) hd
theorem JX (xs:List V):d5 xs (some 1) none=xs.drop 1:=by
 unfold d5;rw[HT.zic];have e:HT.sIx xs.length 0 (some 1)=min 1 xs.length:=by
  unfold HT.sIx;dsimp only;rw[if_neg (by decide)];rfl
 rw[e];cases xs with
 | nil=>rfl
 | cons x l=>
  have:min 1 (x::l).length=1:=by rw[Mt];omega
  rw[this];exact M8 (by simp)
theorem oE {k:Key} (e:H a=some (.dK kvs)) (h:bc kvs k=some v):df H a (kV k) (some v):=h ▸ df.k e
theorem none_of  (s:af H H') (h:H' r=none):H r=none:=by
 cases e:H r with
 | none=>rfl
 | some o=>
  rw[s _ _ e] at h;cases h
theorem bY {o:HO} (nd:H d=none) (s:af H H'):af H (upd H' d o):=fun b u e=>by
 rw[ak (aE e nd)];exact s b u e
def kM:List Expr->Option (List Str)
 | []=>some []
 | .Constant (.str x) _ _::es=>(kM es).map (x::·)
 | _=>none
theorem rm:∀ {es:List Expr}{xs:List Str},kM es=some xs->PA X es (fun _ H Q=>Q (xs.map V.str) H)
 | [],_,h=>by
  cases h
  exact aj
 | e::es,xs,h=>by
  cases e with
  | Constant c j p=>
   cases c with
   | str x=>
    cases q:kM es with
    | none=>
     unfold kM at h;rw[q] at h;cases h
    | some ys=>
     unfold kM at h;rw[q] at h;cases h
     exact ag lw (rm q) rfl
   | _=>cases h
  | _=>cases h
section
variable {K:PySem.W.Frag} (hK:X.K=K)
include hK
end
theorem IS:typeLookup (.type "list") "keys"=pure none:=am_miss_of_fast (by kernel_rfl)
theorem IH {α:Type}{o:Value}{yH:Str}{Q:α->Shared->Prop} (hd:Hd A s.heap)
  (h:∀ h' tk e,(∀ b ob,s.heap.get? b=some ob->h'.get? b=some ob)->(∃ o',h'.get? e=some o'/\o'.cls=.type "AttributeError")->E (.ref e) { s with heap:=h',toks:=tk }) (hm:yH.length<=sizeLine:=by size_fits) :
  wpAny (model prog w) A (raiseAttrError o name yH:Sem α) Q E s:=by
 unfold raiseAttrError;refine l7 (wpAny_mkStr (l7 ?_) hm);unfold newExc newTuple;refine l7 (NA ?_ (by size_fits));refine l7 (m:=firstArgMember _ _) (Ow (a:=Value.none) (by simp only[firstArgMember,attrError_no_first];rfl) ?_);rw[ownMembersOf_AttributeError];refine NA ?_ (by size_fits);obtain⟨hp,g,d,tk,os⟩:=s;have f1:=sub_AttributeError
 repeat (any_goals (first|assumption|wp_step))
 dsimp only;have jV:∀ b ob,hp.get? b=some ob->b<hp.objs.size + 1:=fun b ob q=>M0 (Mc q)
 refine xD ?_ (MJ _ (Mi _ Y) Y) Y (by simp) fun h' o' iV k' e' c' _ _ _ _ _=>
  h h' _ _ (fun b ob q=>k' b ob ?_ ((Mw _ _ ?_).trans (Ma _ (Ma _ q)))) ⟨o',e',c'⟩
 ·rcases hd with hn|⟨a,cs,ha,c⟩
  ·exact .inl hn
  ·have lt:∀ b∈a::cs,b<hp.objs.size:=c.lt
   refine .inr ⟨a,cs,ha,c.mono fun b ob hb q=>(Mw _ _ ?_).trans (Ma _ (Ma _ q)),fun z=>?_⟩
   ·simp only[MI]
    exact Nf (jV b ob q)
   ·have:=lt _ z
    simp only[MI] at this
    exact absurd (Mv this (M3 _)) (MF _)
 ·simp only[MI]
  exact Mn (jV b ob q)
 ·simp only[MI]
  exact Nf (jV b ob q)
theorem Gi {tk:Tok}{Q:Fin->Shared->Prop} (hd:Hd A s.heap) (ho:s.heap.get? l=some ol) (hc:ol.cls=.type "list") (nU:ol.dict=none) (ko:ol.data=.seq ac nn)
  (h:∀ h' tk e,(∀ b ob,s.heap.get? b=some ob->h'.get? b=some ob)->(∃ o',h'.get? e=some o'/\o'.cls=.type "AttributeError")->E (.ref e) { s with heap:=h',toks:=tk }) :
  wpAny (model prog w) A (Builtin.«object.__getattribute__» ⟨[.ref l,.str "keys" tk],[]⟩) Q E s:=by
 have hT:s.TypeIs (.ref l) "list":=⟨_,ho,hc⟩;have f4:=IS;unfold Builtin.«object.__getattribute__»;obtain⟨hp,g,d,oQ,os⟩:=s;obtain⟨oc,od,LJ,cX⟩:=ol;dsimp only at hc nU ko;subst hc nU ko
 repeat (any_goals (first|assumption|wp_step))
 exact IH hd h (attrMsg_fits (by decide +kernel) (by size_fits))
theorem J1 {Q:Option Value->Shared->Prop} (hd:Hd A s.heap) (ho:s.heap.get? l=some ol) (hc:ol.cls=.type "list") (nU:ol.dict=none) (ko:ol.data=.seq ac nn)
  (h:∀ h' tk,(∀ b ob,s.heap.get? b=some ob->h'.get? b=some ob)->Q none { s with heap:=h',toks:=tk }) :
  wpAny (model prog w) A (getAttr? (.ref l) "keys") Q E s:=by
 unfold getAttr? getAttrBy?;obtain⟨hp,g,d,oQ,os⟩:=s;have hT:(⟨hp,g,d,oQ + 1,os⟩:Shared).TypeIs (.ref l) "list":=⟨_,ho,hc⟩;have f1:=sub_AttributeError;have f2:=F.slot_list_getattribute.lookup;have f3:=F.slot_list_getattribute.bind (.ref l);have f5:typeLookup (.type "list") "__getattr__"=pure none:=am_miss_of_fast (by kernel_rfl);unfold getAttrBy
 repeat (any_goals (first|assumption|wp_step))
 refine codeAny_call_builtin F.slot_list_getattribute.plain F.entry_list_ga (F.slot_list_getattribute.check _ _ _ _ _ _ _ _ hT (F.args_list_getattribute_2 _ _) (Gi (s:=⟨hp,g,d,oQ + 1,os⟩) hd ho hc nU ko fun h' vO e k' ⟨o',e1,e2⟩=>?_));dsimp only;show wpAny _ _ (getattributeRaised _ _ _ _ _ _ _) _ _ _;unfold getattributeRaised;have hE:(⟨h',g,d,vO,os⟩:Shared).TypeIs (.ref e) "AttributeError":=⟨_,e1,e2⟩
 repeat (any_goals (first|assumption|wp_step))
 exact h h' vO k'
theorem BY:entryFor table "dict.update.loop"=some Builtin.«dict.update.loop»:=entryFor_of_tree (by kernel_rfl)
theorem sE:plainId "dict.update.loop"=true:=by decide +kernel
section
variable {κ:Type} [DecidableEq κ] {knd:KeyKind prog w κ}{G:Array GenState->Array GenState->Prop}{P:Nat->Value->Prop}{St:Nat->Shared->Prop}
theorem JP (W:WalksS prog w A.in1 I fp wr G n P St) (ke:d∉fp) (hn:n<=1000) (s0:Shared) (ks:Nat->κ) (vs:Nat->Value) (kvs:Nat->List (κ×Value)) (res:Value)
  (lQ:∀ i v,P i v->∃ t key,v=.ref t/\s0.heap.IsTuple t #[key,vs i]/\t∉d::wr/\knd.is (ks i) key=true)
  (hs:∀ i,kvs (i + 1)=stored (kvs i) (ks i) (vs i)) (hl:∀ i,(kvs i).length<=i + 1000) :
  ∀ (k i:Nat) (s:Shared),n - i=k->i<=n->St i s->Moved (d::wr) G s0 s->s.heap.DictOf knd d (kvs i) ->
   (∀ s',Moved (d::wr) G s0 s'->s'.heap.DictOf knd d (kvs n)->R (.ok (.ret res)) s') ->
   codeAny (model prog w) A (.builtin "dict.update.loop" ⟨[.ref d,.ref I,.int i 0,res],[]⟩) R s:=by
 have zQ:d∉wr:=fun h=>ke (W.sub _ h)
 have qr:∀ b∈wr,b∈d::wr:=fun b hb=>Mo _ hb
 intro k
 induction k with
 | zero=>
  intro i s hk hi dG m0 hD hR;have lC:i=n:=by omega
  subst lC;refine codeAny_builtin BY ?_;rw[Around.under_plainId sE _];show wpAny _ A.in1 (pyNext (.ref I) >>= _) _ _ s;refine l7 (W.done s _ _ dG fun s' hm=>?_);show wpAny _ A.in1 (pure () >>= fun _=>ret res) _ _ s';exact l7 (Mb (Mb (hR s' (Moved.trans W.gtrans m0 (hm.mono qr)) (by
   obtain⟨o,es,ep,ho,aW⟩:=hD;exact⟨o,es,ep,hm.heap d _ zQ ho,aW⟩))))
 | succ k ih=>
  intro i s hk hi dG m0 hD hR;have bp:i<n:=by omega
  refine codeAny_builtin BY ?_;rw[Around.under_plainId sE _];show wpAny _ A.in1 (pyNext (.ref I) >>= _) _ _ s;refine l7 (W.item i s _ _ bp dG fun v s' hP gz hm=>?_);obtain⟨t,key,rfl,⟨ot,j9,Fv,nt,EV⟩,yy,dI⟩:=lQ i v hP;have m1:Moved (d::wr) G s0 s':=Moved.trans W.gtrans m0 (hm.mono qr);have vM:s'.heap.DictOf knd d (kvs i):=by
   obtain⟨o,es,ep,ho,aW⟩:=hD;exact⟨o,es,ep,hm.heap d _ zQ ho,aW⟩
  have p5:=m1.heap t _ yy j9;have hT:s'.TypeIs (.ref t) "tuple":=⟨_,p5,Fv⟩;dsimp only;refine l7 (MS (l7 (NP ?_)));unfold Builtin.Dict.pairItems;refine l7 (Ol hT ?_);rw[if_pos (by decide)];refine l7 (Nh p5 EV (Mb ?_));show wpAny _ _ (holding [key,vs i] (dictSet d key (vs i))) _ _ s';refine MS (wpAny_dictSet_pairs (knd:=knd) dI vM (fun h' cv l8=>?_) (by rw[Mh];have:=hl i;omega));have e1:kvs (i + 1)=stored (kvs i) (ks i) (vs i):=hs i;rw[<- e1] at cv;refine Mb ⟨plainId_quiet sE _,ih (i + 1) _ (by omega) bp (W.frame _ s' _ _ gz (M3 _) fun b hb o e=>?_) ?_ cv hR⟩
  ·rw[l8.2 b (fun h:b=d=>ke (by rw[<- h];exact hb))];exact e
  ·refine m1.then_heap (M3 _) fun b o hb e=>?_
   rw[l8.2 b (fun h:b=d=>hb (by rw[h];exact Ms))];exact e
end
section
variable {κ:Type} [DecidableEq κ] {knd:KeyKind prog w κ}
end
def i8 (K:PySem.W.Frag) (H:Hp):List (Key×V)->List V->Prop
 | [],ys=>ys=[]
 | kv::r,ys=>∃ t jC,ys=.ref t::jC/\SqT K H t [kV kv.1,kv.2]/\i8 K H r jC
def fJ (m:List (Key×V)) (kv:Key×V):List (Key×V):=dj m kv.1 kv.2
theorem mkD_len:∀ (kvs m:List (Key×V)),(kvs.foldl fJ m).length<=m.length + kvs.length
 | [],_=>Md _
 | kv::r,m=>by
  have h1:=mkD_len r (fJ m kv);have h2:=sK m kv.1 kv.2;show(r.foldl fJ (fJ m kv)).length<=_;unfold fJ at h1 ⊢;rw[Mt];omega
theorem Ci (I:Inv X aa σ H s):∀ {kvs:List (Key×V)}{ys:List V}{ac:List Value},i8 X.K H kvs ys->av ys ac->∃ us:List (Key×Value),us.length=ac.length/\kvs.length=us.length /\
  (∀ i v,ac[i]?=some v->∃ t key,v=.ref t/\s.heap.IsTuple t #[key,(us.getD i (Sum.inl 0,.none)).2]/\(cf X.prog X.w).is (us.getD i (Sum.inl 0,.none)).1 key=true) /\
  ∀ i kv,kvs[i]?=some kv->kv.1=(us.getD i (Sum.inl 0,.none)).1/\ay kv.2 (us.getD i (Sum.inl 0,.none)).2
 | [],_,_,h,r=>by
  obtain rfl:_=[]:=h;cases r
  exact⟨[],Y,Y,(fun i v hv=>by simp at hv),fun i kv hk=>by simp at hk⟩
 | kv::kvs,_,_,h,r=>by
  obtain⟨t,jC,rfl,ht,h'⟩:=h;cases r with
  | cons r1 r2=>
   obtain rfl:=(show _=Value.ref t from r1);obtain⟨us,e1,e2,e3,e4⟩:=Ci I h' r2;obtain⟨ti,rv,hT,_⟩:=I.tuple ht;obtain⟨key,u,rfl,q1,q2⟩:=tQ rv;refine⟨(kv.1,u)::us,by rw[Mt,Mt,e1],by rw[Mt,Mt,e2],fun i v hv=>?_,fun i zL hk=>?_⟩
   ·cases i with
    | zero=>
     obtain rfl:Value.ref t=v:=Option.some.inj hv;exact⟨t,key,Y,hT,jO q1⟩
    | succ i=>exact e3 i v hv
   ·cases i with
    | zero=>
     obtain rfl:kv=zL:=Option.some.inj hk;exact⟨Y,q2⟩
    | succ i=>exact e4 i zL hk
theorem IQ {e1 e2 e3:List Expr}{x1 x2 x3:List Str}{p0 p1 p2 p3:Pos} (h1:kM e1=some x1) (h2:kM e2=some x2) (h3:kM e3=some x3) (hN:X.N.Nodup) (hi:X.N[i]?=some x) (hx:Loc X.env.scope x)
  (hs:swapsWith (.List [.List e1 p1,.List e2 p2,.List e3 p3] p0) (some (.Name x aS)) pos.line X.env=pure false) (hf:X.fn x=true\/X.env.scope.names.lookup x=some .local) :
  PS X (.Assign [.Name x aS] (.List [.List e1 p1,.List e2 p2,.List e3 p3] p0) pos) (tAsg (oh (tP (oh fun _ H Q=>Q (x1.map V.str) H) (tP (oh fun _ H Q=>Q (x2.map V.str) H) (tP (oh fun _ H Q=>Q (x3.map V.str) H) eS)))) (aV i))=True:=
 eq_true (aU hN hi hx (bH (ag (bH (rm h1)) (ag (bH (rm h2)) (ag (bH (rm h3)) aj)))) hs hf)
section
open PySem.SeqAt
open AutoSeq1 (wpAny_loadPart')
def oA (K:PySem.W.Frag) (H:Hp) (kvs:List (Key×V)):Prop:=∀ p∈kvs,∃ d,DtV K H d p.2/\fK 20 d
theorem Ik:(kvs.map (·.1)).Nodup->∀ p∈kvs,bc kvs p.1=some p.2:=by
 induction kvs with
 | nil=>intro _ p hp;cases hp
 | cons q r ih=>
  intro nd p hp;rw[MG,List.nodup_cons] at nd;rcases M5.mp hp with rfl|hp
  ·exact gB rfl
  ·rw[eW (fun e=>nd.1 (by rw[e];exact Ni hp))]
   exact ih nd.2 p hp
theorem Inv.dicHits (I:Inv X aa σ H s){kb:List (Key×Value)} (rb:KV kvs kb) (nd:(kvs.map (·.1)).Nodup) (f:oA X.K H kvs) (hu:A.units + 20<cLine) :
  ∀ {l:List (Key×V)}{ka:List (Key×Value)},KV l ka->(∀ p∈l,p∈kvs)->PySem.W.KeqHits A s kb ka true:=by
 intro l ka r
 induction r with
 | nil=>exact fun _=>.nil
 | @cons p p' l ka r0 r ih=>
  intro m;obtain⟨k,y⟩:=p;obtain⟨k',v⟩:=p';have e:k=k':=r0.1;have ry:ay y v:=r0.2;subst e;have hv:=Ik nd (k,y) (m _ Ms);have rel:=rb.val k;dsimp only at hv;rw[hv] at rel;cases e:valueAt kb k with
  | none=>rw[e] at rel;exact rel.elim
  | some v'=>
   rw[e] at rel;obtain⟨d,hd,dd⟩:=f _ (m _ Ms);have q:=I.eqAt (A:=A) hd hd ry rel dd hu;rw[mQ] at q;exact .hit e q (ih fun p hp=>m p (Mo _ hp))
end
section
variable {st:Expr}{ts:TE}{p2:Pos}
end
section
open Sem (wp)
end
def aT (c:Int) (l:List Keyed):List Keyed:=l.filter fun p=>numOf p.1 == c
theorem mY (c:Int) (u v:List Keyed):aT c (u++v)=aT c u++aT c v:=NL ..
theorem w6 (c:Int) (u:List Keyed):aT c u.reverse=(aT c u).reverse:=by unfold aT;rw[List.filter_reverse]
theorem tV {u:List Keyed} (h:∀ p∈u,numOf p.1≠c):aT c u=[]:=List.filter_eq_nil_iff.mpr fun p hp=>by simpa using h p hp
theorem ja  (h:xs.toList[i]?=some p):PyProof.Rows.K xs i=numOf p.1:=by
 rw[M9] at h;unfold PyProof.Rows.K;rw[h]
theorem wm {U B C:List Keyed} (h:xs.toList=U++B++C) (hi:U.length=i) (hj:i + B.length=j) :
  (mirror xs i j ((j - i) / 2)).toList=U++B.reverse++C:=by
 have hz:xs.size=U.length + B.length + C.length:=by rw[<- ML,h];simp only[Mg,Mt]
 refine OE fun k=>?_
 rw[M9,getElem?_mirror_all (by omega)];by_cases h1:i<=k/\k<j
 ·rw[if_pos h1,<- M9,h,MT,MT,Mx (by omega),MB (by omega),
   Mx (by omega),MB (by rw[Nu];omega),List.getElem?_reverse (by omega)]
  congr 1;omega
 ·rw[if_neg h1,<- M9,h]
  by_cases h2:k<i
  ·rw[MT,MT,MB (by omega),MB (by omega)]
  ·rw[Mx (by rw[Mg];omega),Mx (by rw[Mg,Nu];omega)]
   simp
theorem IN {U B C:List Keyed}{l k:Nat} (h:xs.toList=U++B++p::C) (hl:U.length=l) (hk:l + B.length=k) :
  (bubble xs k (k - l)).toList=U++p::(B++C):=by
 have hz:xs.size=U.length + B.length + (C.length + 1):=by rw[<- ML,h];simp only[Mg,Mt]
 refine OE fun i=>?_
 rw[M9,getElem?_bubble (by omega) _ (by omega)];simp only[<- M9,h]
 by_cases h1:i=k - (k - l)
 ·rw[if_pos h1,Mx (by rw[Mg];omega),Mx (by omega),show k - (U++B).length=0 by rw[Mg];omega,show i - U.length=0 by omega]
  rfl
 ·rw[if_neg h1]
  by_cases h2:k - (k - l)<i/\i<=k
  ·rw[if_pos h2,MT,Mx (by omega),MB (by omega),Mx (by omega)]
   obtain⟨d,hd⟩:∃ d,i - U.length=d + 1:=⟨i - U.length - 1,by omega⟩;rw[hd,NE,MB (by omega)];congr 1;omega
  ·rw[if_neg h2]
   by_cases h3:i<l
   ·rw[MT,MB (by omega),MB (by omega)]
   ·rw[Mx (by rw[Mg];omega),Mx (by omega)]
    obtain⟨d,hd⟩:∃ d,i - (U++B).length=d + 1:=⟨i - (U++B).length - 1,by rw[Mg];omega⟩;obtain⟨e,he⟩:∃ e,i - U.length=e + 1:=⟨i - U.length - 1,by omega⟩;rw[hd,he,NE,NE,Mx (by rw[Mg] at hd;omega)];congr 1;rw[Mg] at hd;omega
theorem GQ {F C:List Keyed} (h:xs.toList=F++C) (s:F.Pairwise fun p q=>numOf p.1<=numOf q.1):SortedTo xs F.length:=by
 intro i j uN hj;have at':∀ k (hk:k<F.length),PyProof.Rows.K xs k=numOf (F[k]'hk).1:=fun k hk=>ja (by rw[h,MB hk,Mj hk])
 rw[at' i (by omega),at' j hj];by_cases e:i=j
 ·subst e
  exact MX _
 ·exact List.pairwise_iff_getElem.mp s i j (by omega) hj (by omega)
structure Dn (O:List Keyed) (x bS:Nat) (l U B C O1:List Keyed) (b:Int):Prop where
 arr:l=U++B++C
 org:O=O1++B++C
 len:U.length + B.length=x
 lb:B.length=bS + 1
 fil:∀ c,aT c U=(aT c O1).reverse
 eqb:∀ p∈B,numOf p.1=b
 gt:∀ p∈U,b<numOf p.1
 dec:U.Pairwise fun p q=>numOf q.1<=numOf p.1
section
variable {O U B C O1:List Keyed}{x bS:Nat}{b:Int}
theorem Dn.none (d:Dn O x bS xs.toList U B C O1 b):aT b O1=[]:=by
 have h1:=d.fil b;rw[tV fun p hp=>Int.ne_of_gt (d.gt p hp)] at h1;exact List.reverse_eq_nil_iff.mp h1.symm
theorem Dn.noB (d:Dn O x bS xs.toList U B C O1 b) (hc:c≠b):aT c B=[]:=tV fun p hp=>by rw[d.eqb p hp];exact fun z=>hc z.symm
theorem Dn.rev (d:Dn O x bS xs.toList U B C O1 b):(mirror xs (x - (bS + 1)) x ((x - (x - (bS + 1))) / 2)).toList=U++B.reverse++C:=
 wm d.arr (by have:=d.len;have:=d.lb;omega) (by have:=d.len;have:=d.lb;omega)
theorem Dn.rev0 (d:Dn O x bS xs.toList U B C O1 b) (h:bS=0):xs.toList=U++B.reverse++C:=by
 have h1:=d.lb;subst h;obtain⟨q,rfl⟩:=List.length_eq_one_iff.mp h1;exact d.arr
theorem Dn.last (d:Dn O x bS xs.toList U B C O1 b):PyProof.Rows.K xs (x - 1)=b:=by
 have h1:=d.len;have h2:=d.lb;have hi:x - 1 - U.length<B.length:=by omega
 rw[ja (p:=B[x - 1 - U.length]'hi) (by rw[d.arr,MT,Mx (by omega),MB hi,Mj hi])];exact d.eqb _ (Nv _)
theorem Dn.front (d:Dn O x bS xs.toList U B (p::C) O1 b):PyProof.Rows.K xs x=numOf p.1:=
 ja (by rw[d.arr,Mx (by rw[Mg,d.len];omega),Mg,d.len,Nat.sub_self];rfl)
theorem Dn.decB (d:Dn O x bS xs.toList U B C O1 b):(U++B.reverse).Pairwise fun p q=>numOf q.1<=numOf p.1:=by
 refine List.pairwise_append.mpr ⟨d.dec,?_,fun p hp q hq=>?_⟩
 ·exact Od fun p hp q hq=>by rw[d.eqb p (List.mem_reverse.mp hp),d.eqb q (List.mem_reverse.mp hq)];exact MX _
 ·rw[d.eqb q (List.mem_reverse.mp hq)]
  exact Po (d.gt p hp)
theorem Dn.fall (d:Dn O x bS xs.toList U B (p::C) O1 b) (hp:numOf p.1<b){l:List Keyed} (hl:l=U++B.reverse++p::C):Dn O (x + 1) 0 l (U++B.reverse) [p] C (O1++B) (numOf p.1) where
 arr:=by rw[hl];simp
 org:=by rw[d.org];simp
 len:=by rw[Mg,Nu,d.len];rfl
 lb:=rfl
 fil:=fun c=>by
  rw[mY,mY,Ph,w6,d.fil c];by_cases hc:c=b
  ·subst hc
   rw[d.none];simp
  ·rw[d.noB hc]
   simp
 eqb:=fun q hq=>by rw[List.mem_singleton.mp hq]
 gt:=fun q hq=>by
  rcases List.mem_append.mp hq with z|z
  ·exact OP hp (d.gt q z)
  ·rw[d.eqb q (List.mem_reverse.mp z)];exact hp
 dec:=d.decB
theorem Dn.same (d:Dn O x bS xs.toList U B (p::C) O1 b) (hp:numOf p.1=b):Dn O (x + 1) (bS + 1) xs.toList U (B++[p]) C O1 b where
 arr:=by rw[d.arr];simp
 org:=by rw[d.org];simp
 len:=by rw[Mg,<- Nat.add_assoc,d.len];rfl
 lb:=by rw[Mg,d.lb];rfl
 fil:=d.fil
 eqb:=fun q hq=>by
  rcases List.mem_append.mp hq with z|z
  ·exact d.eqb q z
  ·rw[List.mem_singleton.mp z];exact hp
 gt:=d.gt
 dec:=d.dec
theorem Dn.fin (d:Dn O x bS xs.toList U B C O1 b) (c:Int):aT c ((U++B.reverse).reverse++C)=aT c O:=by
 rw[d.org,Ph,Pd,mY,mY,mY,mY,w6,d.fil c,Pd];by_cases hc:c=b
 ·subst hc
  rw[d.none];simp
 ·rw[d.noB hc]
  simp
theorem JI {k:Int}{l:List Keyed} (hO:O=O1++p::C) (hn:O1.length=n) (hk:∀ q∈O1,numOf q.1=k) (hp:numOf p.1<k) (hl:l=O1.reverse++p::C):Dn O (n + 1) 0 l O1.reverse [p] C O1 (numOf p.1) where
 arr:=by rw[hl];simp
 org:=by rw[hO];simp
 len:=by rw[Nu,hn];rfl
 lb:=rfl
 fil:=fun c=>w6 c O1
 eqb:=fun q hq=>by rw[List.mem_singleton.mp hq]
 gt:=fun q hq=>by rw[hk q (List.mem_reverse.mp hq)];exact hp
 dec:=Od fun q hq r hr=>by rw[hk q (List.mem_reverse.mp hq),hk r (List.mem_reverse.mp hr)];exact MX _
end
section
variable {Ar:Around}{a₀:Array Keyed}{O:List Keyed}
theorem BE {st:SortSt}{Q:Option Nat->SortSt->Prop}{F C:List Keyed} (h0:IntKeys a₀) (hn:aP<=a₀.size) (h1:1<=n) (hU:n<=aP) (hB:SBase a₀ st) (ha:(arrOf st).toList=F++C) (hF:F.length=n)
  (dec:F.Pairwise fun p q=>numOf q.1<=numOf p.1) (fil:∀ c,aT c (F.reverse++C)=aT c O)
  (h:∀ m aL,SBase a₀ aL->1<=m->m<=aP->SortedTo (arrOf aL) m->(∀ c,aT c (arrOf aL).toList=aT c O)->Q (some m) aL):wpS (model prog w) Ar E s (tail3 n aP) Q st:=by
 unfold tail3;have e:(mirror (arrOf st) 0 n ((n - 0) / 2)).toList=F.reverse++C:=wm (U:=[]) ha Y (by omega);have cV:=hB.setArr (mirror_perm (arrOf st) 0 n ((n - 0) / 2));have so:SortedTo (mirror (arrOf st) 0 n ((n - 0) / 2)) n:=by
  have z:=GQ e (by rw[List.pairwise_reverse];exact dec);rw[Nu,hF] at z;exact z
 apply wpS_bind;apply wpS_reverse;apply wpS_bind;exact wpS_ascLoop h0 hn h1 hU cV so fun m g1 g2 g3 _=>wpS_pure (h m _ cV (MN h1 g1) g2 g3 fun c=>(congrArg (aT c) e).trans (fil c))
theorem HA {st:SortSt}{Q:DescSt->SortSt->Prop} (h0:IntKeys a₀) (hn:aP<=a₀.size) (h1:1<=n) (hU:n<=aP) (hB:SBase a₀ st)
  (hd:∃ U B C O1 b,Dn O n 0 (arrOf st).toList U B C O1 b)
  (h:∀ m bS aL,SBase a₀ aL->n<=m->m<=aP->(∃ U B C O1 b,Dn O m bS (arrOf aL).toList U B C O1 b)->Q (none,m,bS) aL):wpS (model prog w) Ar E s (descLoop n aP) Q st:=by
 unfold descLoop;refine wpS_forRange (I:=fun x c aL=>∃ bS,c=(none,x,bS)/\SBase a₀ aL/\∃ U B C O1 b,Dn O x bS (arrOf aL).toList U B C O1 b) ?one ?all ⟨0,rfl,hB,hd⟩
 case all=>
  rintro c a8 ⟨bS,rfl,cV,d⟩
  have e:max n aP=aP:=by omega
  rw[e] at d ⊢;exact h aP bS a8 cV hU (Md _) d
 case one=>
  rintro x c a8 g1 g2 ⟨bS,rfl,cV,U,B,C,O1,b,d⟩
  have hz:(arrOf a8).size=a₀.size:=cV.size;have hl:=congrArg List.length d.arr;have az:=d.len;rw[ML,Mg,Mg] at hl;cases C with
  | nil=>rw[Oh] at hl;omega
  | cons p C=>
   have kx:=d.front;have kl:=d.last;have a1:x<a₀.size:=by omega
   have a2:x - 1<a₀.size:=by omega
   dsimp only;apply wpS_bind;apply wpS_ltK cV h0 a1 a2;rw[kx,kl];by_cases q:numOf p.1<b
   ·rw[MH q]
    dsimp only;rw[if_pos rfl];by_cases hq:bS > 0
    ·rw[if_pos hq]
     apply wpS_bind;apply wpS_reverse;exact wpS_pure ⟨0,Y,cV.setArr (mirror_perm _ _ _ _),_,_,_,_,_,d.fall q d.rev⟩
    ·rw[if_neg hq]
     exact wpS_pure ⟨0,Y,cV,_,_,_,_,_,d.fall q (d.rev0 (by omega))⟩
   ·rw[ME q]
    dsimp only;rw[if_neg Mq];apply wpS_bind;apply wpS_ltK cV h0 a2 a1;rw[kx,kl];by_cases r:b<numOf p.1
    ·rw[MH r]
     dsimp only;rw[if_pos rfl];exact wpS_pure (h x bS a8 cV g1 (by omega) ⟨_,_,_,_,_,d⟩)
    ·rw[ME r]
     dsimp only;rw[if_neg Mq];exact wpS_pure ⟨bS + 1,Y,cV,_,_,_,_,_,d.same (by omega)⟩
theorem KW {st:SortSt}{Q:Option Nat->SortSt->Prop} (h0:IntKeys a₀) (hn:aP<=a₀.size) (hU:n + 1<=aP) (hB:SBase a₀ st) (hd:∃ U B C O1 b,Dn O (n + 1) 0 (arrOf st).toList U B C O1 b)
  (h:∀ m aL,SBase a₀ aL->1<=m->m<=aP->SortedTo (arrOf aL) m->(∀ c,aT c (arrOf aL).toList=aT c O)->Q (some m) aL):wpS (model prog w) Ar E s (descPart n aP) Q st:=by
 unfold descPart;apply wpS_bind;refine wpS_lift (Nq ⟨Y,?_⟩);apply wpS_bind;refine HA h0 hn (by omega) hU hB hd fun m bS a8 cV g1 g2 rF=>?_
 obtain⟨U,B,C,O1,b,d⟩:=rF;have hl:(U++B.reverse).length=m:=by rw[Mg,Nu];exact d.len
 dsimp only;by_cases hq:bS > 0
 ·rw[if_pos hq]
  apply wpS_bind;apply wpS_reverse;exact BE h0 hn (by omega) g2 (cV.setArr (mirror_perm _ _ _ _)) d.rev hl d.decB d.fin h
 ·rw[if_neg hq]
  exact BE h0 hn (by omega) g2 cV (d.rev0 (by omega)) hl d.decB d.fin h
theorem Jx {st:SortSt}{Q:Option Nat->SortSt->Prop} (h0:IntKeys a₀) (hn:aP<=a₀.size) (h1:1<=aP) (hB:SBase a₀ st) (hO:(arrOf st).toList=O)
  (h:∀ m aL,SBase a₀ aL->1<=m->m<=aP->SortedTo (arrOf aL) m->(∀ c,aT c (arrOf aL).toList=aT c O)->Q (some m) aL):wpS (model prog w) Ar E s (countRun' 0 aP) Q st:=by
 have one:SortedTo (arrOf st) 1:=fun i j a b=>by
  obtain rfl:i=j:=by omega
  exact MX _
 have now:∀ c,aT c (arrOf st).toList=aT c O:=fun c=>by rw[hO]
 have hz:(arrOf st).size=a₀.size:=hB.size;rw[countRun0_eq];apply wpS_bind;refine wpS_ascLoop h0 hn (Md 1) h1 hB one fun n g1 g2 g3 g4=>?_
 dsimp only;by_cases hU:n=aP
 ·rw[if_pos (beq_iff_eq.mpr hU)]
  exact wpS_pure (h n st hB g1 g2 g3 now)
 ·rw[if_neg fun z=>hU (beq_iff_eq.mp z)]
  have bp:=g4.resolve_left hU;have Lr:O.length=a₀.size:=by rw[<- hO,ML,hz]
  have xY:n<O.length:=by omega
  have sp:O=O.take n++O[n]::O.drop (n + 1):=by rw[<- OH xY,Oe]
  have kn:PyProof.Rows.K (arrOf st) n=numOf (O[n]).1:=ja (by rw[hO,Mj xY]);have tl:(O.take n).length=n:=by rw[Ml];omega
  have go:(∀ q∈O.take n,numOf q.1=PyProof.Rows.K (arrOf st) (n - 1))->∀ a8,SBase a₀ a8->(arrOf a8).toList=(O.take n).reverse++O[n]::O.drop (n + 1)->wpS (model prog w) Ar E s (descPart n aP) Q a8:=fun hk a8 cV e1=>
   KW h0 hn (by omega) cV ⟨_,_,_,_,_,JI sp tl hk (by rw[<- kn];exact bp) e1⟩ h
  by_cases yb:n > 1
  ·rw[if_pos yb]
   apply wpS_bind;apply wpS_ltK hB h0 (by omega) (by omega);by_cases hr:PyProof.Rows.K (arrOf st) 0<PyProof.Rows.K (arrOf st) (n - 1)
   ·rw[MH hr]
    dsimp only;rw[if_pos rfl];exact wpS_pure (h n st hB g1 g2 g3 now)
   ·rw[ME hr]
    dsimp only;rw[if_neg Mq];apply wpS_bind;apply wpS_reverse;refine go (fun q hq=>?_) _ (hB.setArr (mirror_perm _ _ _ _)) (wm (U:=[]) (by rw[hO];exact sp) Y (by rw[tl,OQ]));obtain⟨i,hi,rfl⟩:=List.mem_iff_getElem.mp hq;have iT:i<n:=by rw[tl] at hi;exact hi
    have ki:PyProof.Rows.K (arrOf st) i=numOf ((O.take n)[i]'hi).1:=ja (by rw[hO,Py,Mj (by omega)]);have b1:=g3 0 i (by omega) iT;have b2:=g3 i (n - 1) (by omega) (by omega);rw[<- ki];omega
  ·rw[if_neg yb]
   obtain rfl:n=1:=by omega
   obtain⟨q,e⟩:=List.length_eq_one_iff.mp tl;refine go (fun r hr=>?_) st hB (by rw[hO,e];rw[e] at sp;exact sp);rw[e] at hr;rw[List.mem_singleton.mp hr];refine(ja ?_).symm;rw[hO];have e2:(O.take 1)[0]?=some q:=by rw[e];rfl
   rw[OJ (by omega)] at e2;exact e2
theorem GU {st:SortSt}{ok:Nat}{Q:Bool->SortSt->Prop} (h0:IntKeys a₀) (hn:n<=a₀.size) (hok:ok<=n) (hB:SBase a₀ st) (hs:SortedTo (arrOf st) ok) (hf:∀ c,aT c (arrOf st).toList=aT c O)
  (h:∀ aL,SBase a₀ aL->SortedTo (arrOf aL) n->(∀ c,aT c (arrOf aL).toList=aT c O)->Q true aL):wpS (model prog w) Ar E s (binarySort' 0 n ok) Q st:=by
 rw[binarySort'_eq];simp only[OQ]
 apply wpS_bind;refine wpS_mono (wpS_forRange (I:=fun k c a8=>c=(none,())/\SBase a₀ a8/\SortedTo (arrOf a8) (min k n)/\∀ c,aT c (arrOf a8).toList=aT c O)
  (Q:=fun c a8=>c=(none,())/\SBase a₀ a8/\SortedTo (arrOf a8) n/\∀ c,aT c (arrOf a8).toList=aT c O) ?one ?all ?ini) ?end_
 case end_=>
  rintro c a8 ⟨rfl,g1,g2,g3⟩
  exact wpS_pure (h a8 g1 g2 g3)
 case ini=>
  refine⟨Y,hB,fun i j a b=>?_,hf⟩;by_cases z:i=j
  ·rw[z]
   exact MX _
  ·exact hs i j a (by omega)
 case all=>
  rintro c a8 ⟨g0,g1,g2,g3⟩
  have e:min (max (max ok 1) n) n=n:=by omega
  rw[e] at g2;exact⟨g0,g1,g2,g3⟩
 case one=>
  rintro k c a8 LA LV ⟨rfl,cV,s1,f1⟩
  have e:min k n=k:=by omega
  rw[e] at s1;have hk:k<a₀.size:=by omega
  have EN:k<(arrOf a8).size:=by rw[cV.size];exact hk
  apply wpS_bind;refine wpS_mono (wpS_forRange (I:=fun x c bR=>bR=a8/\∃ p q,c=(none,p,q)/\p<=q/\q<=k/\q - p<=k - x /\
    (∀ i,i<p->PyProof.Rows.K (arrOf a8) i<=PyProof.Rows.K (arrOf a8) k)/\(∀ i,q<=i->i<k->PyProof.Rows.K (arrOf a8) k<PyProof.Rows.K (arrOf a8) i))
   (Q:=fun c bR=>bR=a8/\∃ p q,c=(none,p,q)/\p<=k /\
    (∀ i,i<p->PyProof.Rows.K (arrOf a8) i<=PyProof.Rows.K (arrOf a8) k)/\(∀ i,p<=i->i<k->PyProof.Rows.K (arrOf a8) k<PyProof.Rows.K (arrOf a8) i)) ?two ?allw ?iniw) ?endw
  case iniw=>exact⟨Y,0,k,Y,by omega,by omega,by omega,fun i z=>by omega,fun i z1 z2=>by omega⟩
  case allw=>
   rintro c bR ⟨rfl,p,q,rfl,z1,z2,z3,z4,z5⟩
   obtain rfl:p=q:=by omega
   exact⟨Y,p,p,Y,z2,z4,z5⟩
  case two=>
   rintro x c bR _ hx ⟨rfl,p,q,rfl,z1,z2,z3,z4,z5⟩
   dsimp only;by_cases gN:p >= q
   ·rw[if_pos gN]
    obtain rfl:p=q:=by omega
    exact wpS_pure ⟨Y,p,p,Y,z2,z4,z5⟩
   ·rw[if_neg gN]
    apply wpS_bind;apply wpS_ltK cV h0 hk (by omega);by_cases hl:PyProof.Rows.K (arrOf bR) k<PyProof.Rows.K (arrOf bR) ((p + q) / 2)
    ·rw[MH hl]
     dsimp only;rw[if_pos rfl];exact wpS_pure ⟨Y,p,(p + q) / 2,Y,by omega,by omega,by omega,z4,fun i y1 y2=>Int.lt_of_lt_of_le hl (s1 _ _ y1 y2)⟩
    ·rw[ME hl]
     dsimp only;rw[if_neg Mq];exact wpS_pure ⟨Y,(p + q) / 2 + 1,q,Y,by omega,by omega,by omega,fun i y=>Int.le_trans (s1 i ((p + q) / 2) (by omega) (by omega)) (Int.not_lt.mp hl),z5⟩
  case endw=>
   rintro c bR ⟨rfl,p,q,rfl,hp,lo,hi⟩
   show wpS _ _ _ _ (do moveDown' k p;pure (ForInStep.yield (none,()))) _ bR;rw[moveDown'_eq];apply wpS_bind;apply wpS_modify;refine wpS_pure ⟨Y,cV.setArr (bubble_perm _ _ _),?_,fun c=>?_⟩
   ·have e2:min (k + 1) n=k + 1:=by omega
    have e3:k - (k - p)=p:=by omega
    rw[e2];intro i j a b;show PyProof.Rows.K (bubble (arrOf bR) k (k - p)) i<=PyProof.Rows.K (bubble (arrOf bR) k (k - p)) j;simp only[K_bubble EN (show k - p<=k by omega),e3]
    repeat' split
    all_goals first
     | (exfalso;omega)
     | with_reducible exact MX _
     | exact lo _ (by omega)
     | exact Po (hi _ (by omega) (by omega))
     | exact s1 _ _ (by omega) (by omega)
   ·rw[<- f1 c]
    have hl:(arrOf bR).toList.length=(arrOf bR).size:=ML;generalize hL:(arrOf bR).toList=L at hl;have sp:L=L.take p++(L.drop p).take (k - p)++(L[k]'(by omega))::L.drop (k + 1):=by
     rw[<- OH (by omega),MT];have e4:L.drop k=(L.drop p).drop (k - p):=by rw[List.drop_drop];congr 1;omega
     rw[e4,Oe,Oe]
    have eb:(bubble (arrOf bR) k (k - p)).toList=_:=IN (hL.trans sp) (by rw[Ml];omega) (by rw[Ml,Nl];omega);have up:∀ r∈(L.drop p).take (k - p),numOf (L[k]'(by omega)).1<numOf r.1:=fun r hr=>by
     obtain⟨i,vN,rfl⟩:=List.mem_iff_getElem.mp hr;rw[Ml,Nl] at vN;have y:=hi (p + i) (by omega) (by omega);rw[ja (p:=L[k]'(by omega)) (by rw[hL,Mj]),ja (p:=L[p + i]'(by omega)) (by rw[hL,Mj])] at y;rw[Py,List.getElem_drop];exact y
    show aT c (bubble (arrOf bR) k (k - p)).toList=aT c L;rw[eb]
    conv=>rhs;rw[sp]
    show aT c (_++([_]++(_++_)))=aT c (_++_++([_]++_));simp only[mY]
    by_cases hc:c=numOf (L[k]'(by omega)).1
    ·rw[tV (u:=(L.drop p).take (k - p)) fun r hr=>by rw[hc];exact Int.ne_of_gt (up r hr)]
     simp
    ·rw[tV (u:=[L[k]'(by omega)]) fun r hr=>by rw[List.mem_singleton.mp hr];exact fun z=>hc z.symm]
     simp
def AI (a₀:Array Keyed) (O:List Keyed) (st:SortSt):Prop:=SDone a₀ st/\∀ c,aT c (arrOf st).toList=aT c O
theorem FX {st:SortSt}{Q:Unit->SortSt->Prop} (h0:IntKeys a₀) (hB:SBase a₀ st) (hO:(arrOf st).toList=O) (h2:2<=a₀.size) (gq:a₀.size<64)
  (h:∀ aL,(arrOf aL).Perm a₀->failedOf aL=none->SortedTo (arrOf aL) a₀.size->(∀ c,aT c (arrOf aL).toList=aT c O)->Q () aL):wpS (model prog w) Ar E s sortRuns' Q st:=by
 have mr:minRun' a₀.size a₀.size 0=a₀.size:=by
  generalize a₀.size=z at h2 gq;cases z with
  | zero=>omega
  | succ f=>rw[minRun'_succ,if_pos gq]
 rw[sortRuns'_eq];apply wpS_bind;apply wpS_get;dsimp only;simp only[hB.size,mr]
 apply wpS_bind;refine wpS_mono (wpS_forRange (I:=fun x c a8=>(x=0/\c=(none,0)/\a8=st)\/(1<=x/\c=(none,a₀.size)/\AI a₀ O a8)) (Q:=fun c a8=>c=(none,a₀.size)/\AI a₀ O a8) ?one ?all (.inl ⟨Y,Y,Y⟩)) ?end_
 case all=>
  rintro c a8 (⟨z,_,_⟩|⟨_,z,d⟩)
  ·omega
  ·exact⟨z,d⟩
 case one=>
  rintro x c a8 _ hx (⟨rfl,rfl,rfl⟩|⟨_,rfl,d⟩)
  ·dsimp only
   rw[if_neg (by omega)];simp only[Nat.sub_zero,OL,OQ]
   apply wpS_bind;refine Jx h0 (Md _) (by omega) hB hO fun m bR vL m1 m2 s2 f2=>?_
   dsimp only;by_cases hm:m<a₀.size
   ·rw[if_pos hm]
    apply wpS_bind;refine wpS_lift (Nq ⟨Y,?_⟩);apply wpS_bind;refine GU h0 (Md _) m2 vL s2 f2 fun rH yF s3 f3=>?_
    simp only[Pf,MY,if_false]
    apply wpS_bind;apply wpS_get;rw[show(pendingOf rH).back?=none by rw[yF.pend];rfl];dsimp only;apply wpS_bind;exact wpS_modify (wpS_pure (.inr ⟨by omega,Y,yF.done s3,f3⟩))
   ·rw[if_neg hm]
    obtain rfl:m=a₀.size:=by omega
    apply wpS_bind;apply wpS_get;rw[show(pendingOf bR).back?=none by rw[vL.pend];rfl];dsimp only;apply wpS_bind;exact wpS_modify (wpS_pure (.inr ⟨by omega,Y,vL.done s2,f2⟩))
  ·dsimp only
   rw[if_pos (Md _)];exact wpS_pure ⟨Y,d⟩
 case end_=>
  rintro c a8 ⟨rfl,d⟩
  dsimp only;apply wpS_bind;refine wpS_mono (wpS_forRange (I:=fun _ c bR=>bR=a8/\c=(none,())) (Q:=fun c bR=>bR=a8/\c=(none,())) ?turn (fun _ _ z=>z) ⟨Y,Y⟩) ?last
  case turn=>
   rintro x c bR _ _ ⟨rfl,rfl⟩
   apply wpS_bind;apply wpS_get;rw[if_pos (by rw[d.1.2.2.1];exact Md 1)];exact wpS_pure ⟨Y,Y⟩
  case last=>
   rintro c bR ⟨rfl,rfl⟩
   exact wpS_pure (h _ d.1.1 d.1.2.1 d.1.2.2.2 d.2)
end
section
variable {c P:Addr}
abbrev lf (X:Cx):Str:=X.env.qual++"<lambda>"
def tj (X:Cx) (scope:Scope) (params:Arguments) (body:Expr) (pm:Value) (c':Addr) (eN:Value):Obj:=
 PySem.W.kla_obj "<lambda>" (lf X) params body scope (c7 X.env.cells scope.names []) pm c' eN
def mN (H:Hp) (c' P:Addr) (qual:Str):Prop:=∃ oc vs t,H c'=some (.frz oc (.own P))/\oc.data=.fields vs/\vs[1]?=some (.str qual t)
theorem mN.rec {c' P:Addr} (x:mN H c' P qual) (k:HOk prog w H h):h.CodeRec (.ref c') qual:=by
 obtain⟨oc,vs,t,e1,e2,e3⟩:=x;obtain⟨z,_⟩:=k c' _ e1;exact⟨c',oc,vs,t,Y,z,e2,e3⟩
theorem mN.mono {c' P:Addr} (x:mN H c' P qual) (k:af H H'):mN H' c' P qual:=by
 obtain⟨oc,vs,t,e1,r⟩:=x;exact⟨oc,vs,t,k _ _ e1,r⟩
theorem G0  (I:Inv X aa σ H s) (gh:X.env.code=.ref c) (hc:PySem.W.codeHdIn X.K c P=true) (hP:H P=some (.tbl pos (lf X)))
  (ok:dk X.env.scope scope X.N N cap=true) (lY:defaultsOf params X.env=([],[]))
  (h:∀ f c' pm eN H' s',Inv X aa σ H' s'->af H H'->s.heap.objs.size<=f->H' f=none->s'.heap.get? f=some (tj X scope params body pm c' eN)->mN H' c' P (lf X)->Q (.ref f) s') :
  wpAny M A (eval (.Lambda params body scope pos) X.env) Q E s:=by
 have tb:=I.hok P _ hP;obtain⟨bm,ob,b1,b2,b3,b4,b5,b6⟩:=I.ok.mod.bmain;have hg:s.heap.Ns mainGlobals X.mg:=I.ok.mod.glob.keeps I.bk;have cl:=wE (I.clos ok);have CY:mainGlobals≠P:=fun z=>by
  obtain⟨o,_,_,e,_⟩:=I.ok.mod.glob;have:=(I.bs _ _ e).2;rw[z,hP] at this;cases this
 have Di:bm≠P:=fun z=>by
  have:=(I.bs _ _ b3).2;rw[z,hP] at this;cases this
 have DE:bm≠mainGlobals:=fun z=>by
  obtain⟨o,es,ep,e,hd,_⟩:=I.ok.mod.glob;rw[z,e] at b3;cases b3;rw[hd] at b6;cases b6
 have C:=PySem.W.codeHd_of_K I.kIn hc;have hb:s.heap.BuiltinsAt X.mg P:=⟨bm,ob,b1,b2,DE,Di,I.bk _ _ b3,b4,b5,b6⟩;refine PySem.W.kla_eval lY ?_;rcases tb with tb|⟨c',oc,vs,t,e1,e2,e3,tb⟩
 ·refine PySem.W.kla_makeFunction cl I.ok.glob hg gh C tb trivial Y CY hb fun c' eN h' tk hx gN bp uC jE=>?_
  obtain⟨c₂,oc,vs,t,q,oV,hd,hv⟩:=uC;cases q
  have hn:H c'=none:=I.hok.fresh gN;have LM:c'≠P:=fun z=>by rw[z,hP] at hn;cases hn
  have nP:∀ b,H b=none->b≠P:=fun b n z=>by rw[z,hP] at n;cases n
  have k:∀ (o:Obj) b u,b≠P->s.heap.get? b=some u->(h'.push o).get? b=some u:=fun o b u n q=>Ma _ (hx b u n q)
  have pX:∀ o:Obj,(h'.push o).get? P=some (PySem.W.tabObj (#[]++#[rawInt pos.line,rawInt pos.col,.ref c'])):=fun o=>Ma _ jE
  have my:∀ b u,H b=some u->upd H c' (.frz oc (.own P)) b=some u:=fun b u q=>by rw[ak (aE q hn)];exact q
  have un:∀ o:Obj,Un X.fs [] H (upd H c' (.frz oc (.own P))) s.heap (h'.push o):=fun o=>by
   refine⟨fun b u q n _ _=>k o b u (nP b n) q,fun b u q n _ _=>⟨u.slots,k o b u (nP b n) q⟩,fun b u q n _=>?_,fun b u q _=>?_,fun b xs q=>my _ _ q,fun b u v q=>my _ _ q,fun b p r q=>my _ _ q⟩
   ·rw[ak (Mn (Mv (Mc q) gN))];exact n
   ·by_cases z:b=P
    ·exact⟨_,z ▸ pX o⟩
    ·exact⟨u,k o b u z q⟩
  have hok:∀ o:Obj,HOk X.prog X.w (upd H c' (.frz oc (.own P))) (h'.push o):=fun o b u q=>by
   by_cases z:b=c'
   ·subst z
    rw[ah] at q;cases q
    exact⟨Ma _ oV,_,Ma _ oV⟩
   ·rw[ak z] at q
    by_cases z2:b=P
    ·subst z2
     rw[hP] at q;cases q
     exact .inr ⟨c',oc,vs,t,ah,hd,hv,pX o⟩
    ·refine(I.hok b u q).stay (fun d v hd q'=>k o d v ?_ q') (fun d r=>my _ _ r) (fun d xs r=>my _ _ r) fun d ob r=>my _ _ r
     rcases hd with hd|hd
     ·rw[hd];exact z2
     ·intro z3
      rw[z3,hP] at hd;cases hd
  have hsz:s.heap.objs.size<=h'.objs.size:=MN gN (Nk bp);refine h _ c' _ eN (upd H c' (.frz oc (.own P))) _ (I.un (t':=tk) (un _) (hok _)) (fun b u q=>my b u q) hsz ?_ (Mi _ Y) ⟨oc,vs,t,ah,hd,hv⟩;rw[ak (Nf bp)];exact I.hok.fresh hsz
 ·have ht:TriplesOk (#[rawInt pos.line,rawInt pos.col,Value.ref c']:Array Value).toList:=by simp[TriplesOk,rawInt]
  have hf:codeAmong pos (#[rawInt pos.line,rawInt pos.col,Value.ref c']:Array Value).toList=some (.ref c'):=by simp[codeAmong,rawInt]
  refine PySem.W.kla_makeFunctionHit cl I.ok.glob hg gh C tb ht hf hb fun eN h' tk hk hsz=>?_
  exact h _ c' _ eN H _ (I.kept (t':=tk) fun b u q=>Ma _ (hk b u q)) (af.refl H) hsz (I.hok.fresh hsz) (Mi _ Y) ⟨oc,vs,t,e1,e2,e3⟩
abbrev qM (X:Cx) (scope:Scope) (f:Addr) (cd:Value) (L:Addr):Env:=PySem.W.envX (lf X) scope L f cd (c7 X.env.cells scope.names [])
def qT (X:Cx) (scope:Scope) (N:List Str) (f:Addr) (cd:Value) (A:Around) (s:Shared) (H:Hp):Cx:=
 { X with A:=A.deeper (qM X scope f cd s.heap.objs.size),N:=N,s₀:=s,H₀:=H,env:=qM X scope f cd s.heap.objs.size,outer:=X.stack,stack:=qM X scope f cd s.heap.objs.size::X.stack,ex:=[],fn:=fun _=>false,calm:=true,pn:=[],xe:=fun _ _=>False }
abbrev lamS (cap:List (Option Nat)) (σ:St) (v:V):St:=(gi cap σ).set 0 (some v)
theorem GZ {tk:Nat} (I:Inv X aa σ H s) (hA:A.frames=X.A.frames) (hh:A.handled=X.A.handled) (ok:dk X.env.scope scope X.N N cap=true)
  (hx:N[0]?=some x) (hl:scope.names.lookup x=some .local) (pj:cap[0]?=some none) (rv:ay v u)
  (hn:h₁.Ns s.heap.objs.size (fun y=>[(x,u)].reverse.lookup y)) (hs:Heap.SameBut s.heap.objs.size (s.heap.push fo) h₁) :
  Inv (qT X scope N f cd A s H) [] (lamS cap σ v) H { s with heap:=h₁,toks:=tk }:=by
 have kg:=ok;simp only[dk,Mz,Nm,beq_iff_eq] at ok
 obtain⟨⟨⟨⟨bf,bA⟩,_⟩,_⟩,gr⟩:=ok;have cl:=I.clos kg;have old:∀ b o,s.heap.get? b=some o->h₁.get? b=some o:=fun b o e=>hs.extBut b o (Mn (Mc e)) (Ma _ e)
 have aJ:∀ x c,(c7 X.env.cells scope.names []).lookup x=some c->X.env.cells.lookup x=some c:=fun x c e=>by
  rcases rh cl e with q|q
  ·simp at q
  ·exact q
 have lR:∀ b:Addr,b∉(qT X scope N f cd A s H).ex:=fun b z=>absurd (show b∈([]:List Addr) from z) (by simp)
 have hd:gU (A.deeper (qM X scope f cd s.heap.objs.size)) H:=by
  rcases I.hdAt with z|⟨a,cs,z,r⟩
  ·exact .inl (hh.trans z)
  ·exact .inr ⟨a,cs,hh.trans z,r⟩
 refine⟨⟨I.ok.mod,bf,Y,Y,Md _,fun y z c h1 h2=>I.ok.inj y z c (aJ y c h1) (aJ z c h2),fun y hy=>?_,fun y c hf _=>Bool.noConfusion hf,hd,Around.frames_deeper (hA.trans I.ok.frames),.inr ⟨Y,Y⟩,fun b z=>absurd z (lR b),
   I.bs,MN I.ok.bsz I.sz,fun b _ _=>lR b,fun b z=>absurd z (lR b),I.stack,I.stkFree⟩,
  rfl,I.bare,Un.kept old,⟨_,hn,fun i y v' h1 h2 h3=>?_⟩,fun y c e=>?_,I.hok.fresh (Md _),fun y c e=>I.freeC y c (aJ y c e),fun p hp=>absurd (show p∈([]:List (Addr×Obj)) from hp) (by simp),I.hok.kept old,?_⟩
 ·have hy:scope.names.lookup y=some .cell\/scope.names.lookup y=some .free:=hy
  rcases hy with hy|hy
  ·exact absurd (show(NameKind.cell != NameKind.cell)=true from bA _ (PySem.mem_of_lookup hy)) (by decide)
  ·exact Option.isSome_iff_exists.mp (qH (.inl (PySem.mem_of_lookup hy)))
 ·have h1:N[i]?=some y:=h1
  by_cases hi:i=0
  ·subst hi
   rw[hx] at h1;cases h1
   have az:0<(gi cap σ).length:=by
    unfold gi;rw[L9];exact(List.getElem?_eq_some_iff.mp pj).1
   have h2:((gi cap σ).set 0 (some v))[0]?=some (some v'):=h2;rw[NM az] at h2;cases h2
   refine⟨u,rv,.inl ⟨hl,?_⟩⟩;show(([(x,u)]:List (Str×Value)).lookup x)=some u;rw[Nd,beq_self_eq_true]
  ·have h2:((gi cap σ).set 0 (some v))[i]?=some (some v'):=h2
   rw[NQ (Ne.symm hi)] at h2;have hj:∃ j,cap[i]?=some (some j)/\σ[j]?=some (some v'):=by
    unfold gi at h2;rw[Mm] at h2;cases e:cap[i]? with
    | none=>rw[e] at h2;cases h2
    | some o=>
     rw[e] at h2;cases o with
     | none=>cases h2
     | some j=>
      refine⟨j,Y,?_⟩;have fc:(σ[j]?).join=some v':=Option.some.inj h2;cases e2:σ[j]? with
      | none=>rw[e2] at fc;cases fc
      | some o2=>rw[e2] at fc;rw[show o2=some v' from fc]
   obtain⟨j,hj,hv⟩:=hj;obtain⟨hX,lP⟩:=tH gr hj h1;have ii:(y,NameKind.free)∈scope.names:=PySem.mem_of_lookup lP;have pz:=kg;simp only[dk,Mz,Nm] at pz
   have h':isCF (X.env.scope.names.lookup y)=true:=by simpa using pz.1.2 _ ii
   have hk:X.env.scope.names.lookup y=some .cell\/X.env.scope.names.lookup y=some .free:=by
    cases e:X.env.scope.names.lookup y with
    | none=>rw[e] at h';cases h'
    | some k=>
     rw[e] at h';cases k <;> first|exact .inl rfl|exact .inr rfl|cases h'
   obtain⟨m,_,EG⟩:=I.loc;obtain⟨u',ru,lk⟩:=EG j y v' hX hv (hk.elim (fun q=>.inr (.inl q)) fun q=>.inr (.inr q));refine⟨u',ru,.inr ⟨.inr lP,?_⟩⟩;rcases lk with⟨q,_⟩|⟨_,c,hc,o,ho,jA⟩
   ·have q:X.env.scope.names.lookup y=some .local:=q
    rcases hk with z|z <;> rw[q] at z <;> cases z
   ·obtain⟨c2,yL⟩:=Option.isSome_iff_exists.mp (qH (cells:=X.env.cells) (acc:=[]) (.inl ii))
    have:=aJ y c2 yL;rw[hc] at this;cases this
    exact⟨c,yL,o,old c o ho,jA⟩
 ·obtain⟨w',o,ho,jA⟩:=I.cell y c (aJ y c e)
  exact⟨w',o,old c o ho,jA⟩
 ·show((gi cap σ).set 0 (some v)).length=N.length
  rw[OX];unfold gi;rw[L9];exact tD gr
theorem JR {c':Addr}{eN:Value}{Q:VK} (I:Inv X aa σ H s) (hA:A.frames=X.A.frames) (hh:A.handled=X.A.handled) (qg:A.depth<recursionLimit)
  (ho:s.heap.get? f=some (tj X scope params body pm c' eN)) (g9:mN H c' P (lf X)) (ok:dk X.env.scope scope X.N N cap=true) (hx:N[0]?=some x) (hl:scope.names.lookup x=some .local) (pj:cap[0]?=some none)
  (eD:bindArgs (PySem.W.kla_fn "<lambda>" (lf X) params body scope (c7 X.env.cells scope.names []) pm (.ref c') eN) ⟨[u],[]⟩=pure [(x,u)]) (vC:scope.isCoroutine=false) (lG:scope.isGenerator=false) (rv:ay v u)
  (he:PE (qT X scope N f (.ref c') A s H) body te) (ht:te (lamS cap σ v) H Q) :
  codeAny (model X.prog X.w) A (.call (.ref f) ⟨[u],[]⟩) (fun r s'=>∃ u',r=.ok (.ret u')/\CE X.stack X.prog X.w H s Q u' s') s:=by
 have kg:=ok;simp only[dk,Mz,Nm,beq_iff_eq] at kg
 obtain⟨⟨⟨⟨bf,bA⟩,_⟩,_⟩,_⟩:=kg;have lim:s.heap.NoLimit:=I.ok.mod.nolimit.keeps I.bk;refine PySem.W.kla_callFunE qg ho Y vC lG Y (g9.rec I.hok) ?_;rw[eD];refine Mb (Pb (fun y hy=>by simpa using bA y hy) (fun y hy=>by rw[List.mem_singleton.mp hy];exact hl) (fun h₁ rY l8=>⟨lim.fresh _ l8,?_⟩) bf);show codeAny _ _ (.expr body (qM X scope f (.ref c') s.heap.objs.size)) _ _;have J:Inv (qT X scope N f (.ref c') A s H) [] (lamS cap σ v) H { s with heap:=h₁,toks:=s.toks + [(x,u)].length }:=GZ I hA hh ok hx hl pj rv rY l8;refine PySem.W.kla_codeExpr (MV (he [] _ _ H Q J ht) (fun w' s' hq=>?_) fun _ _ z=>z.elim);obtain⟨v',H',J',r',q'⟩:=hq;exact⟨w',Y,v',H',J'.os,J'.bare,J'.base,J'.hok,r',q'⟩
end
def iG (key:V->Int) (xs ys:List V):Prop:=ys.Pairwise (fun a b=>key a<=key b)/\∀ c,ys.filter (fun v=>key v == c)=xs.filter (fun v=>key v == c)
theorem Cs {α:Type} (key:α->Int):∀ {a b:List α},a.Pairwise (fun x y=>key x<=key y)->b.Pairwise (fun x y=>key x<=key y)->(∀ c,a.filter (fun v=>key v == c)=b.filter (fun v=>key v == c))->a=b
 | [],[],_,_,_=>rfl
 | [],y::b,_,_,h=>by
  have z:=h (key y);simp at z
 | x::a,[],_,_,h=>by
  have z:=h (key x);simp at z
 | x::a,y::b,ha,hb,h=>by
  have mem:∀ {l m:List α}{v:α},(∀ c,l.filter (fun v=>key v == c)=m.filter (fun v=>key v == c))->v∈l->v∈m:=fun {l m v} q hv=>by
   have z:v∈l.filter (fun u=>key u == key v):=List.mem_filter.mpr ⟨hv,by simp⟩;rw[q] at z;exact(List.mem_filter.mp z).1
  have h1:key y<=key x:=by
   rcases M5.mp (mem h Ms) with z|z
   ·rw[z];exact MX _
   ·exact(List.pairwise_cons.mp hb).1 x z
  have h2:key x<=key y:=by
   rcases M5.mp (mem (fun c=>(h c).symm) Ms) with z|z
   ·rw[z];exact MX _
   ·exact(List.pairwise_cons.mp ha).1 y z
  have e:key x=key y:=Int.le_antisymm h2 h1;have z:=h (key x);rw[OS (by simp),OS (by simp[e])] at z;obtain⟨rfl,z2⟩:=List.cons.inj z;rw[Cs key (List.pairwise_cons.mp ha).2 (List.pairwise_cons.mp hb).2 fun c=>?_];by_cases hc:key x=c
  ·rw[<- hc];exact z2
  ·have y:=h c
   rw[OT (by simp[hc]),OT (by simp[hc])] at y;exact y
theorem iG.uniq {xs a b:List V} (ha:iG key xs a) (hb:iG key xs b):a=b:=Cs key ha.1 hb.1 fun c=>(ha.2 c).trans (hb.2 c).symm
def fO (p:Keyed):V:=(absV p.2).getD .non
theorem Aw {key:V->Int}:∀ {xs:List V}{vs ks:List Value},av xs vs->IntsAre ks (xs.map key)->(∀ p∈ks.zip vs,numOf p.1=key (fO p)/\ay (fO p) p.2)/\(ks.zip vs).map fO=xs
 | [],_,_,.nil,h=>by cases h;exact⟨fun p hp=>by simp at hp,Y⟩
 | x::xs,_,_,.cons (b:=u) r t,h=>by
  cases h with
  | cons n t' h'=>
   obtain⟨a1,a2⟩:=Aw t h';have e:∀ k:Value,fO (k,u)=x:=fun k=>by show(absV u).getD _=_;rw[r.abs];rfl
   refine⟨fun p hp=>?_,?_⟩
   ·rw[Pp] at hp
    rcases M5.mp hp with z|z
    ·rw[z]
     refine⟨?_,?_⟩
     ·rw[e];rfl
     ·rw[e];exact r
    ·exact a1 p z
   ·rw[Pp,MG,a2,e]
theorem Cb:∀ {l:List Keyed},(∀ p∈l,ay (fO p) p.2)->av (l.map fO) (l.map (·.2))
 | [],_=>.nil
 | p::l,h=>.cons (h p Ms) (Cb fun q hq=>h q (Mo _ hq))
theorem HN {xs:List V}{ar:Array Keyed} (rv:av xs vs) (hk:IntsAre kA.toList (xs.map key)) (hp:ar.Perm (kA.zip vs.toArray)) (hs:SortedTo ar ar.size)
  (ha:∀ c,aT c ar.toList=aT c (kA.zip vs.toArray).toList):av (ar.toList.map fO) (ar.map (·.2)).toList/\iG key xs (ar.toList.map fO):=by
 obtain⟨a1,a2⟩:=Aw rv hk;have hl:ar.toList.Perm (kA.toList.zip vs):=by rw[<- ksk_zip];exact Array.perm_iff_toList_perm.mp hp
 have a3:∀ p∈ar.toList,numOf p.1=key (fO p)/\ay (fO p) p.2:=fun p q=>a1 p (hl.mem_iff.mp q)
 have fl:∀ (l:List Keyed) c,(∀ p∈l,numOf p.1=key (fO p)/\ay (fO p) p.2)->(l.map fO).filter (fun v=>key v == c)=(aT c l).map fO:=fun l c q=>by
  rw[List.filter_map];congr 1;exact List.filter_congr fun p hp=>by show(key (fO p) == c)=_;rw[(q p hp).1]
 refine⟨by rw[Array.toList_map];exact Cb fun p q=>(a3 p q).2,?_,fun c=>?_⟩
 ·rw[Pz,List.pairwise_iff_getElem]
  intro i j hi hj uN;have z:=hs i j (Nk uN) (by rw[<- ML];exact hj);rw[ja (p:=ar.toList[i]) (Mj hi),ja (p:=ar.toList[j]) (Mj hj),(a3 _ (Nv hi)).1,(a3 _ (Nv hj)).1] at z;exact z
 ·rw[fl _ c a3,ha c,ksk_zip,<- fl _ c a1,a2]
section
theorem Inv.repin {o':Obj} (I:Inv X (aa++[(kS,o)]) σ H s) (fp:bv X aa H1 kS) (k:∀ b u,b≠kS->s.heap.get? b=some u->h'.get? b=some u) (e:h'.get? kS=some o') (hd:∀ v,o'.data≠.cell v) :
  Inv X (aa++[(kS,o')]) σ H { s with heap:=h',toks:=t' }:=by
 obtain⟨_,f1,f2,f3,f4,f5⟩:=fp;have pk:=I.pin (kS,o) (Mr _ (Mr _ (List.mem_singleton.mpr Y)));have I0:Inv X aa σ H s:=I.pins_of fun p hp=>I.pin p (Mr _ (MC _ hp))
 have I1:=I0.turned (t':=t') k pk.2.1 f1 f3 f4 f5;refine I1.pins_of fun p hp=>?_
 rcases List.mem_append.mp hp with z|z
 ·exact I1.pin p (Mr _ z)
 ·rw[List.mem_singleton.mp z]
  exact⟨e,pk.2.1,f1,f2,hd⟩
theorem Inv.adopt  (I:Inv X aa σ H s) (fp:bv X aa H D) (k:∀ b u,b≠D->s.heap.get? b=some u->h'.get? b=some u) (new:bZ X.prog X.w (upd H D (.lst ys)) h' D (.lst ys)) :
  Inv X aa σ (upd H D (.lst ys)) { s with heap:=h',toks:=t' }:=by
 obtain⟨f0,f1,f2,f3,f4,f5⟩:=fp;have kp:∀ b u,H b=some u->upd H D (.lst ys) b=some u:=fun b u q=>by rw[ak (aE q f0)];exact q
 refine I.step (g':=s.gens) (d':=s.drawn) (ch:=[D]) (fun b hb=>?_) (fun b o _ _ hc e _=>k b o (fun z=>hc (by simp[z])) e) (fun b o _ _ hc e _=>⟨o.slots,k b o (fun z=>hc (by simp[z])) e⟩) (fun b o hc _ n=>by rw[ak (fun z=>hc (by simp[z]))];exact n)
  (fun b o hc e=>⟨o,k b o (fun z=>hc (by simp[z])) e⟩) (fun _ _ e=>kp _ _ e) (fun _ _ _ e=>kp _ _ e) (fun _ _ _ e=>kp _ _ e) (fun m hm=>?_) (fun b u e=>?_) I.bare
 ·have e:b=D:=by simpa using hb
  subst e;exact⟨f3,f1,f4,f5⟩
 ·obtain⟨o,es,ep,ho,r⟩:=hm
  exact⟨o,es,ep,k _ o (Ne.symm f1) ho,r⟩
 ·by_cases z:b=D
  ·subst z
   rw[ah] at e;cases e
   exact new
  ·rw[ak z] at e
   refine(I.hok b u e).stay (fun c v hc q=>k c v ?_ q) (fun _ q=>kp _ _ q) (fun _ _ q=>kp _ _ q) fun _ _ q=>kp _ _ q
   rcases hc with y|y
   ·rw[y];exact z
   ·exact aE y f0
def sH (X:Cx) (A:Around) (f:Addr) (fo:Obj) (σ:St) (H1:Hp) (key:V->Int) (xs:List V):Prop:=
 ∀ (x:V) (u:Value) (aa:List (Addr×Obj)) (Hi:Hp) (si:Shared),x∈xs->ay x u->Inv X aa σ Hi si->af H1 Hi->si.heap.get? f=some fo ->
  wpAny (model X.prog X.w) A (call (.ref f) [u]) (EP X aa σ fun k H3=>k=.int (key x)/\af Hi H3) (fun _ _=>False) si
variable {P:PySem.Fin->Shared->Prop}{xs:List V}
theorem Gb {q:Addr}{us ys:Array Value} (e:h.get? q=some (seqObj "list" us n)):∃ c2,(h.update q (Obj.mapSeq fun _=>ys)).get? q=some (seqObj "list" ys c2):=⟨_,get?_update_seq e fun _=>ys⟩
theorem Ko {out:Array Value} (I:Inv X ((aa++[(D,seqObj "list" #[] e1)])++[(kS,seqObj "list" kA ek)]) σ H s) (iO:bv X (aa++[(D,seqObj "list" #[] e1)]) H1 kS) (gf:bv X aa H1 D) (sm:af H1 H)
  (hy:ys.length<=sizeLine) (vy:av ys out.toList):Inv X aa σ (upd H D (.lst ys)) { s with heap:=(s.heap.update kS (Obj.mapSeq fun _=>(#[]:Array Value))).update D (Obj.mapSeq fun _=>out) }/\af H1 (upd H D (.lst ys)) /\
   (s.heap.update kS (Obj.mapSeq fun _=>(#[]:Array Value))).get? D=some (seqObj "list" #[] e1):=by
 have pk:=I.pin (kS,seqObj "list" kA ek) (by simp);have pd:=I.pin (D,seqObj "list" #[] e1) (by simp);have ne:D≠kS:=iO.2.2.2.2.2 (D,seqObj "list" #[] e1) (by simp);have s1:=Heap.SameBut.update s.heap kS (Obj.mapSeq fun _=>(#[]:Array Value));have yG:(s.heap.update kS (Obj.mapSeq fun _=>(#[]:Array Value))).get? D=some (seqObj "list" #[] e1):=(s1.2 D ne).trans pd.1;have s2:=Heap.SameBut.update (s.heap.update kS (Obj.mapSeq fun _=>(#[]:Array Value))) D (Obj.mapSeq fun _=>out);have ex:=Gb (ys:=out) yG;have I1:Inv X aa σ H s:=I.pins_of fun p q=>I.pin p (Mr _ (MC _ (MC _ q)))
 obtain⟨_,f1,f2,f3,f4,f5⟩:=iO;have I2:=I1.turned (t':=s.toks) (h':=s.heap.update kS (Obj.mapSeq fun _=>(#[]:Array Value))) (fun b o z q=>(s1.2 b z).trans q) pk.2.1 f1 f3 f4 fun p q=>f5 p (by
  rcases List.mem_append.mp q with y|y
  ·exact MC _ y
  ·exact Mr _ (MC _ y))
 obtain⟨_,g1,g2,g3,g4,g5⟩:=gf;have new:bZ X.prog X.w (upd H D (.lst ys)) ((s.heap.update kS (Obj.mapSeq fun _=>(#[]:Array Value))).update D (Obj.mapSeq fun _=>out)) D (.lst ys):=by
  obtain⟨c2,od⟩:=ex;exact⟨hy,out.toList,c2,vy,by rw[Array.toArray_toList];exact od⟩
 refine⟨I2.adopt (t':=s.toks) ⟨pd.2.1,g1,g2,g3,g4,g5⟩ (fun b o z q=>(s2.2 b z).trans q) new,fun b u q=>?_,yG⟩;have q1:=sm b u q;rw[ak (aE q1 pd.2.1)];exact q1
theorem AD {st:SortSt} (rv:av xs vs) (gq:vs.length<64) (hk:IntsAre kA.toList (xs.map key))
  (I:Inv X ((aa++[(D,seqObj "list" #[] e1)])++[(kS,seqObj "list" kA ek)]) σ H s) (iO:bv X (aa++[(D,seqObj "list" #[] e1)]) H1 kS) (gf:bv X aa H1 D) (sm:af H1 H)
  (hp:(arrOf st).Perm (kA.zip vs.toArray)) (hs:SortedTo (arrOf st) (arrOf st).size) (ha:∀ c,aT c (arrOf st).toList=aT c (kA.zip vs.toArray).toList) (tY:failedOf st=none)
  (h:∀ H' s' ys,Inv X aa σ H' s'->af H1 H'->H' D=some (.lst ys)->iG key xs ys->P (.done (.ret .none)) s') :
  wpAny (model X.prog X.w) A (ksk_tail D false e1 (.ref kS) st) P E s:=by
 have pk:=(I.pin (kS,seqObj "list" kA ek) (by simp)).1;have az:=rv.length;have hsz:kA.size=vs.length:=by
  have h1:=hk.length;rw[ML,L9] at h1;omega
 have zi:(arrOf st).size=vs.length:=by rw[hp.size_eq,Array.size_zip,hsz,Mp,OL]
 obtain⟨vy,sy⟩:=HN rv hk hp hs ha;obtain⟨i1,i2,i3⟩:=Ko I iO gf sm (by rw[L9,ML,zi,Mh];omega) vy;have fin:=h _ _ _ i1 i2 ah sy;have zA:((arrOf st).map (·.2)).size<=sizeLine + 1:=by rw[Array.size_map,zi,Mh];omega
 clear i1 i2 vy sy h hs ha;unfold ksk_tail;dsimp only;generalize (arrOf st).map (·.2)=out at fin zA ⊢;refine l7 (listUpdate_at pk Y ?_ (by rw[hsz,Mh];omega) (MW _));apply l7;apply ND;apply l7;refine seqEpoch_at i3 Y ?_;rw[if_neg Mq];refine l7 (listUpdate_at i3 Y ?_ (MW _) zA);rw[tY];have nn:¬ ((e1 != e1)=true):=by simp
 first
 | (rw[if_neg nn];exact Mb fin)
 | (dsimp only;rw[if_neg nn];exact Mb fin)
 | (simp only[bne_self_eq_false,MY,if_false];exact Mb fin)
theorem II  (rv:av xs vs) (gq:vs.length<64) (hk:IntsAre kA.toList (xs.map key))
  (I:Inv X ((aa++[(D,seqObj "list" #[] e1)])++[(kS,seqObj "list" kA ek)]) σ H s) (iO:bv X (aa++[(D,seqObj "list" #[] e1)]) H1 kS) (gf:bv X aa H1 D) (sm:af H1 H)
  (h:∀ H' s' ys,Inv X aa σ H' s'->af H1 H'->H' D=some (.lst ys)->iG key xs ys->P (.done (.ret .none)) s') :
  wpAny (model X.prog X.w) A (ksk_end D false vs.toArray e1 (.ref kS) kA) P E s:=by
 have az:=rv.length;have hsz:kA.size=vs.length:=by
  have h1:=hk.length;rw[ML,L9] at h1;omega
 have Ls:(kA.zip vs.toArray).size=vs.length:=by rw[Array.size_zip,hsz,Mp,OL]
 unfold ksk_end;dsimp only;rw[if_neg Mq];by_cases h2:vs.toArray.size<2
 ·rw[if_pos h2,if_pos h2]
  apply l7;apply Mb;rw[StateT.run_pure];apply l7;apply Mb;dsimp only;refine AD (st:=SortSt.mk' general' (kA.zip vs.toArray) #[] 7 none) rv gq hk I iO gf sm (Array.Perm.refl _) ?_ (fun c=>rfl) Y h;intro i j a b;have b2:j<(kA.zip vs.toArray).size:=b;rw[Mp] at h2;obtain rfl:i=j:=by omega
  exact MX _
 ·rw[if_neg h2,if_neg h2]
  rw[Mp] at h2;rw[ksk_kind hk (by omega)];apply l7;apply Mb;apply l7;refine MV (FX (a₀:=kA.zip vs.toArray) (O:=(kA.zip vs.toArray).toList) (st:=SortSt.mk' oneType' (kA.zip vs.toArray) #[] 7 none)
   (Q:=fun _ aL=>(arrOf aL).Perm (kA.zip vs.toArray)/\failedOf aL=none/\SortedTo (arrOf aL) (kA.zip vs.toArray).size/\∀ c,aT c (arrOf aL).toList=aT c (kA.zip vs.toArray).toList)
   (ksk_intKeys hk) ⟨Array.Perm.refl _,rfl,rfl,rfl⟩ rfl (by omega) (by omega) fun aL a1 a2 a3 a4=>⟨a1,a2,a3,a4⟩) ?_ fun _ _ e=>e
  rintro⟨⟨⟩,aL⟩ s' ⟨rfl,y1,y2,y3,y4⟩
  dsimp only;exact AD rv gq hk I iO gf sm y1 (by rw[y1.size_eq];exact y3) y4 y2 h
theorem HU (kr:sH X A f fo σ H1 key xs) (rv:av xs vs) (gq:vs.length<64) (hf:(f,fo)∈aa)
  (I:Inv X ((aa++[(D,seqObj "list" #[] e1)])++[(kS,seqObj "list" #[] 0)]) σ H1 s) (iO:bv X (aa++[(D,seqObj "list" #[] e1)]) H1 kS) (gf:bv X aa H1 D)
  (h:∀ H' s' ys,Inv X aa σ H' s'->af H1 H'->H' D=some (.lst ys)->iG key xs ys->P (.done (.ret .none)) s') :
  wpAny (model X.prog X.w) A (ksk_rest D (.ref f) false vs.toArray e1 (.ref kS)) P E s:=by
 have az:=rv.length;unfold ksk_rest;apply l7;apply Nq;rw[<- Array.forIn_toList];simp only[List.toList_toArray]
 apply l7;refine ksk_fold (fun i s'=>∃ Hi kA ek,Inv X ((aa++[(D,seqObj "list" #[] e1)])++[(kS,seqObj "list" kA ek)]) σ Hi s'/\af H1 Hi/\IntsAre kA.toList ((xs.map key).take i)) vs 0 s ⟨H1,#[],0,I,af.refl _,.nil⟩ ?one ?all
 case one=>
  rintro j u s1 hu ⟨Hi,kA,ek,I1,sm,hk⟩
  simp only[OQ] at hk ⊢
  have hj:j<vs.length:=(List.getElem?_eq_some_iff.mp hu).1;have hx:xs[j]?=some xs[j]:=Mj (by omega);obtain⟨u',eQ,ru⟩:=rv.get hx;rw[hu] at eQ;cases eQ
  have pf:=I1.pin (f,fo) (Mr _ (MC _ (MC _ hf)));apply l7;apply Np;refine MV (kr xs[j] u _ Hi s1 (Nv _) ru I1 sm pf.1) (fun kv s2 hq=>?_) fun _ _ z=>z.elim
  obtain⟨k,H3,I3,rk,rfl,Ff⟩:=hq;obtain⟨t,rfl⟩:∃ t,kv=Value.int (key xs[j]) t:=rk;dsimp only;have pk:=I3.pin (kS,seqObj "list" kA ek) (by simp);have hz:kA.size<=vs.length:=by
   have z:=hk.length;rw[ML,Ml,L9] at z;omega
  have su:=Heap.SameBut.update s2.heap kS (Obj.mapSeq (·.push (Value.int (key xs[j]) t)));refine l7 (listUpdate_at pk.1 Y ?_ (by rw[Mh];omega) (MN (NN (Array.size_push ..)) (by rw[Mh];omega)));have I4:=I3.repin (t':=s2.toks) iO (fun b o z q=>(su.2 b z).trans q) (get?_update_seq pk.1 (·.push (Value.int (key xs[j]) t))) (by intro v z;cases z);refine Mb ⟨Y,H3,_,_,I4,sm.trans Ff,?_⟩;have D6:(xs.map key).take (j + 1)=(xs.map key).take j++[key xs[j]]:=by rw[NX,Mm,hx];rfl
  rw[D6,Array.toList_push];exact ksk_snoc hk
 case all=>
  rintro s1 ⟨Hi,kA,ek,I1,sm,hk⟩
  rw[show(xs.map key).take (0 + vs.length)=xs.map key from M8 (by rw[L9];omega)] at hk;have pk:=I1.pin (kS,seqObj "list" kA ek) (by simp);apply l7;refine listItems_at pk.1 Y ?_;exact II rv gq hk I1 iO gf sm h
theorem K1  (kr:sH X A f fo σ H1 key xs) (rv:av xs vs) (gq:vs.length<64) (hf:(f,fo)∈aa) (I:Inv X aa σ H1 s) (hD:s.heap.get? D=some (seqObj "list" vs.toArray n)) (gf:bv X aa H1 D)
  (h:∀ H' s' ys,Inv X aa σ H' s'->af H1 H'->H' D=some (.lst ys)->iG key xs ys->P (.done (.ret .none)) s') :
  wpAny (model X.prog X.w) A (ksk_tree D (.ref f) false) P E s:=by
 have lD:=Mc hD;have s1:=Heap.SameBut.update s.heap D (Obj.mapSeq fun _=>(#[]:Array Value));have oD:=get?_update_seq hD fun _=>(#[]:Array Value)
 obtain⟨f0,f1,f2,f3,f4,f5⟩:=id gf;have I1:=I.turned (t':=s.toks) (h':=s.heap.update D (Obj.mapSeq fun _=>(#[]:Array Value))) (fun b o z q=>(s1.2 b z).trans q) f0 f1 f3 f4 f5;unfold ksk_tree;apply l7;refine listItems_at hD Y ?_;refine l7 (listUpdate_at hD Y ?_ (by rw[Mp,Mh];omega) (MW _));apply l7;refine seqEpoch_at oD Y ?_;refine l7 (wpAny_newTuple ?_ (by show vs.length<=_;rw[Mh];omega));refine l7 (OA ?_ (MW _));refine MS ?_;have I2:Inv X aa σ H1 { s with heap:=((s.heap.update D (Obj.mapSeq fun _=>(#[]:Array Value))).push (seqObj "tuple" vs.toArray 0)).push (seqObj "list" #[] 0) }:=I1.kept (t':=s.toks) fun b o q=>Ma _ (Ma _ q)
 have hz:s.heap.objs.size<=((s.heap.update D (Obj.mapSeq fun _=>(#[]:Array Value))).push (seqObj "tuple" vs.toArray 0)).objs.size:=by rw[size_push',ON];omega
 have fk:bv X aa H1 ((s.heap.update D (Obj.mapSeq fun _=>(#[]:Array Value))).push (seqObj "tuple" vs.toArray 0)).objs.size:=I.fpOk hz (I.hok.fresh hz);refine HU (kS:=((s.heap.update D (Obj.mapSeq fun _=>(#[]:Array Value))).push (seqObj "tuple" vs.toArray 0)).objs.size) kr rv gq hf (I2.pins_of fun p hp=>?_) ?_ gf h
 ·rcases List.mem_append.mp hp with z|z
  ·rcases List.mem_append.mp z with y|y
   ·exact I2.pin p (Mr _ y)
   ·rw[List.mem_singleton.mp y]
    exact⟨Ma _ (Ma _ oD),f0,f1,f2,by intro v z;cases z⟩
  ·rw[List.mem_singleton.mp z]
   exact⟨Mi _ Y,fk.1,fk.2.1,fk.2.2.1,by intro v z;cases z⟩
 ·obtain⟨g0,g1,g2,g3,g4,g5⟩:=fk
  refine⟨g0,g1,g2,g3,g4,fun p hp=>?_⟩;rcases List.mem_append.mp hp with z|z
  ·exact g5 p (MC _ z)
  ·rcases List.mem_append.mp z with y|y
   ·exact g5 p (Mr _ y)
   ·rw[List.mem_singleton.mp y]
    exact Mn (Mv lD hz)
theorem KB  (kr:sH X X.A.in1.in1 f fo σ H key xs) (hl:SqL X.K H l xs) (gq:xs.length<64) (hf:(f,fo)∈aa) (I:Inv X aa σ H s)
  (h:∀ D H' s' ys,H D=none->Inv X aa σ H' s'->af H H'->H' D=some (.lst ys)->iG key xs ys->Q (.ref D) s') :
  wpAny (model X.prog X.w) X.A (call (.builtin "sorted") [.ref l] [(Str.ofString "key",.ref f)]) Q E s:=by
 obtain⟨vs,rv,pl,_⟩:=I.list hl;have az:=rv.length;refine call_function_entry_kw kind_sorted plain_sorted entry_sorted (ksk_s1 _ _) ?_;unfold Builtin.«sorted»;refine l7 (m:=checkCount "sorted" 1 1 _) (Mb ?_);refine l7 (collect_list pl.isList ?_ (by rw[Mh];omega));refine l7 (OA ?_ (by rw[Mh];omega));have hsz:((s.heap.push (seqObj "list" #[] 0)).update s.heap.objs.size (Obj.mapSeq (·++vs.toArray))).objs.size=s.heap.objs.size + 1:=by
  rw[ON,size_push']
 show wpAny _ _ _ _ _ { s with heap:=((s.heap.push (seqObj "list" #[] 0)).update s.heap.objs.size (Obj.mapSeq (·++vs.toArray))).push (seqObj "list" vs.toArray 0) };generalize hh:(s.heap.push (seqObj "list" #[] 0)).update s.heap.objs.size (Obj.mapSeq (·++vs.toArray))=g at hsz;have keep:∀ b o,s.heap.get? b=some o->(g.push (seqObj "list" vs.toArray 0)).get? b=some o:=fun b o q=>by
  have lt:=Mc q;subst hh;refine Ma _ ?_;rw[Heap.get?_update_ne _ _ _ _ (Mn lt),Heap.get?_push_ne _ _ _ (Mn lt)];exact q
 have oD:(g.push (seqObj "list" vs.toArray 0)).get? g.objs.size=some (seqObj "list" vs.toArray 0):=Mi _ rfl;have le:s.heap.objs.size<=g.objs.size:=by rw[hsz];exact M3 _
 have gf:bv X aa H g.objs.size:=I.fpOk le (I.hok.fresh le);have I1:Inv X aa σ H { s with heap:=g.push (seqObj "list" vs.toArray 0) }:=I.kept (t':=s.toks) keep;refine l7 (MS (wpAny_call_entry_kw slot_list_sort ⟨_,oD,Y⟩ entry_list_sort ?body (ksk_l1 _ _)))
 case body=>
  show wpAny (model X.prog X.w) X.A.in1.in1 (Builtin.«list.sort» ⟨[.ref g.objs.size],[(Str.ofString "key",.ref f)]⟩) _ _ _;rw[ksk_t1];refine K1 kr rv (by omega) hf I1 oD gf fun H' s' ys I' sm e st=>⟨_,Y,?_⟩
  exact Mb ⟨_,Y,h _ H' s' ys gf.1 I' sm e st⟩
end
def tSortK (K:PySem.W.Frag) (P:Addr) (fv:Pos) (qual:Str) (cap:List (Option Nat)) (ta:TA) (te:TE):TE:=fun σ H Q=>ta σ H fun us H1=>∃ (l:Addr) (xs:List V) (key:V->Int),us=[.ref l]/\SqL K H1 l xs/\xs.length<64/\H1 P=some (.tbl fv qual) /\
 (∀ x∈xs,∀ H2,af H1 H2->te (lamS cap σ x) H2 fun k H3=>k=.int (key x)/\af H2 H3)/\∀ D H' ys,H1 D=none->af H1 H'->H' D=some (.lst ys)->iG key xs ys->Q (.ref D) H'
theorem KF {a:Expr}{p bK fv:Pos}{c P:Addr}{k:Nat} (hg:Gl X "sorted") (hm:X.mg "sorted"=none) (hr:aZ k X.A) (ha:PA X [a] ta)
  (gh:X.env.code=.ref c) (hc:PySem.W.codeHdIn X.K c P=true) (ok:dk X.env.scope scope X.N N cap=true)
  (he:∀ f c' s H,PE (qT X scope N f (.ref c') X.A.in1.in1 s H) body te)
  (hx:N[0]?=some x:=by rfl) (hl:scope.names.lookup x=some .local:=by rfl) (pj:cap[0]?=some none:=by rfl)
  (vC:scope.isCoroutine=false:=by rfl) (lG:scope.isGenerator=false:=by rfl)
  (lY:defaultsOf params X.env=([],[]):=by rfl)
  (eD:∀ pm c' eN u,bindArgs (PySem.W.kla_fn "<lambda>" (lf X) params body scope (c7 X.env.cells scope.names []) pm (.ref c') eN) ⟨[u],[]⟩=pure [(x,u)]:=by intro _ _ _ _;rfl)
  (hs:backTo pos (starEach [a] X.env)=(false,eval a X.env)::backTo pos (starEach [] X.env):=by rfl) (hp:(backTo pos (starEach [a] X.env)).any (·.1)=false:=by rfl) (qp:(backToKw pos (keywordEach [⟨some "key",.Lambda params body scope fv,bK⟩] X.env)).all (·.1.isSome)=true:=by rfl)
  (qt:(backToKw pos (keywordEach [⟨some "key",.Lambda params body scope fv,bK⟩] X.env)).any (·.1.isNone)=false:=by rfl)
  (o4:∀ u:Value,((backToKw pos (keywordEach [⟨some "key",.Lambda params body scope fv,bK⟩] X.env)).filterMap (·.1)).zip [u]=[(Str.ofString "key",u)]:=by intro u;rfl) :
  PE X (.Call (.Name "sorted" p) [a] [⟨some "key",.Lambda params body scope fv,bK⟩] pos) (tSortK X.K P fv (lf X) cap ta te):=by
 intro aa s σ H Q I h;refine M4 (jk I hg hm Il ?_);refine PyProof.Rows.callWith_kw (thn (ha pos aa s σ H _ I h) fun us s1=>L2.ex5 fun vs H1 I1 r1 aX=>?_) hs hp qp qt;obtain⟨l,xs,key,e,q1,gq,hP,dI,fin⟩:=aX;subst e;obtain⟨u,rfl,ru⟩:=eV r1;obtain rfl:u=Value.ref l:=ru;refine PyProof.Rows.kws_cons (G0 I1 gh hc hP ok lY fun f c' pm eN H2 s2 I2 kB hsz DR EL lc=>PyProof.Rows.kws_nil ?_);rw[o4];have I3:Inv X (aa++[(f,tj X scope params body pm c' eN)]) σ H2 s2:=I2.pins_of fun q hq=>by
  rcases List.mem_append.mp hq with z|z
  ·exact I2.pin q (Mr _ z)
  ·rw[List.mem_singleton.mp z]
   exact⟨EL,DR,Nf (Mv I1.lt hsz),I1.nofs hsz,by intro v y;cases y⟩
 have kr:sH X X.A.in1.in1 f (tj X scope params body pm c' eN) σ H2 key xs:=by
  intro v u bI Hi si hv rv Ii zK C9;have uw:=JR (A:=X.A.in1.in1) (x:=x) (Q:=fun k H3=>k=.int (key v)/\af Hi H3) Ii Y Y hr.depth C9 (lc.mono zK) ok hx hl pj (eD pm c' eN u) vC lG rv (he f c' si Hi) (dI v hv Hi (kB.trans zK));refine NI (codeAny_mono uw fun r s' hq=>?_);obtain⟨u',rfl,ce⟩:=hq;exact Ii.after ce
 refine KB kr (kB.seq q1) gq (Mr _ (List.mem_singleton.mpr Y)) I3 fun D H' s' ys hD I' sm e st=>?_
 exact⟨.ref D,H',I'.pins_of fun q hq=>I'.pin q (Mr _ (MC _ hq)),Y,fin D H' ys (kB.free hD) (kB.trans sm) e st⟩
def tJ (K:PySem.W.Frag) (f:Addr):Option Value:=match K.lookup f with
 | some ⟨_,_,.func fd,_⟩=>some fd.code
 | _=>none
theorem JQ {K:PySem.W.Frag}{c:Addr}{sl:Array (Option Value)} (l:K.lookup f=some ⟨oc,od,.func fd,sl⟩) (h:fd.code=.ref c):tJ K f=some (.ref c):=by
 unfold tJ;rw[l];exact congrArg some h
structure xb (K:PySem.W.Frag) (f P:Addr):Prop where
 ex:∃ c,tJ K f=some (.ref c)/\PySem.W.codeHdIn K c P=true
 no:K.lookup P=none
structure wJ (K:PySem.W.Frag) (mg:Str->Option Value) (x:Str) (P:Addr):Prop where
 ex:∃ f,mg x=some (.ref f)/\xb K f P
section
variable {K:PySem.W.Frag}
theorem dR.okL {TP:Addr}{k:Nat} (F:dR K x qual st f fd) (L:xb K f TP) (S:aN N ps (aA st)) (len:∀ vs H Q E,sp vs H Q E->vs.length=ps.length)
  (cF:∀ (c:Addr) (A:Around) (outer:List Env) (s:Shared) (H:Hp) (vs:List V) (Q:VK) (E:XK),PySem.W.codeHdIn K c TP=true->aZ k (A.deeper (envOfC qual (aA st) s.heap.objs.size f (.ref c)))->sp vs H Q E ->
   ∃ t,PSs (iK CX0 P w K mg base N qual (aA st) f (.ref c) A outer s H E).nox (jh st) t/\t { nx:=fun _ H'=>Q .non H',rt:=Q } (jf N vs) H):bX P w K mg base CX0 (k + 1) f fd ps sp:=by
 obtain⟨oc,od,dV,kV,bF,pm,an,aw,ct,cX,rfl,lk,eM⟩:=F.ex;obtain⟨c,e1,e2⟩:=L.ex;have e:aw=.ref c:=by
  unfold tJ at e1;rw[lk] at e1;exact Option.some.inj e1
 subst e;refine xx lk eM S len fun A outer s H vs Q E hr gK=>?_
 obtain⟨t,h,q⟩:=cF c A outer s H vs Q E e2 hr gK;exact⟨t,h.nox,q⟩
theorem Def.calL {k:Nat}{TP:Addr} (D:Def K mg x st ps aI) (L:wJ K mg x TP) (h:∀ f fd,dR K x x st f fd->xb K f TP->bX P w K mg base CX k f fd ps sp):Cal P w K mg base CX k x ps aI sp:=by
 obtain⟨f,fd,ds,F,e,r⟩:=D.ex;obtain⟨f',e',l⟩:=L.ex;rw[e] at e';cases e'
 exact⟨f,fd,ds,h f fd F l,e,r⟩
end
abbrev Tab:=Addr×Pos×Str
def rn (ts:List Tab) (H:Hp):Prop:=(∀ t∈ts,H t.1=some (.tbl t.2.1 t.2.2))/\∀ b u,H b=some u->(∃ o xs,u=.frz o (.lst xs))\/∃ t∈ts,b=t.1/\u=.tbl t.2.1 t.2.2
def m4:List Tab->Hp->Hp
 | [],H=>H
 | t::ts,H=>upd (m4 ts H) t.1 (.tbl t.2.1 t.2.2)
theorem xf:∀ {ts:List Tab}{H:Hp},(ts.map (·.1)).Nodup->∀ t∈ts,m4 ts H t.1=some (.tbl t.2.1 t.2.2)
 | [],_,_,t,h=>by simp at h
 | q::ts,H,nd,t,h=>by
  rcases M5.mp h with z|z
  ·rw[z];exact ah
  ·have n:t.1≠q.1:=fun y=>(List.nodup_cons.mp (show(q.1::ts.map (·.1)).Nodup from nd)).1 (List.mem_map.mpr ⟨t,z,y⟩)
   show upd _ _ _ _=_;rw[ak n];exact xf (List.nodup_cons.mp nd).2 t z
theorem xh:∀ {ts:List Tab}{H:Hp}{b:Addr}{u:HO},m4 ts H b=some u->H b=some u\/∃ t∈ts,b=t.1/\u=.tbl t.2.1 t.2.2
 | [],_,_,_,h=>.inl h
 | q::ts,H,b,u,h=>by
  have h:upd (m4 ts H) q.1 (.tbl q.2.1 q.2.2) b=some u:=h;by_cases z:b=q.1
  ·rw[z,ah] at h
   exact .inr ⟨q,Ms,z,(Option.some.inj h).symm⟩
  ·rw[ak z] at h
   rcases xh h with y|⟨t,h1,h2⟩
   ·exact .inl y
   ·exact .inr ⟨t,Mo _ h1,h2⟩
theorem Cf:∀ {ts:List Tab}{H:Hp}{b:Addr},(∀ t∈ts,b≠t.1)->m4 ts H b=H b
 | [],_,_,_=>rfl
 | q::ts,H,b,h=>by
  show upd _ _ _ _=_;rw[ak (h q Ms)];exact Cf fun t ht=>h t (Mo _ ht)
theorem IU {K:PySem.W.Frag}{mb:Str->Option Value}{k:Nat}{fa:Addr}{s₁:Shared}{ts:List Tab}
  (KX:K.In s₁.heap) (rY:s₁.heap.Ns mainGlobals mg) (hb:s₁.heap.Ns builtinsNs mb) (Ej:∀ x:Str,x≠"__name__"->mb x=bootBuiltins x) (vG:s₁.heap.NoLimit)
  (Ey:∃ bm ob,mg "__builtins__"=some (.ref bm)/\bm≠builtinsNs/\s₁.heap.get? bm=some ob/\ob.cls=.type "module"/\ob.dict=some builtinsNs/\ob.data=.plain) (hg:s₁.gens=#[])
  (ha:s₁.heap.get? a=some { cls:=.type "list",data:=.seq vs.toArray }) (hi:IntsAre vs ns) (hl:ns.length<=sizeLine) (hr:aZ k callerA)
  (nd:(ts.map (·.1)).Nodup) (pE:∀ t∈ts,s₁.heap.get? t.1=some (PySem.W.tabObj #[])/\(∃ c,PySem.W.codeHdIn K c t.1=true)/\K.lookup t.1=none)
  (F:∀ base:Heap,K.In base->base.Ns mainGlobals mg->bX P w K mg base CX k fa fd [x] sp) (eD:∀ (s:Shared) (u:Value),BindsTo s fd ⟨[u],[]⟩ [(x,u)])
  (gK:∀ H:Hp,rn ts H->SqL K H a (ns.map V.int)->sp [.ref a] H (fun v _=>v=.bl true) fun _ _ _=>False)
  (C3:∀ H e s',CX [] H s₁ (fun _ _ _=>False) e s'->False) :
  codeAny (model P w) callerA (.call (.ref fa) ⟨[.ref a],[]⟩) (fun r s'=>r=.ok (.ret (.bool true))/\OldK s₁.heap s'.heap/\s'.os=s₁.os/\AllBare s'.gens) s₁:=by
 have rv:=BP hi;have uP:=hi.length;have pH:∀ H:Hp,(∀ t∈ts,H t.1=some (.tbl t.2.1 t.2.2))->(∀ b u,H b=some u->(b=a/\K.lookup a=none/\u=.frz { cls:=.type "list",data:=.seq vs.toArray } (.lst (ns.map V.int)))\/∃ t∈ts,b=t.1/\u=.tbl t.2.1 t.2.2)->SqL K H a (ns.map V.int) ->
   codeAny (model P w) callerA (.call (.ref fa) ⟨[.ref a],[]⟩) (fun r s'=>r=.ok (.ret (.bool true))/\OldK s₁.heap s'.heap/\s'.os=s₁.os/\AllBare s'.gens) s₁:=by
  intro H h1 h2 hS;have hO:rn ts H:=⟨h1,fun b u q=>(h2 b u q).elim (fun z=>.inl ⟨_,_,z.2.2⟩) .inr⟩;have hok:HOk P w H s₁.heap:=fun b u q=>by
   rcases h2 b u q with⟨rfl,_,rfl⟩|⟨t,ht,rfl,rfl⟩
   ·exact⟨ha,by rw[L9];exact hl,vs,_,rv,ha⟩
   ·exact .inl (pE t ht).1
  have free:∀ {b:Addr}{o:Obj},s₁.heap.get? b=some o->(∀ xs n,o.data≠.seq xs n)->(∀ xs,o.data≠.fields xs)->H b=none:=fun {b o} e n1 n2=>by
   cases q:H b with
   | none=>rfl
   | some u=>
    rcases h2 b u q with⟨rfl,_,_⟩|⟨t,ht,rfl,_⟩
    ·rw[ha] at e;cases e
     exact(n1 _ _ Y).elim
    ·rw[(pE t ht).1] at e;cases e
     exact(n2 _ Y).elim
  have rG:∀ {b:Addr}{m:Str->Option Value},s₁.heap.Ns b m->(lq s₁.heap H).Ns b m:=fun {b m} ⟨o,es,ep,e,d,r⟩=>⟨o,es,ep,wP e (free e (by rw[d];intro _ _ z;cases z) (by rw[d];intro _ z;cases z)),d,r⟩
  have yE:K.In (lq s₁.heap H):=fun b o e=>wP (KX b o e) (by
   cases q:H b with
   | none=>rfl
   | some u=>
    rcases h2 b u q with⟨rfl,z,_⟩|⟨t,ht,rfl,_⟩
    ·rw[z] at e;cases e
    ·rw[(pE t ht).2.2] at e;cases e)
  have hM:Mod K mg (lq s₁.heap H):=⟨yE,rG rY,⟨mb,rG hb,Ej⟩,let ⟨mc,y1,y2⟩:=vG;⟨mc,rG y1,y2⟩,by
   obtain⟨bm,ob,a1,a2,a3,a4,a5,a6⟩:=Ey;exact⟨bm,ob,a1,a2,wP a3 (free a3 (by rw[a6];intro _ _ z;cases z) (by rw[a6];intro _ z;cases z)),a4,a5,a6⟩⟩
  have e0:mI P w K mg (lq s₁.heap H) callerA [] s₁ H:=⟨Y,hM,fun b o e=>Kg e,NN (JM _ _),trivial,fun b hb=>absurd (show b∈([]:List Addr) from hb) (by simp),hok,.of_eq hg,.inl rfl⟩;refine codeAny_mono ((F _ yE (rG rY)).run callerA [] s₁ H ⟨[.ref a],[]⟩ [.ref a] [.ref a] _ _ hr e0 (eD s₁ (.ref a)) (.cons Y .nil) (gK H hO hS)) fun r s' h=>?_
  cases r with
  | error e=>exact(C3 H e s' h).elim
  | ok fl=>
   cases fl with
   | next=>exact False.elim h
   | brk=>exact False.elim h
   | cont=>exact False.elim h
   | ret u=>
    obtain⟨v,H',os,bare,un,qd,r',q⟩:=h;have q':v=.bl true:=q;subst q';obtain rfl:u=Value.bool true:=r';have no:∀ b:Addr,b∉frs []:=fun b z=>absurd (show b∈([]:List Addr) from z) (by simp)
    refine⟨Y,⟨fun b o e=>?_,fun b o e=>un.there b o e (by simp)⟩,os,bare⟩;cases q:H b with
    | none=>exact .inl (un.keep b o e q (no b) (by simp))
    | some u=>
     rcases h2 b u q with⟨rfl,_,rfl⟩|⟨t,ht,rfl,rfl⟩
     ·obtain⟨y1,_⟩:=hok _ _ q
      obtain⟨y2,_⟩:=qd _ _ (un.frzs _ _ _ q);rw[e] at y1;cases y1
      exact .inl y2
     ·obtain⟨g1,⟨c,g2⟩,_⟩:=pE t ht
      rw[e] at g1;cases g1
      rcases qd _ _ (un.tbls _ _ _ q) with y|⟨c',oc,xs,tt,_,_,_,y⟩
      ·exact .inl y
      ·exact .inr (.inl ⟨((PySem.W.codeHd_of_K KX g2).tab e).isCodeTable,Y,#[],#[rawInt t.2.1.line,rawInt t.2.1.col,.ref c'],Y,y⟩)
 have apart:∀ t∈ts,a≠t.1:=fun t ht z=>by
  have y:=(pE t ht).1;rw[<- z,ha] at y;cases y
 cases hk:K.lookup a with
 | some o=>
  have e:=KX a o hk;rw[ha] at e;cases e
  refine pH (m4 ts fun _=>none) (xf nd) (fun b u q=>.inr ((xh q).elim (fun z=>by cases z) id)) (.inr ⟨_,vs.toArray,_,hk,rfl,rfl,rfl,by rw[Mp,uP];exact hl,by simpa using rv⟩)
 | none=>
  refine pH (m4 ts (upd (fun _=>none) a (.frz { cls:=.type "list",data:=.seq vs.toArray } (.lst (ns.map V.int))))) (xf nd) (fun b u q=>?_) (.inl (.inr ⟨_,by rw[Cf apart];exact ah⟩));rcases xh q with z|z
  ·by_cases y:b=a
   ·rw[y,ah] at z
    exact .inl ⟨y,hk,(Option.some.inj z).symm⟩
   ·rw[ak y] at z;cases z
  ·exact .inr z
theorem zlL {l:PySem.W.OpenLaw}{k:Nat}{c9:List Str}{XP:(Str->Option Value)->Heap->Prop}{YP:World->Heap->Prop}{d:DefRec}{K:Params->PySem.W.Frag}{TS:List Addr}
  (hn:l.most=some n) (iz:n<=sizeLine) (ke:d.params.defaults=[]) (hr:aZ k callerA)
  (hY:∀ (w:World) (h:Heap),YP w h->(K w.params).In h/\∀ P∈TS,h.get? P=some (PySem.W.tabObj #[]))
  (F:∀ (w:World) (mg:Str->Option Value) (fa:Addr) (h:Heap),(K w.params).In h->h.Ns mainGlobals mg->mg d.name=some (.ref fa) ->
   ∃ (fd:FuncData) (ts:List Tab) (sp:Sp),(∀ (s:Shared) (u:Value),BindsTo s fd ⟨[u],[]⟩ [(x,u)])/\(ts.map (·.1)).Nodup/\(∀ t∈ts,t.1∈TS/\(∃ c,PySem.W.codeHdIn (K w.params) c t.1=true)/\(K w.params).lookup t.1=none) /\
    (∀ (H:Hp) (a:Addr) (ns:List Int),ns.length<=n->rn ts H->SqL (K w.params) H a (ns.map V.int)->sp [.ref a] H (fun v _=>v=.bl true) fun _ _ _=>False) /\
    ∀ base:Heap,(K w.params).In base->base.Ns mainGlobals mg->bX l.prog w (K w.params) mg base CX0 k fa fd [x] sp) :
  PySem.W.WalkO q c9 XP YP l.row.toRowW d [] (fun f vs=>PySem.call f vs):=by
 refine Att.zhv hn ke fun w s₀ s₁ mg mb fa o pm cd bF a vs ns G U0 ho hd eM p6 lN g6 az hg=>?_
 obtain⟨KX,tb⟩:=hY w _ U0;obtain⟨fd,ts,sp,hb,nd,ht,gK,hF⟩:=F w mg fa _ KX G.T.g p6;exact IU KX G.T.g G.T.b G.T.builtins G.T.nolimit G.T.bmain hg lN g6 (MN az iz) hr nd (fun t m=>⟨tb _ (ht t m).1,(ht t m).2⟩) hF hb (fun H hO hS=>gK H a ns az hO hS) fun H e s' z=>z
section
variable {a b:Expr}{aW:List Expr}{ta tb:TE}
def dOf:V->Dt
 | .int i=>.int i
 | _=>.non
end
section
variable {it:Addr}{es:Array DictEntry}
def gP (kvs:List (Key×V)):List V:=kvs.map fun p=>kV p.1
end
def rng (n:Nat):List V:=(List.range n).map fun i=>V.int (i:Nat)
structure DApart (z TI TO i1 i2 l1 l2 d:Addr):Prop where
 z:z≠d
 TI:TI≠d
 TO:TO≠d
 i1:i1≠d
 i2:i2≠d
 l1:l1≠d
 l2:l2≠d
section
variable {κ:Type} [DecidableEq κ] {knd:KeyKind prog w κ}
end
section
variable {κ:Type} [DecidableEq κ] {knd:KeyKind prog w κ}
end
section
variable {κ:Type} [DecidableEq κ] {knd:KeyKind prog w κ}
end
theorem aN.of {P:List Str}{sc:Scope} (h:sc.kind=.function/\sc.isCoroutine=false/\sc.isGenerator=false/\N.Nodup/\N.take P.length=P/\(∀ x∈P,sc.names.lookup x=some .local\/sc.names.lookup x=some .cell)/\∀ y∈sc.names,y.2≠.free):aN N P sc:=⟨h.1,h.2.1,h.2.2.1,h.2.2.2.1,h.2.2.2.2.1,h.2.2.2.2.2.1,h.2.2.2.2.2.2⟩
section
variable {K:PySem.W.Frag}{m:Str}{cL TP:Addr}{EC:Value}{an FH:Option Addr}{Fo:Array (Option Value)}{kV bF aw:Value}{vs:Array Value}
abbrev fnN (x qual:Str) (st:Stmt) (kV bF pm:Value) (an:Option Addr) (aw ct:Value):FuncData:=PySem.W.fnOf x qual (mX st) (jh st) (aA st) .none kV bF pm an aw ct
theorem def_mk (X:K.In h) (G:h.Ns mainGlobals mg) (a:PySem.W.nsIn K mainGlobals x=some (some (.ref f))) (l:K.lookup f=some ⟨oc,od,.func (fnN x x st kV bF pm an aw ct),cX⟩) (c:PySem.W.codeIn K aw x=true) (k:PySem.W.keepIn K (.ref f)=true)
  (b:∀ us:List Value,us.length=ps.length->bindArgs (fnN x x st kV bF pm an aw ct) ⟨us,[]⟩=pure (ps.zip us)):Def K mg x st ps []:=⟨⟨_,_,[],oy l c,PySem.W.mg_of X G a,k,.all b,.nil⟩⟩
theorem met_mk (a:PySem.W.findIn K (.ref C) m=some (some (.ref f))) (i:PySem.W.isFn K (.ref f)=true) (l:K.lookup f=some ⟨oc,od,.func (fnN m qual st kV bF pm an aw ct),cX⟩) (c:PySem.W.codeIn K aw qual=true) (k:PySem.W.keepIn K (.ref f)=true)
  (b:∀ us:List Value,us.length=ps.length->bindArgs (fnN m qual st kV bF pm an aw ct) ⟨us,[]⟩=pure (ps.zip us)):Met K C m qual st ps []:=⟨⟨f,_,[],oy l c,⟨a,i,k⟩,.all b,.nil⟩⟩
theorem zhF {Tt:Addr}{yU:Value}{zv:Array (Option Value)}{D:Array Value} (a:PySem.W.findIn K (.ref C) m=some (some (.ref f))) (i:PySem.W.isFn K (.ref f)=true) (l:K.lookup f=some ⟨oc,od,.func (PySem.W.fnOf m qual (mX st) (jh st) (aA st) (.ref Tt) kV bF pm an aw ct),cX⟩) (c:PySem.W.codeIn K aw qual=true) (k:PySem.W.keepIn K (.ref f)=true) (td:K.lookup Tt=some ⟨yU,ye,.seq D nT,zv⟩) (v:av aI ds)
  (b:K.lookup Tt=some ⟨yU,ye,.seq D nT,zv⟩->dc K (PySem.W.fnOf m qual (mX st) (jh st) (aA st) (.ref Tt) kV bF pm an aw ct) ps ds):Met K C m qual st ps aI:=⟨⟨f,_,ds,oy l c,⟨a,i,k⟩,b td,v⟩⟩
theorem vals1i {i:Int}:av [.int i] [.int i t]:=.cons ⟨t,Y⟩ .nil
theorem vals2i {i j:Int}{u:Tok}:av [.int i,.int j] [.int i t,.int j u]:=.cons ⟨t,Y⟩ (.cons ⟨u,Y⟩ .nil)
theorem ini_mk (X:K.In h) (G:h.Ns mainGlobals mg) (g:PySem.W.nsIn K mainGlobals x=some (some (.ref C))) (mk:PySem.W.makesIn K C=true) (kc:PySem.W.keepIn K (.ref C)=true) (a:PySem.W.findIn K (.ref C) "__init__"=some (some (.ref f))) (i:PySem.W.isFn K (.ref f)=true) (l:K.lookup f=some ⟨oc,od,.func (fnN "__init__" qual st kV bF pm an aw ct),cX⟩) (c:PySem.W.codeIn K aw qual=true)
  (b:∀ us:List Value,us.length=ps.length->bindArgs (fnN "__init__" qual st kV bF pm an aw ct) ⟨us,[]⟩=pure (ps.zip us)):Ini K mg C x qual st ps:=⟨⟨f,_,oy l c,⟨mk,a,i,kc⟩,PySem.W.mg_of X G g,.all b⟩⟩
theorem znp (X:K.In h) (G:h.Ns mainGlobals mg) (g:PySem.W.nsIn K mainGlobals x=some (some (.ref C))) (xa:qG K C bmV "ValueError.__new__"=true) (kc:PySem.W.keepIn K (.ref C)=true) (a:PySem.W.findIn K (.ref C) "__init__"=some (some (.ref f))) (i:PySem.W.isFn K (.ref f)=true) (l:K.lookup f=some ⟨oc,od,.func (fnN "__init__" qual st kV bF pm an aw ct),cX⟩) (c:PySem.W.codeIn K aw qual=true)
  (b:∀ us:List Value,us.length=ps.length->bindArgs (fnN "__init__" qual st kV bF pm an aw ct) ⟨us,[]⟩=pure (ps.zip us)):XIni K mg C x qual st ps:=⟨⟨f,_,oy l c,⟨xa,kc,a,i⟩,PySem.W.mg_of X G g,.all b⟩⟩
theorem int_mk {n:Int} (X:K.In h) (G:h.Ns mainGlobals mg) (a:PySem.W.nsIn K mainGlobals x=some (some (.int n t))):∃ t,mg x=some (.int n t):=⟨t,PySem.W.mg_of X G a⟩
theorem str_mk {n:Str} (X:K.In h) (G:h.Ns mainGlobals mg) (a:PySem.W.nsIn K mainGlobals x=some (some (.str n t))):∃ t,mg x=some (.str n t):=⟨t,PySem.W.mg_of X G a⟩
theorem lam_mk  (X:K.In h) (G:h.Ns mainGlobals mg) (a:PySem.W.nsIn K mainGlobals x=some (some (.ref f))) (l:K.lookup f=some ⟨oc,od,.func fd,cX⟩) (lc:fd.code=.ref cL) (lk:K.lookup cL=some ⟨EC,FH,.fields vs,Fo⟩) (lt:vs[11]?=some (.ref TP)) (lh:PySem.W.codeHdIn K cL TP=true) (ln:K.lookup TP=none):wJ K mg x TP:=⟨⟨f,PySem.W.mg_of X G a,⟨cL,JQ l lc,lh⟩,ln⟩⟩
end
section
open PySem.SeqAt
open AutoSeq1 (wpAny_loadPart')
end
section
variable {κ:Type} [DecidableEq κ] {knd:KeyKind prog w κ}
theorem Ji  (hc:HdC A cs) (ch:Chn s.heap cs) (ho:s.heap.get? l=some ol) (pC:ol.cls=.type "list") (nU:ol.dict=none) (ko:ol.data=.seq ac nn) (hz:ac.size<=1000)
  (ks:Nat->κ) (vs:Nat->Value) (kvs:Nat->List (κ×Value)) (h0:s.heap.DictOf knd d (kvs 0)) (hs:∀ i,kvs (i + 1)=stored (kvs i) (ks i) (vs i)) (hl:∀ i,(kvs i).length<=i + 1000)
  (lQ:∀ i v,ac[i]?=some v->∃ t key,v=.ref t/\s.heap.IsTuple t #[key,vs i]/\knd.is (ks i) key=true)
  (h:∀ h' tk,h'.DictOf knd d (kvs ac.size)->(∀ b o,b≠d->s.heap.get? b=some o->h'.get? b=some o)->Q .none { s with heap:=h',toks:=tk }) :
  wpAny (model prog w) A (call (.builtin "dict.update") [.ref d,.ref l]) Q E s:=by
 have dl:d<s.heap.objs.size:=let ⟨_,_,_,hg,_⟩:=h0;Mc hg
 have ll:l<s.heap.objs.size:=Mc ho;have CZ:d≠l:=fun z=>by
  obtain⟨o,es,ep,hg,_,hd,_⟩:=h0;rw[z,ho] at hg;cases hg
  rw[ko] at hd;cases hd
 have Fy:∀ t is,s.heap.IsTuple t is->t≠d:=fun t is ht z=>by
  obtain⟨ot,j9,_,_,e2⟩:=ht;obtain⟨o,es,ep,hg,_,hd,_⟩:=h0;rw[z,hg] at j9;cases j9
  rw[hd] at e2;cases e2
 have Dw:d∉cs:=fun z=>by
  obtain⟨j,hj⟩:=List.mem_iff_getElem?.mp z;obtain⟨o,vs,e1,e2,_⟩:=ch.2 j d hj;obtain⟨o',es,ep,hg,_,hd,_⟩:=h0;rw[e1] at hg;cases hg
  rw[e2] at hd;cases hd
 have lt:∀ b∈cs,b<s.heap.objs.size:=ch.lt;refine NI (codeAny_call_builtin F.slot_dict_update.plain F.entry_dict_update (F.slot_dict_update.check _ _ _ _ _ _ _ _ h0.typeIs (F.args_dict_update_2 _ _) ?_));unfold Builtin.«dict.update»;refine l7 ?_;unfold Builtin.Dict.selfAndRest;refine l7 (wpAny_notOrdered_dict h0.typeIs ?_);show wpAny _ _ (pure (d,[Value.ref l])) _ _ _;refine Mb ?_;show wpAny _ _ (Builtin.Dict.updateFrom "dict.update" d (.ref l) [] .none) _ _ _;unfold Builtin.Dict.updateFrom;have hT:Shared.TypeIs s (.ref l) "list":=⟨_,ho,pC⟩;refine l7 (Ol hT ?_);rw[if_pos (by decide)];refine l7 ?_;refine J1 (HdC.hd (A:=A.in1) hc ch) ho pC nU ko fun h2 vO k2=>?_
 have mB:=k2 _ _ ho;have kh:h2.IsList l ac:=⟨_,mB,pC,nn,ko⟩;have yT:Chn h2 cs:=ch.mono fun b o _ e=>k2 b o e
 rw[if_pos (show(none:Option Value).isNone=true from rfl)];refine l7 (Nq ?_);refine l7 (NB kh ?_);have rQ:∀ b o,s.heap.get? b=some o->b<h2.objs.size:=fun b o e=>Mc (k2 _ _ e)
 have lZ:d<h2.objs.size:=let ⟨_,_,_,hg,_⟩:=h0;rQ _ _ hg
 have FC:l<h2.objs.size:=rQ _ _ ho;have vW:∀ b∈cs,b<h2.objs.size:=yT.lt;have W:=(qS (prog:=prog) (w:=w) (A:=A.in1) hc h2.objs.size l (Mn FC) (fun z=>absurd (vW _ z) (MF _)) ac).toS;refine Mb ⟨plainId_quiet sE _,JP (knd:=knd) (A:=A) W (fun z=>?_) hz _ ks vs kvs .none (fun i v hv=>?_) hs hl (ac.size - 0) 0 _ Y (MW _) ⟨⟨_,Mi _ Y,Y,Y⟩,kh.push _,yT.mono fun b o _ e=>Ma _ e⟩ ⟨fun _ _ _ e=>e,W.grefl _,Y,Y,Md _⟩ ?_ fun s' hm hD=>?_⟩
 ·rcases M5.mp z with z|z
  ·exact absurd z (Mn lZ)
  ·rcases M5.mp z with z|z
   ·exact CZ z
   ·exact Dw z
 ·obtain⟨t,key,e1,⟨ot,j9,r⟩,hk⟩:=lQ i v hv
  refine⟨t,key,e1,⟨ot,Ma _ (k2 _ _ j9),r⟩,fun z=>?_,hk⟩;rcases M5.mp z with z|z
  ·exact Fy t _ ⟨ot,j9,r⟩ z
  ·exact absurd (List.mem_singleton.mp z) (Mn (rQ _ _ j9))
 ·obtain⟨o,es,ep,hg,aW⟩:=h0
  exact⟨o,es,ep,Ma _ (k2 _ _ hg),aW⟩
 ·obtain⟨h',g',d',oQ,rC⟩:=s'
  have eg:g'=s.gens:=hm.gens;have ed:d'=s.drawn:=hm.drawn;have eo:rC=s.os:=hm.os;subst eg;subst ed;subst eo
  refine h h' oQ hD fun b o nb e=>hm.heap b o (fun z=>?_) (Ma _ (k2 _ _ e))
  rcases M5.mp z with z|z
  ·exact nb z
  ·exact absurd (List.mem_singleton.mp z) (Mn (rQ _ _ e))
end
def stU (b us:List (Key×Value)):Nat->List (Key×Value)
 | 0=>b
 | i + 1=>stored (stU b us i) (us.getD i (Sum.inl 0,.none)).1 (us.getD i (Sum.inl 0,.none)).2
theorem BG (b us:List (Key×Value)):∀ i,(stU b us i).length<=i + b.length
 | 0=>by show b.length<=_;omega
 | i + 1=>MN (stored_length_le _ _ _) (by have:=BG b us i;omega)
theorem Ah {m kvs:List (Key×V)}{b us:List (Key×Value)} (h0:KV m b) (h:∀ i kv,kvs[i]?=some kv->kv.1=(us.getD i (Sum.inl 0,.none)).1/\ay kv.2 (us.getD i (Sum.inl 0,.none)).2):∀ i,i<=kvs.length->KV ((kvs.take i).foldl fJ m) (stU b us i)
 | 0,_=>by rw[NV];exact h0
 | i + 1,hi=>by
  obtain⟨kv,hk⟩:∃ kv,kvs[i]?=some kv:=⟨_,Mj (by omega)⟩;obtain⟨e1,e2⟩:=h i kv hk;have ih:=Ah h0 h i (by omega);rw[NX,hk,NY];show KV (fJ ((kvs.take i).foldl fJ m) kv) (stored (stU b us i) _ _);rw[<- e1];exact ih.put _ e2
def IK (K:PySem.W.Frag):V->List V->Hp->VK->Prop:=fun x vs H Q=>∃ d p gv ys kvs,x=.ref d/\vs=[.ref p]/\H d=some (.dK gv)/\SqL K H p ys/\i8 K H kvs ys/\gv.length<=1000/\kvs.length<=1000/\Q .non (upd H d (.dK (kvs.foldl fJ gv)))
theorem Bw:MtR X "dict.update" (IK X.K):=by
 intro aa s σ H x xs v us Q I rx r h;obtain⟨d,p,gv,ys,kvs,rfl,rfl,e,hq,hP,Fa,az,q⟩:=h;obtain rfl:v=Value.ref d:=rx;obtain⟨u,rfl,ru⟩:=eV r;obtain rfl:u=Value.ref p:=ru;obtain⟨z,hd,vs,rel,dd⟩:=jF I.hok e;obtain⟨ac,rv,⟨ol,nn,e1,e2,e3,e4⟩,_⟩:=I.list hq;obtain⟨us,l1,l2,p1,p2⟩:=Ci I hP rv;obtain⟨cs,dH,ch⟩:=I.hd.chain;have hz:ac.toArray.size=kvs.length:=by simp[l2,l1]
 have lv:vs.length<=1000:=by rw[<- rel.length];exact Fa
 refine Ji (knd:=cf X.prog X.w) dH ch e1 e2 e3 e4 (by rw[hz];exact az) (fun i=>(us.getD i (Sum.inl 0,.none)).1) (fun i=>(us.getD i (Sum.inl 0,.none)).2) (stU vs us) dd (fun _=>Y) (fun i=>MN (BG vs us i) (by omega)) (fun i v hv=>p1 i v (by simpa using hv)) fun h' tk hD hk=>?_
 have pi:=Ah rel p2 kvs.length (Md _);rw[Mu] at pi;rw[hz] at hD;have kh:(kvs.foldl fJ gv).length<=sizeLine:=by
  have:=mkD_len kvs gv;rw[Mh];omega
 have he:∃ q,h'.get? d=some q:=let ⟨q,_,_,hq,_⟩:=hD;⟨q,hq⟩
 exact⟨.non,_,I.write (x:=d) (e:=d) (t':=tk) (by rw[e];exact True.intro) (.inl rfl) (fun b o nb z=>hk b o nb z) he (sP kh hd pi hD),Y,q⟩
def rPart:V->List V->Hp->VK->Prop:=fun x vs H Q=>∃ a b:Str,x=.str a/\vs=[.str b]/\(b.length == 0)=false/\a.length<=sizeLine/\∀ t,H t=none->Q (.ref t) (upd H t (.tup [.str (Txt.partition a b).1,.str (Txt.partition a b).2.1,.str (Txt.partition a b).2.2]))
theorem KY:MtR X "str.partition" rPart:=by
 intro aa s σ H x xs v us Q I rx r h;obtain⟨a,b,rfl,rfl,hb,ha,q⟩:=h;obtain⟨t,rfl⟩:=rx;obtain⟨u,rfl,t',rfl⟩:=eV r;have q':=q s.heap.objs.size (I.hok.fresh (Md _));refine call_meets F.slot_str_partition (typeIs_str _ _ _) F.entry_str_partition (F.args_str_partition_2 _ _) (meets_str_partition a b t t' hb ha) ?_;unfold Txt.partition at q'
 revert q'
 cases Builtin.Str.occurrences a b 0 a.length 1 with
 | nil=>exact fun q'=>⟨.ref s.heap.objs.size,_,I.laid (t':=s.toks + 1) (o:=.tup [.str a,.str Str.empty,.str Str.empty]) (fun b ob e=>Ma _ e) (Md _) ⟨by show 3<=sizeLine;decide,_,.cons ⟨_,Y⟩ (.cons ⟨_,Y⟩ (.cons ⟨_,Y⟩ .nil)),IsTup.new _ _⟩,Y,q'⟩
 | cons i r=>exact fun q'=>⟨.ref s.heap.objs.size,_,I.laid (t':=s.toks + 1 + 1) (o:=.tup [.str _,.str _,.str _]) (fun b ob e=>Ma _ e) (Md _) ⟨by show 3<=sizeLine;decide,_,.cons ⟨_,Y⟩ (.cons ⟨_,Y⟩ (.cons ⟨_,Y⟩ .nil)),IsTup.new _ _⟩,Y,q'⟩
theorem AC:fP X (.type "int") (fun xs H Q=>∃ n:Int,xs=[.str (toString n)]/\0<=n/\n<10 ^ 10/\Q (.int n) H):=by
 intro aa s σ H xs us Q I r h;obtain⟨n,rfl,h0,h1,q⟩:=h;obtain⟨u,rfl,t,rfl⟩:=eV r;exact PySem.W.KIN.call_num h0 h1 ⟨.int n,H,I.tok _,⟨_,Y⟩,q⟩
theorem jK {t1 t2:TE} (h1:PE X e t1) (h2:PE X e t2):PE X e (fun σ H Q=>t1 σ H Q\/t2 σ H Q):=by
 intro aa s σ H Q I h;rcases h with h|h
 ·exact h1 aa s σ H Q I h
 ·exact h2 aa s σ H Q I h
theorem JL {a d:Expr}{td:TE}{p bK:Pos} (hg:Gl X "max") (hm:X.mg "max"=none) (ha:PA X [a] ta) (hd:PE X d td)
  (hs:backTo pos (starEach [a] X.env)=(false,eval a X.env)::backTo pos (starEach [] X.env):=by rfl) (hp:(backTo pos (starEach [a] X.env)).any (·.1)=false:=by rfl) (qp:(backToKw pos (keywordEach [⟨some "default",d,bK⟩] X.env)).all (·.1.isSome)=true:=by rfl)
  (qt:(backToKw pos (keywordEach [⟨some "default",d,bK⟩] X.env)).any (·.1.isNone)=false:=by rfl) (o4:∀ u:Value,((backToKw pos (keywordEach [⟨some "default",d,bK⟩] X.env)).filterMap (·.1)).zip [u]=[(Str.ofString "default",u)]:=by intro u;rfl) :
  PE X (.Call (.Name "max" p) [a] [⟨some "default",d,bK⟩] pos) (fun σ H Q=>ta σ H fun vs H0=>td σ H0 fun dv H1=>∃ q,∃ ns:List Int,∃ i,dv=.int i/\vs=[.ref q]/\SqL X.K H1 q (ns.map V.int)/\(ns=[]->Q (.int i) H1)/\∀ m∈ns,(∀ x∈ns,x<=m)->Q (.int m) H1):=by
 intro aa s σ H Q I h;refine M4 (jk I hg hm sL ?_);refine PyProof.Rows.callWith_kw (thn (ha pos aa s σ H _ I h) fun us s0=>L2.ex5 fun vs H0 I0 r1 hq=>?_) hs hp qp qt;refine PyProof.Rows.kws_cons (thn (hd aa s0 σ H0 _ I0 hq) fun K3 s1 ⟨dv,H1,I1,r2,l,ns,i,ed,e,q1,k0,k1⟩=>PyProof.Rows.kws_nil ?_);subst e;subst ed;obtain⟨Lc,rfl⟩:=r2;obtain⟨u,rfl,ru⟩:=eV r1;obtain rfl:u=Value.ref l:=ru;rw[o4];obtain⟨ac,rv,pl,_⟩:=I1.list q1;obtain⟨cs,dH,ch⟩:=I1.hd.chain;have bp:l<s1.heap.objs.size:=by obtain⟨o,e,_⟩:=pl.isList;exact Mc e
 have lU:s1.heap.objs.size∉cs:=fun z=>MF _ (ch.lt _ z)
 have az:ac.length=ns.length:=by rw[<- rv.length,L9]
 have cG:(toString "max"++toString ".loop":String)="max.loop":=by decide
 refine kmk_tree PySem.F.kind_max PySem.F.plain_max PySem.F.entry_max (zY _ _) ?_;refine(show wpAny _ _ (Builtin.Builtins.bindParams "max" ["key","default"] 0 ⟨[],[(Str.ofString "default",_)]⟩ >>= _) _ _ _ from l7 (Ow (show Builtin.Builtins.bindParams "max" ["key","default"] 0 ⟨[],[(Str.ofString "default",_)]⟩=pure [none,some _] from rfl) ?_));refine l7 (Mb ?_);refine l7 (NB (s:=s1) pl.isList ?_);refine l7 (OA ?_ (MW _));rw[cG];have hz:(s1.heap.push { cls:=.type "list_iterator",data:=.fields #[.ref l,.int 0 0] }).objs.size=s1.heap.objs.size + 1:=MI ..;have W:=qS (prog:=X.prog) (w:=X.w) (A:=X.A.in1) dH s1.heap.objs.size l (Mn bp) lU ac.toArray;have e8:(s1.heap.push { cls:=.type "list_iterator",data:=.fields #[.ref l,.int 0 0] }).objs.size∉s1.heap.objs.size::l::cs:=by
  rw[hz];intro z;rcases M5.mp z with z|z
  ·exact absurd z (Nf (Nc _))
  ·rcases M5.mp z with z|z
   ·exact absurd z (Nf (M0 bp))
   ·exact absurd (ch.lt _ z) (Nat.not_lt.mpr (M3 _))
 have iR:((s1.heap.push { cls:=.type "list_iterator",data:=.fields #[.ref l,.int 0 0] }).push (seqObj "list" #[] 0)).IsListIter s1.heap.objs.size l 0/\((s1.heap.push { cls:=.type "list_iterator",data:=.fields #[.ref l,.int 0 0] }).push (seqObj "list" #[] 0)).IsList l ac.toArray/\Chn ((s1.heap.push { cls:=.type "list_iterator",data:=.fields #[.ref l,.int 0 0] }).push (seqObj "list" #[] 0)) cs:=
  ⟨⟨_,Ma _ (Mi _ rfl),rfl,rfl⟩,(pl.isList.push _).push _,ch.mono fun b o _ e=>Ma _ (Ma _ e)⟩
 refine Mb ⟨plainId_quiet PySem.F.plain_max_loop _,?_⟩;have back:∀ (h':Heap),(∀ b o,b∉[s1.heap.objs.size]->b≠(s1.heap.push { cls:=.type "list_iterator",data:=.fields #[.ref l,.int 0 0] }).objs.size->((s1.heap.push { cls:=.type "list_iterator",data:=.fields #[.ref l,.int 0 0] }).push (seqObj "list" #[] 0)).get? b=some o->h'.get? b=some o)->∀ b o,s1.heap.get? b=some o->h'.get? b=some o:=fun h' hk b o e=>by
  have lt:=Mc e;refine hk b o (fun z=>?_) (fun z=>?_) (Ma _ (Ma _ e))
  ·rw[List.mem_singleton.mp z] at lt;exact MF _ lt
  ·rw[z,hz] at lt;exact MF _ (OD lt)
 by_cases hn:ns=[]
 ·subst hn
  have e0:ac=[]:=List.length_eq_zero_iff.mp (by rw[az];rfl);subst e0;exact B6 W _ e8 iR (Mi _ Y) fun h' tk hk=>⟨.int i,H1,I1.kept (back h' fun b o h1 _ e=>hk b o h1 e),⟨_,Y⟩,k0 Y⟩
 ·have tZ:0<ns.length:=List.length_pos_iff.mpr hn
  refine Bs _ W (fun i j=>decide (ns.getD i 0 > ns.getD j 0)) (CmpOf.ints_gt (fun i=>ns.getD i 0) fun i v hv=>qR rv (by simpa using hv)) _ e8 (by simp;omega) iR (Mi _ rfl) fun v h' tk hv hk=>?_
  have eC:ac.toArray[argBest (fun i j=>decide (ns.getD i 0 > ns.getD j 0)) (ac.toArray.size - 1)]?=some v:=hv;rw[Pa] at eC;obtain⟨t,rfl⟩:=qR rv eC;obtain⟨b1,b2⟩:=xw (fun i=>ns.getD i 0) (ac.toArray.size - 1);have e1:ac.toArray.size=ns.length:=by simp[az]
  rw[e1] at b1 b2;refine⟨.int _,H1,I1.kept (back h' hk),⟨_,Y⟩,?_⟩;rw[e1];exact k1 _ (BH (by omega)) fun x hx=>by
   obtain⟨j,hj,rfl⟩:=B7 hx;exact b2 j (by omega)
def rNeK (K:PySem.W.Frag):R2:=fun x y H Q=>∃ a b kvs,x=.ref a/\y=.ref b/\H a=some (.dK kvs)/\H b=some (.dK kvs)/\oA K H kvs/\Q (.bl false) H
theorem op_neK (hu:X.A.units + 64<cLine):OpR X (compareOp .NotEq) (rNeK X.K):=by
 intro aa s σ H x y v u Q I rx ry h;obtain⟨a,b,kvs,rfl,rfl,ha,hb,f,q⟩:=h;obtain rfl:v=Value.ref a:=rx;obtain rfl:u=Value.ref b:=ry;obtain⟨_,na,va,ra,da⟩:=jF I.hok ha;obtain⟨_,nb,vb,rb,db⟩:=jF I.hok hb;have nd:(kvs.map (·.1)).Nodup:=by
  obtain⟨_,_,_,_,_,_,_,_,nd⟩:=da;rw[ra.keys];exact nd
 refine PySem.W.keq_ne na nb da db (by omega) (fun _=>I.dicHits (A:=X.A.in1) rb nd f (show X.A.units + 1 + 20<cLine by omega) ra fun p hp=>hp) ?_;rw[<- ra.length,<- rb.length];have q':EP X aa σ Q (.bool false) s:=⟨.bl false,H,I,Y,q⟩
 simpa using q'
section
open PySem.Builtin
open PySem.Builtin.Str
def jl (c:Nat):List (List Nat)->List Nat
 | []=>[]
 | [x]=>x
 | x::y::r=>x++c::jl c (y::r)
end
end L2
namespace K42
open PySem L2
def top (i:Nat):Stmt:=PySem.Challenge.pw_layerdraw_k42_rows_and_lines.main.body.getD i (.Pass ⟨0,0,0,0⟩)
abbrev AZ:Stmt:=dS (top 9) 0
theorem IE:aN ["self","name"] ["self","name"] (aA AZ):=.of (by decide +kernel)
abbrev Bh:Stmt:=dS (top 10) 0
theorem F3:aN ["self","number"] ["self","number"] (aA Bh):=.of (by decide +kernel)
abbrev CL:Stmt:=dS (top 13) 0
theorem Jr:aN ["self","name","wide"] ["self","name","wide"] (aA CL):=.of (by decide +kernel)
abbrev Bp:Stmt:=dS (top 13) 1
theorem ID:aN ["self"] ["self"] (aA Bp):=.of (by decide +kernel)
abbrev AA:Stmt:=dS (top 13) 2
theorem Hv:aN ["self"] ["self"] (aA AA):=.of (by decide +kernel)
abbrev z7:Stmt:=dS (top 13) 3
theorem HE:aN ["self"] ["self"] (aA z7):=.of (by decide +kernel)
abbrev BK:Stmt:=dS (top 14) 0
theorem GX:aN ["self","arrow","step"] ["self","arrow","step"] (aA BK):=.of (by decide +kernel)
abbrev A3:Stmt:=dS (top 14) 1
theorem IB:aN ["self"] ["self"] (aA A3):=.of (by decide +kernel)
abbrev AN:Stmt:=dS (top 14) 2
theorem Ja:aN ["self"] ["self"] (aA AN):=.of (by decide +kernel)
abbrev Ad:Stmt:=dS (top 14) 3
theorem FT:aN ["self"] ["self"] (aA Ad):=.of (by decide +kernel)
abbrev wR:Stmt:=top 23
theorem Hr:aN ["name"] ["name"] (aA wR):=.of (by decide +kernel)
abbrev Ca:Stmt:=top 24
theorem Gm:aN ["number"] ["number"] (aA Ca):=.of (by decide +kernel)
abbrev Bj:Stmt:=top 25
theorem Kd:aN ["number","least","greatest"] ["number","least","greatest"] (aA Bj):=.of (by decide +kernel)
abbrev Co:Stmt:=dS (top 26) 0
theorem Im:aN ["self"] ["self"] (aA Co):=.of (by decide +kernel)
abbrev sV:Stmt:=dS (top 26) 1
theorem Iw:aN ["self","name","half"] ["self","name","half"] (aA sV):=.of (by decide +kernel)
abbrev qW:Stmt:=dS (top 26) 2
theorem A4:aN ["self","one","other","span","weight","number"] ["self","one","other","span","weight"] (aA qW):=.of (by decide +kernel)
abbrev A7:Stmt:=dS (top 26) 5
theorem JH:aN ["self","number"] ["self","number"] (aA A7):=.of (by decide +kernel)
abbrev Cq:Stmt:=dS (top 26) 6
theorem Jo:aN ["self"] ["self"] (aA Cq):=.of (by decide +kernel)
abbrev BL:Stmt:=dS (top 26) 7
theorem FW:aN ["self","name"] ["self","name"] (aA BL):=.of (by decide +kernel)
abbrev xH:Stmt:=dS (top 26) 8
theorem JJ:aN ["self"] ["self"] (aA xH):=.of (by decide +kernel)
abbrev Bd:Stmt:=dS (top 26) 11
theorem HF:aN ["self","name"] ["self","name"] (aA Bd):=.of (by decide +kernel)
abbrev Bk:Stmt:=dS (top 26) 12
theorem FL:aN ["self","one","other"] ["self","one","other"] (aA Bk):=.of (by decide +kernel)
abbrev s_way:Stmt:=top 28
theorem jI:aN ["arrows","start","end","ways","waiting","point","number","one","other","span","weight"] ["arrows","start","end"] (aA s_way):=.of (by decide +kernel)
abbrev AM:Stmt:=top 29
theorem wA:aN ["net","kept","arrow"] ["net"] (aA AM):=.of (by decide +kernel)
abbrev wG:Stmt:=top 30
theorem By:aN ["net","kept"] ["net"] (aA wG):=.of (by decide +kernel)
abbrev wL:Stmt:=top 33
theorem Je:aN ["one","other","weight"] ["one","other","weight"] (aA wL):=.of (by decide +kernel)
abbrev xz:Stmt:=top 37
theorem Ih:aN ["net","levels"] ["net","levels"] (aA xz):=.of (by decide +kernel)
abbrev AR:Stmt:=top 38
theorem Kx:aN ["net","name"] ["net","name"] (aA AR):=.of (by decide +kernel)
abbrev tT:Stmt:=top 39
theorem wD:aN ["net","levels","arrow","ends","small"] ["net","levels","arrow"] (aA tT):=.of (by decide +kernel)
abbrev xt:Stmt:=top 40
theorem qO:aN ["net","levels","count","ways","rows","name","way","item"] ["net","levels","count","ways"] (aA xt):=.of (by decide +kernel)
abbrev wV:Stmt:=top 41
theorem Hh:aN ["way","weight"] ["way","weight"] (aA wV):=.of (by decide +kernel)
abbrev rf:Stmt:=top 42
theorem mO:aN ["net","levels","count","arrows","ways","lines","arrow","way"] ["net","levels"] (aA rf):=.of (by decide +kernel)
abbrev wf:Stmt:=top 43
theorem xB:aN ["rows","marks","row"] ["rows"] (aA wf):=.of (by decide +kernel)
abbrev ww:Stmt:=top 44
theorem xp:aN ["rows","halves","row"] ["rows"] (aA ww):=.of (by decide +kernel)
abbrev wg:Stmt:=top 45
theorem Hu:aN ["lines"] ["lines"] (aA wg):=.of (by decide +kernel)
abbrev BO:Stmt:=top 47
theorem Jb:aN ["_law_script","_law_k"] ["_law_script","_law_k"] (aA BO):=.of (by decide +kernel)
abbrev Bt:Stmt:=top 48
theorem og:aN ["_law_cell","_law_many","_law_found","_law_number","_law_k"] ["_law_cell","_law_many"] (aA Bt):=.of (by decide +kernel)
abbrev Cn:Stmt:=top 49
theorem CD:aN ["_law_cell","_law_some"] ["_law_cell"] (aA Cn):=.of (by decide +kernel)
abbrev Bx:Stmt:=top 50
theorem jQ:aN ["_law_net","_law_names_here","_law_script","_law_arrows_here","_law_cell","_law_xs","_law_one","_law_other","_law_weight","_law_span","_law_number"] ["_law_net","_law_names_here","_law_script"] (aA Bx):=.of (by decide +kernel)
abbrev BX:Stmt:=top 51
theorem nj:aN ["_law_arrows_here","_law_about","_law_found","_law_number","_law_one","_law_other","_law_weight","_law_span"] ["_law_arrows_here","_law_about"] (aA BX):=.of (by decide +kernel)
abbrev wq:Stmt:=top 52
theorem kZ:aN ["_law_names_here","_law_down_here","_law_xs","_law_levels_here","_law_turn","_law_number","_law_upper","_law_lower","_law_weight","_law_span"] ["_law_names_here","_law_down_here","_law_xs"] (aA wq):=.of (by decide +kernel)
abbrev xm:Stmt:=top 53
theorem jM:aN ["_law_names_here","_law_halves","_law_levels_here","_law_down_here","_law_rows","_law_level","_law_row","_law_number","_law_upper","_law_lower","_law_weight","_law_span"] ["_law_names_here","_law_halves","_law_levels_here","_law_down_here"] (aA xm):=.of (by decide +kernel)
abbrev xF:Stmt:=top 54
theorem iD:aN ["_law_names_here","_law_levels_here","_law_down_here","_law_lines_here","_law_number","_law_upper","_law_lower","_law_weight","_law_span","_law_deep","_law_marks","_law_k","_law_small"] ["_law_names_here","_law_levels_here","_law_down_here"] (aA xF):=.of (by decide +kernel)
abbrev Bg:Stmt:=top 55
theorem kY:aN ["_law_rows","_law_due_here","_law_arrows_here","_law_items","_law_row","_law_item","_law_pair","_law_head","_law_sign","_law_tail"] ["_law_rows","_law_due_here","_law_arrows_here"] (aA Bg):=.of (by decide +kernel)
abbrev BN:Stmt:=top 56
theorem Ic:aN ["_law_net","_law_levels_here"] ["_law_net","_law_levels_here"] (aA BN):=.of (by decide +kernel)
abbrev tU:Stmt:=top 57
theorem tE:aN ["_law_told_here","_law_due_here","_law_lines_here","_law_held","_law_row","_law_marks"] ["_law_told_here","_law_due_here","_law_lines_here"] (aA tU):=.of (by decide +kernel)
abbrev mK:Stmt:=top 58
theorem di:aN ["_law_script","_law_cell","_law_names_here","_law_xs","_law_net","_law_halves","_law_k","_law_name","_law_arrows_here","_law_down_here","_law_levels_here","_law_by_name","_law_due_here","_law_lines_here","_law_told_here"] ["_law_script"] (aA mK):=.of (by decide +kernel)
variable {da dh lm ls:Addr}{n:Nat}
def oJ:Pos:=⟨173,44,173,69⟩
def nW:Str:=(("items_along":Str)++(".<locals>.":Str))++("<lambda>":Str)
structure Adr where
 DrawError:Addr
 NoName:Addr
 Taken:Addr
 Alone:Addr
 NoNumber:Addr
 TooMany:Addr
 TooLong:Addr
 NoPoint:Addr
 NoSuch:Addr
 Item:Addr
 Own:Addr
 Small:Addr
 Net:Addr
 HEAVIER:Addr
 tb_items_along:Addr
structure Tx (K:PySem.W.Frag) (mg:Str->Option Value) (a:Adr):Prop where
 g_DrawError:mg "DrawError"=some (.ref a.DrawError)
 xb_DrawError:PySem.W.mroIn K a.DrawError (.type "BaseException")=some true
 xt_DrawError:PySem.W.typeIn K (.ref a.DrawError)=some (.type "type")
 g_NoName:mg "NoName"=some (.ref a.NoName)
 xb_NoName:PySem.W.mroIn K a.NoName (.type "BaseException")=some true
 xt_NoName:PySem.W.typeIn K (.ref a.NoName)=some (.type "type")
 x_NoName:XC0 K a.NoName
 g_Taken:mg "Taken"=some (.ref a.Taken)
 xb_Taken:PySem.W.mroIn K a.Taken (.type "BaseException")=some true
 xt_Taken:PySem.W.typeIn K (.ref a.Taken)=some (.type "type")
 x_Taken:XC0 K a.Taken
 g_Alone:mg "Alone"=some (.ref a.Alone)
 xb_Alone:PySem.W.mroIn K a.Alone (.type "BaseException")=some true
 xt_Alone:PySem.W.typeIn K (.ref a.Alone)=some (.type "type")
 x_Alone:XC0 K a.Alone
 g_NoNumber:mg "NoNumber"=some (.ref a.NoNumber)
 xb_NoNumber:PySem.W.mroIn K a.NoNumber (.type "BaseException")=some true
 xt_NoNumber:PySem.W.typeIn K (.ref a.NoNumber)=some (.type "type")
 x_NoNumber:XC0 K a.NoNumber
 g_TooMany:mg "TooMany"=some (.ref a.TooMany)
 xb_TooMany:PySem.W.mroIn K a.TooMany (.type "BaseException")=some true
 xt_TooMany:PySem.W.typeIn K (.ref a.TooMany)=some (.type "type")
 x_TooMany:XC0 K a.TooMany
 g_TooLong:mg "TooLong"=some (.ref a.TooLong)
 xb_TooLong:PySem.W.mroIn K a.TooLong (.type "BaseException")=some true
 xt_TooLong:PySem.W.typeIn K (.ref a.TooLong)=some (.type "type")
 x_TooLong:XC0 K a.TooLong
 g_NoPoint:mg "NoPoint"=some (.ref a.NoPoint)
 xb_NoPoint:PySem.W.mroIn K a.NoPoint (.type "BaseException")=some true
 xt_NoPoint:PySem.W.typeIn K (.ref a.NoPoint)=some (.type "type")
 g_NoSuch:mg "NoSuch"=some (.ref a.NoSuch)
 xb_NoSuch:PySem.W.mroIn K a.NoSuch (.type "BaseException")=some true
 xt_NoSuch:PySem.W.typeIn K (.ref a.NoSuch)=some (.type "type")
 g_Item:mg "Item"=some (.ref a.Item)
 c_Item:Cls K a.Item
 g_Own:mg "Own"=some (.ref a.Own)
 c_Own:Cls K a.Own
 na_Own_name:zbH K a.Own "name"
 na_Own_wide:zbH K a.Own "wide"
 g_Small:mg "Small"=some (.ref a.Small)
 c_Small:Cls K a.Small
 na_Small_arrow:zbH K a.Small "arrow"
 na_Small_step:zbH K a.Small "step"
 g_Net:mg "Net"=some (.ref a.Net)
 c_Net:Cls K a.Net
 na_Net_arrows_by_number:zbH K a.Net "arrows_by_number"
 na_Net_halves:zbH K a.Net "halves"
 na_Net_most_bounds:zbH K a.Net "most_bounds"
 na_Net_next_number:zbH K a.Net "next_number"
 na_Net_same_pairs:zbH K a.Net "same_pairs"
 xi_NoPoint:XIni K mg a.NoPoint "NoPoint" "NoPoint.__init__" AZ ["self","name"]
 xs_NoPoint_name:XSet K a.NoPoint "name"
 xg_NoPoint_name:XGet K a.NoPoint "name"
 xi_NoSuch:XIni K mg a.NoSuch "NoSuch" "NoSuch.__init__" Bh ["self","number"]
 xs_NoSuch_number:XSet K a.NoSuch "number"
 xg_NoSuch_number:XGet K a.NoSuch "number"
 i_Own:Ini K mg a.Own "Own" "Own.__init__" CL ["self","name","wide"]
 m_Own_label:Met K a.Own "label" "Own.label" Bp ["self"] []
 m_Own_half:Met K a.Own "half" "Own.half" AA ["self"] []
 m_Own_drawn:Met K a.Own "drawn" "Own.drawn" z7 ["self"] []
 i_Small:Ini K mg a.Small "Small" "Small.__init__" BK ["self","arrow","step"]
 m_Small_label:Met K a.Small "label" "Small.label" A3 ["self"] []
 m_Small_half:Met K a.Small "half" "Small.half" AN ["self"] []
 m_Small_drawn:Met K a.Small "drawn" "Small.drawn" Ad ["self"] []
 d_is_name:Def K mg "is_name" wR ["name"] []
 d_is_whole:Def K mg "is_whole" Ca ["number"] []
 d_in_range:Def K mg "in_range" Bj ["number","least","greatest"] []
 i_Net:Ini K mg a.Net "Net" "Net.__init__" Co ["self"]
 m_Net_put_point:Met K a.Net "put_point" "Net.put_point" sV ["self","name","half"] []
 m_Net_put_point1:Met K a.Net "put_point" "Net.put_point" sV ["self","name","half"] [.int 0]
 m_Net_put_arrow:Met K a.Net "put_arrow" "Net.put_arrow" qW ["self","one","other","span","weight"] []
 m_Net_put_arrow3:Met K a.Net "put_arrow" "Net.put_arrow" qW ["self","one","other","span","weight"] [.int 1]
 m_Net_put_arrow2:Met K a.Net "put_arrow" "Net.put_arrow" qW ["self","one","other","span","weight"] [.int 1,.int 1]
 m_Net_take_arrow:Met K a.Net "take_arrow" "Net.take_arrow" A7 ["self","number"] []
 m_Net_points:Met K a.Net "points" "Net.points" Cq ["self"] []
 m_Net_half_of:Met K a.Net "half_of" "Net.half_of" BL ["self","name"] []
 m_Net_arrows:Met K a.Net "arrows" "Net.arrows" xH ["self"] []
 m_Net_need_point:Met K a.Net "need_point" "Net.need_point" Bd ["self","name"] []
 m_Net_need_two_points:Met K a.Net "need_two_points" "Net.need_two_points" Bk ["self","one","other"] []
 d_way:Def K mg "way" s_way ["arrows","start","end"] []
 d_kept_arrows:Def K mg "kept_arrows" AM ["net"] []
 d_turned:Def K mg "turned" wG ["net"] []
 d_heavy:Def K mg "heavy" wL ["one","other","weight"] []
 d_places_by:Def K mg "places_by" xz ["net","levels"] []
 d_own_item:Def K mg "own_item" AR ["net","name"] []
 d_items_along:Def K mg "items_along" tT ["net","levels","arrow"] []
 d_filled_rows:Def K mg "filled_rows" xt ["net","levels","count","ways"] []
 d_lines_along:Def K mg "lines_along" wV ["way","weight"] []
 d_rows_of:Def K mg "rows_of" rf ["net","levels"] []
 d_marks_of:Def K mg "marks_of" wf ["rows"] []
 d_halves_of:Def K mg "halves_of" ww ["rows"] []
 d_pairs_of:Def K mg "pairs_of" wg ["lines"] []
 d__law_cell_at:Def K mg "_law_cell_at" BO ["_law_script","_law_k"] []
 d__law_stream:Def K mg "_law_stream" Bt ["_law_cell","_law_many"] []
 d__law_names:Def K mg "_law_names" Cn ["_law_cell"] []
 d__law_arrows:Def K mg "_law_arrows" Bx ["_law_net","_law_names_here","_law_script"] []
 d__law_down:Def K mg "_law_down" BX ["_law_arrows_here","_law_about"] []
 d__law_levels:Def K mg "_law_levels" wq ["_law_names_here","_law_down_here","_law_xs"] []
 d__law_due:Def K mg "_law_due" xm ["_law_names_here","_law_halves","_law_levels_here","_law_down_here"] []
 d__law_lines:Def K mg "_law_lines" xF ["_law_names_here","_law_levels_here","_law_down_here"] []
 d__law_items_right:Def K mg "_law_items_right" Bg ["_law_rows","_law_due_here","_law_arrows_here"] []
 d__law_told:Def K mg "_law_told" BN ["_law_net","_law_levels_here"] []
 d__law_said:Def K mg "_law_said" tU ["_law_told_here","_law_due_here","_law_lines_here"] []
 d_law:Def K mg "law" mK ["_law_script"] []
 k_GREATEST_WEIGHT:∃ t,mg "GREATEST_WEIGHT"=some (.int 1000000 t)
 k_LONGEST_NAME:∃ t,mg "LONGEST_NAME"=some (.int 8 t)
 k_LONGEST_SPAN:∃ t,mg "LONGEST_SPAN"=some (.int 20 t)
 k_MOST_ARROWS:∃ t,mg "MOST_ARROWS"=some (.int 40 t)
 k_MOST_POINTS:∃ t,mg "MOST_POINTS"=some (.int 20 t)
 k_MOST_ROWS:∃ t,mg "MOST_ROWS"=some (.int 20 t)
 k_MOST_SMALL:∃ t,mg "MOST_SMALL"=some (.int 60 t)
 k_SMALL_LETTERS:∃ t,mg "SMALL_LETTERS"=some (.str "abcdefghijklmnopqrstuvwxyz" t)
 k_WIDEST_HALF:∃ t,mg "WIDEST_HALF"=some (.int 50 t)
 g_HEAVIER:mg "HEAVIER"=some (.ref a.HEAVIER)
 t_HEAVIER:∀ H,SqT K H a.HEAVIER [.int 1,.int 2,.int 8]
 lam_items_along:wJ K mg "items_along" a.tb_items_along
 kb_str_str:PySem.W.kitOne K (.type "str") (.type "str")=some true
 kb_int_int:PySem.W.kitOne K (.type "int") (.type "int")=some true
 kb_int_bool:PySem.W.kitOne K (.type "int") (.type "bool")=some false
 kb_list_list:PySem.W.kitOne K (.type "list") (.type "list")=some true
 kb_tuple_tuple:PySem.W.kitOne K (.type "tuple") (.type "tuple")=some true
 kt_Own_Small:PySem.W.kitOne K (.ref a.Own) (.ref a.Small)=some false
 kt_Small_Small:PySem.W.kitOne K (.ref a.Small) (.ref a.Small)=some true
 kt_Own_Own:PySem.W.kitOne K (.ref a.Own) (.ref a.Own)=some true
 kt_Small_Own:PySem.W.kitOne K (.ref a.Small) (.ref a.Own)=some false
 ca_Own:PySem.W.findIn K (.ref a.Own) "__class__"=some (some (.builtin "object.__class__"))
 cm_Own:PySem.W.mroIn K a.Own (.type "object")=some true
 ca_Small:PySem.W.findIn K (.ref a.Small) "__class__"=some (some (.builtin "object.__class__"))
 cm_Small:PySem.W.mroIn K a.Small (.type "object")=some true
 tg:PySem.W.specialIn K (.builtin "object.__class__") "__get__"=some (some (.builtin "getset_descriptor.__get__"))
 tk:PySem.W.takesIn K (.builtin "object.__class__")=some true
 mr_TooLong_TooLong:PySem.W.mroIn K a.TooLong (.ref a.TooLong)=some true
 n_all:mg "all"=none
 n_bool:mg "bool"=none
 n_enumerate:mg "enumerate"=none
 n_int:mg "int"=none
 n_isinstance:mg "isinstance"=none
 n_len:mg "len"=none
 n_list:mg "list"=none
 n_max:mg "max"=none
 n_range:mg "range"=none
 n_sorted:mg "sorted"=none
 n_str:mg "str"=none
 n_sum:mg "sum"=none
 n_zip:mg "zip"=none
abbrev Kvs:=List (Key×V)
def abc:Str:="abcdefghijklmnopqrstuvwxyz"
def small (c:Nat):Bool:=!(Builtin.Str.occurrences abc ⟨#[c]⟩ 0 abc.length 1).isEmpty
def d4 (n:Str):Bool:=decide (1<=n.length) && decide (n.length<=8) && n.cps.toList.all small
def has (kvs:Kvs) (n:Str):Bool:=(bc kvs (Sum.inr n)).isSome
def iI (dh da:Addr) (nn:Int) (ls lm:Addr):List (Str×V):=[("halves",.ref dh),("arrows_by_number",.ref da),("next_number",.int nn),("same_pairs",.ref ls),("most_bounds",.ref lm)]
theorem Hg {n m:Int}:cm "next_number" (.int m) (iI dh da n ls lm)=iI dh da m ls lm:=by
 have h1:¬ (("halves":Str)="next_number"):=by decide +kernel
 have h2:¬ (("arrows_by_number":Str)="next_number"):=by decide +kernel
 simp only[iI,cm,h1,h2,if_false,if_true]
structure Ar where
 num:Int
 one:Str
 other:Str
 span:Int
 weight:Int
def arV (q:Ar):List V:=[.str q.one,.str q.other,.int q.span,.int q.weight]
def arD (q:Ar):Dt:=.tup [.int q.num,.str q.one,.str q.other,.int q.span,.int q.weight]
def jP (q:Str×Str):Dt:=.tup [.str q.1,.str q.2]
def cK (q:Str×Str×Int):Dt:=.tup [.str q.1,.str q.2.1,.int q.2.2]
def fM (K:PySem.W.Frag) (H:Hp):List Ar->Kvs->Prop
 | [],kvs=>kvs=[]
 | q::qs,kvs=>∃ t r,kvs=(Sum.inl q.num,.ref t)::r/\SqT K H t (arV q)/\fM K H qs r
structure Rec where
 dh:Addr
 da:Addr
 ls:Addr
 lm:Addr
structure cI where
 kvs:Kvs
 arr:List Ar
 nn:Int
 ss:List (Str×Str)
 mm:List (Str×Str×Int)
structure bB (K:PySem.W.Frag) (C:Addr) (H:Hp) (p:Addr) (r:Rec) (v:cI):Prop where
 ex:∃ dx,H p=some (.ins C dx (iI r.dh r.da v.nn r.ls r.lm))
 hh:H r.dh=some (.dK v.kvs)
 ha:∃ bV,H r.da=some (.dK bV)/\fM K H v.arr bV
 hs:∃ xs,H r.ls=some (.lst xs)/\aM K H (v.ss.map jP) xs
 hm:∃ xs,H r.lm=some (.lst xs)/\aM K H (v.mm.map cK) xs
 n1:r.da≠r.dh
 n2:r.ls≠r.lm
theorem KA  (q:Str×Str):fK (n + 1) (jP q):=by cases n <;> exact⟨trivial,trivial,trivial⟩
theorem Jf  (q:Str×Str×Int):fK (n + 1) (cK q):=by cases n <;> exact⟨trivial,trivial,trivial,trivial⟩
theorem GL  (q:Ar):fK (n + 1) (arD q):=by cases n <;> exact⟨trivial,trivial,trivial,trivial,trivial,trivial⟩
theorem _root_.L2.Tk.arr {K:PySem.W.Frag}{H H':Hp} (e:Tk H H'):∀ {qs:List Ar}{kvs:Kvs},fM K H qs kvs->fM K H' qs kvs
 | [],_,h=>h
 | q::qs,_,h=>by
  obtain⟨t,r,e1,h1,h2⟩:=h;exact⟨t,r,e1,e.sqT h1,e.arr h2⟩
variable {C p q y:Addr}{H H':Hp}{P:Program}{a:Adr}{ar:List Ar}{base:Heap}{kvs:Kvs}{mg:Str->Option Value}{n sp wt:Int}{o:HO}{r:List (Str×V)}{v:cI}{w:World}
theorem fM.length {K:PySem.W.Frag}{H:Hp}:∀ {qs:List Ar}{kvs:Kvs},fM K H qs kvs->qs.length=kvs.length
 | [],_,h=>by rw[show _=[] from h];rfl
 | q::qs,_,h=>by
  obtain⟨t,r,rfl,h1,h2⟩:=h;show qs.length + 1=r.length + 1;rw[h2.length]
theorem fM.get {K:PySem.W.Frag}{H:Hp}:∀ {qs:List Ar}{kvs:Kvs}{i:Nat}{k:Key}{x:V},fM K H qs kvs->kvs[i]?=some (k,x)->∃ q t,qs[i]?=some q/\k=Sum.inl q.num/\x=.ref t/\SqT K H t (arV q)
 | [],_,i,k,x,h,e=>by rw[show _=[] from h] at e;simp at e
 | q::qs,_,i,k,x,h,e=>by
  obtain⟨t,r,rfl,h1,h2⟩:=h;cases i with
  | zero=>simp at e;exact⟨q,t,Y,e.1.symm,e.2.symm,h1⟩
  | succ i=>exact h2.get (by simpa using e)
theorem fM.snoc {K:PySem.W.Frag}{H:Hp}{q:Ar}{t:Addr} (ht:SqT K H t (arV q)):∀ {qs:List Ar}{kvs:Kvs},fM K H qs kvs->fM K H (qs++[q]) (kvs++[(Sum.inl q.num,.ref t)])
 | [],_,h=>by rw[show _=[] from h];exact⟨t,[],Y,ht,Y⟩
 | q'::qs,_,h=>by
  obtain⟨t',r,rfl,h1,h2⟩:=h;exact⟨t',_,Y,h1,h2.snoc ht⟩
theorem bB.same {K:PySem.W.Frag}{r:Rec} (n:bB K C H p r v) (e:af H H'):bB K C H' p r v:=by
 obtain⟨⟨dx,h1⟩,h2,⟨bV,h3,h4⟩,⟨xs,h5,h6⟩,⟨ys,h7,h8⟩,n1,n2⟩:=n;exact⟨⟨dx,e _ _ h1⟩,e _ _ h2,⟨bV,e _ _ h3,(Tk.of e).arr h4⟩,⟨xs,e _ _ h5,e.dts h6⟩,⟨ys,e _ _ h7,e.dts h8⟩,n1,n2⟩
def Kp (p:Addr) (r:Rec) (H H':Hp):Prop:=∀ b o,H b=some o->b≠p->b≠r.dh->b≠r.da->b≠r.ls->b≠r.lm->H' b=some o
theorem Kp.of {r:Rec} (e:af H H'):Kp p r H H':=fun b o h _ _ _ _ _=>e b o h
theorem Kp.trans {r:Rec}{H1 H2:Hp} (a:Kp p r H H1) (b:Kp p r H1 H2):Kp p r H H2:=fun c o h z1 z2 z3 z4 z5=>b c o (a c o h z1 z2 z3 z4 z5) z1 z2 z3 z4 z5
theorem Kp.tk {K:PySem.W.Frag}{r:Rec} (e:Kp p r H H') (n:bB K C H p r v):Tk H H':=fun b o h z=>by
 obtain⟨⟨dx,h1⟩,h2,⟨bV,h3,h4⟩,⟨xs,h5,h6⟩,⟨ys,h7,h8⟩,n1,n2⟩:=n;refine e b o h (fun q=>?_) (fun q=>?_) (fun q=>?_) (fun q=>?_) (fun q=>?_) <;> subst q
 ·rw[h1] at h;cases h;cases z
 ·rw[h2] at h;cases h;cases z
 ·rw[h3] at h;cases h;cases z
 ·rw[h5] at h;cases h;cases z
 ·rw[h7] at h;cases h;cases z
theorem Kp.lst {K:PySem.W.Frag}{C:Addr}{p:Addr}{r:Rec}{v:cI}{H H':Hp}{b:Addr}{zs:List V} (e:Kp p r H H') (n:bB K C H p r v) (h:H b=some (.lst zs)) (n1:b≠r.ls) (n2:b≠r.lm):H' b=some (.lst zs):=by
 obtain⟨⟨dx,h1⟩,h2,⟨bV,h3,h4⟩,_⟩:=n;exact e b _ h (cz h h1 (by intro z;cases z)) (cz h h2 (by intro z;cases z)) (cz h h3 (by intro z;cases z)) n1 n2
theorem lk0 {a:Str}{v:V}:(((a,v)::r):List (Str×V)).lookup a=some v:=by
 rw[Nd,beq_self_eq_true]
theorem lk1 {a b:Str}{v:V} (h:(a == b)=false):(((b,v)::r):List (Str×V)).lookup a=r.lookup a:=by
 rw[Nd,h]
theorem qz:(iI dh da n ls lm).lookup ("halves":Str)=some (.ref dh):=lk0
theorem qJ:(iI dh da n ls lm).lookup ("arrows_by_number":Str)=some (.ref da):=(lk1 (by decide +kernel)).trans lk0
theorem lk_nn:(iI dh da n ls lm).lookup ("next_number":Str)=some (.int n):=(lk1 (by decide +kernel)).trans ((lk1 (by decide +kernel)).trans lk0)
section
variable {K:PySem.W.Frag}
def IL:Sp:=fun vs H Q _=>∃ n:Str,vs=[.str n]/\n.length<=1000/\∀ H',af H H'->Q (.bl (d4 n)) H'
theorem K0 (T:Tx K mg a):Cal P w K mg base CX0 1 "is_name" ["name"] [] IL:=T.d_is_name.cal fun f fd F=>by
 refine F.ok Hr (fun vs H Q E h=>?_) (fun aw A outer s H vs Q E hr h=>?_)
 ·obtain⟨n,rfl,_⟩:=h
  rfl
 ·obtain⟨n,rfl,hn,k⟩:=h
  have hz:n.length<=sizeLine:=MN hn (by rw[Mh];decide);refine⟨_,(ao (bG (PW.pt (eJ (gS (fL (bu jc Y T.n_isinstance jb (ag (pv 0) (ag (qA Y T.n_str mS) aj))))) (eJ (bw qU (bu CP Y T.n_len cQ (ag (pv 0) aj)) am (br _)) (gH (bw oz (bu CP Y T.n_len cQ (ag (pv 0) aj)) (kH Y T.k_LONGEST_NAME) (br _)))))) (aq (aO gY)) bO)
   (aq (aO (bu F8 rfl T.n_all bt_all (ag (eX (N:=["sign"]) (cap:=[none]) Y (cH (osc:=aA wR) (XN:=["name"]) Y Y (by decide +kernel)) (pi_str (pv 0)) (fun cl C s H fp aa=>(aD (i:=0) (show(["sign"]:List Str).Nodup by decide +kernel) rfl (.inl rfl))) (fun cl C s H fp aa=>dM) (fun cl C s H fp aa=>(mG Bu (pv 0) (GF Y T.k_SMALL_LETTERS) (by with_unfolding_all rfl)))) aj))))),?_⟩
  refine⟨_,Y,_,_,_,_,_,Y,Y,.str _,T.kb_str_str,true,Y,?_⟩;refine cg Y ?_;refine⟨_,Y,_,Y,hz,_,_,Y,Y,_,Y,?_⟩;refine bE (fun c1=>?_) (fun c1=>?_)
  ·have e:d4 n=false:=by
    have:(n.length:Int)<1:=MP c1;simp only[d4,Ny,Nt]
    exact .inl (.inl (by omega))
   refine lp ?_;show Q (.bl false) _;rw[<- e];exact k H (af.refl H)
  ·refine⟨_,Y,_,Y,hz,_,_,Y,Y,_,Y,?_⟩
   have h1:1<=n.length:=by
    have:¬ (n.length:Int)<1:=MZ c1;omega
   refine bE (fun c2=>?_) (fun c2=>?_)
   ·have e:d4 n=false:=by
     have:(8:Int)<n.length:=MP c2;simp only[d4,Ny,Nt]
     exact .inl (.inr (by omega))
    show Q (.bl false) _;rw[<- e];exact k H (af.refl H)
   ·have h2:n.length<=8:=by
     have:¬ (8:Int)<n.length:=MZ c2;omega
    refine⟨_,Y,n,Y,fun D hD=>?_⟩;refine Gy (x:=n) (fun i τ H'=>∃ v,τ=[v]/\af H H'/\H' D=some (.lst (((n.cps.toList.take i).map small).map V.bl))) ⟨none,rfl,af.new hD,ah⟩ ?_ ?_
    ·rintro i c τ H' hc ⟨v,rfl,sm,hl⟩
     dsimp only[aV,cJ];rw[if_pos rfl];refine⟨_,Y,_,_,Y,Y,_,hl,?_,_,Y,?_,?_⟩
     ·rw[L9,L9,Ml,Mh]
      have:n.cps.toList.length=n.length:=by rw[ML];rfl
      omega
     ·intro b o e
      rw[ak (aE e hD)];exact sm b o e
     ·have g9:n.cps.toList[i]?=some c:=by rw[M9];exact hc
      have ht:n.cps.toList.take (i + 1)=n.cps.toList.take i++[c]:=by
       rw[NX,g9];rfl
      rw[ah,ht,Mf,Mf];rfl
    ·rintro τ H' ⟨v,rfl,sm,hl⟩
     refine⟨D,(n.cps.toList.take n.cps.size).map small,Y,SqL.of hl,?_⟩;have e:(List.map small (n.cps.toList.take n.cps.size)).all id=d4 n:=by
      rw[M8 (by rw[ML];exact Md _),Pm];simp only[d4,MH h1,MH h2,Bool.true_and]
      rfl
     rw[e];exact k H' sm
def GO:Sp:=fun vs H Q _=>∃ i,vs=[.int i]/\Q (.bl true) H
theorem BV (T:Tx K mg a):Cal P w K mg base CX0 1 "is_whole" ["number"] [] GO:=T.d_is_whole.cal fun f fd F=>by
 refine F.ok Gm (fun vs H Q E h=>?_) (fun aw A outer s H vs Q E hr h=>?_)
 ·obtain⟨n,rfl,_⟩:=h
  rfl
 ·obtain⟨i,rfl,q⟩:=h
  refine⟨_,(aq (aO (tm (bu jc Y T.n_isinstance jb (ag (pv 0) (ag (qA Y T.n_int qF) aj))) (xC (pe_not (bu jc Y T.n_isinstance jb (ag (pv 0) (ag (qA Y T.n_bool KP) aj)))))))),?_⟩;refine⟨_,Y,_,_,_,_,_,Y,Y,.int _,T.kb_int_int,true,Y,?_⟩;refine lp ?_;exact⟨_,Y,_,_,_,_,_,Y,Y,.int _,T.kb_int_bool,false,Y,q⟩
def GE:Sp:=fun vs H Q _=>∃ i l g,vs=[.int i,.int l,.int g]/\Q (.bl (decide (l<=i) && decide (i<=g))) H
theorem Af (T:Tx K mg a):Cal P w K mg base CX0 2 "in_range" ["number","least","greatest"] [] GE:=T.d_in_range.cal fun f fd F=>by
 have bL:=BV (P:=P) (w:=w) (base:=base) T;refine F.ok Kd (fun vs H Q E h=>?_) (fun aw A outer s H vs Q E hr h=>?_)
 ·obtain⟨n,_,_,rfl,_⟩:=h
  rfl
 ·obtain⟨i,l,g,rfl,q⟩:=h
  refine⟨_,(aq (aO (tm (bD bL (hr.mono (by decide)) rfl (ag (pv 0) aj)) (tm (mG wv (pv 0) (pv 1) (br _)) (xC (mG op_le (pv 0) (pv 2) (br _))))))),?_⟩;refine⟨_,Y,_,Y,true,Y,?_⟩;refine lp ?_;refine⟨_,Y,_,Y,_,_,Y,Y,_,Y,?_⟩;refine bE (fun c=>?_) (fun c=>?_)
  ·refine⟨_,Y,_,Y,_,_,Y,Y,?_⟩
   rw[c] at q;exact q
  ·rw[c] at q
   exact q
inductive Due where
 | name | taken | number | many | done
theorem Jg {x:Addr}:upd H x o y=none↔y≠x/\H y=none:=by
 unfold upd;by_cases h:y=x <;> simp[h]
theorem mT {x:Addr}:upd H x o y=if y=x then some o else H y:=rfl
theorem Kz:cm "most_bounds" (.ref lm) (cm "same_pairs" (.ref ls) (cm "next_number" (.int 0) (cm "arrows_by_number" (.ref da) (cm "halves" (.ref dh) []))))=iI dh da 0 ls lm:=by
 have h1:¬ (("halves":Str)="arrows_by_number"):=by decide +kernel
 have h2:¬ (("halves":Str)="next_number"):=by decide +kernel
 have h3:¬ (("halves":Str)="same_pairs"):=by decide +kernel
 have h4:¬ (("halves":Str)="most_bounds"):=by decide +kernel
 have h5:¬ (("arrows_by_number":Str)="next_number"):=by decide +kernel
 have h6:¬ (("arrows_by_number":Str)="same_pairs"):=by decide +kernel
 have h7:¬ (("arrows_by_number":Str)="most_bounds"):=by decide +kernel
 have h8:¬ (("next_number":Str)="same_pairs"):=by decide +kernel
 have h9:¬ (("next_number":Str)="most_bounds"):=by decide +kernel
 have h0:¬ (("same_pairs":Str)="most_bounds"):=by decide +kernel
 simp only[cm,h1,h2,h3,h4,h5,h6,h7,h8,h9,h0,if_false]
 rfl
def emp:cI:=⟨[],[],0,[],[]⟩
def Jc (K:PySem.W.Frag) (C:Addr):Sp:=fun vs H Q _=>∃ p dx,vs=[.ref p]/\H p=some (.ins C dx [])/\∀ r H',(∀ b o,H b=some o->b≠p->H' b=some o)->(∀ b o,H b=some o->b≠r.dh/\b≠r.da/\b≠r.ls/\b≠r.lm)->bB K C H' p r emp->Q .non H'
theorem Ip (T:Tx K mg a):oM P w K mg base CX0 1 a.Net "Net" ["self"] (Jc K a.Net):=T.i_Net.cal fun f fd F=>by
 refine F.ok Im (fun vs H Q E h=>?_) (fun aw A outer s H vs Q E hr h=>?_)
 ·obtain⟨p,dx,rfl,_⟩:=h
  rfl
 ·obtain⟨p,dx,rfl,hp,k⟩:=h
  refine⟨_,(ao (jm (pv 0) qx Y)
   (ao (jm (pv 0) qx rfl)
   (ao (jm (pv 0) am rfl)
   (ao (jm (pv 0) (bH aj) rfl)
   (aq (jm (pv 0) (bH aj) rfl)))))),?_⟩
  refine fun d1 n1=>⟨_,Y,p,a.Net,dx,[],Y,by rw[ak (aE hp n1)];exact hp,T.c_Net,T.na_Net_halves,by decide,?_⟩
  refine fun d2 n2=>⟨_,Y,p,a.Net,dx,_,Y,by rw[ak (aE ah n2)];exact ah,T.c_Net,T.na_Net_arrows_by_number,by show 1<1000;decide,?_⟩
  refine⟨_,Y,p,a.Net,dx,_,Y,ah,T.c_Net,T.na_Net_next_number,by show 2<1000;decide,?_⟩;refine⟨by show 0<=sizeLine;decide,fun l1 n3=>⟨_,Y,p,a.Net,dx,_,Y,by rw[ak (aE ah n3)];exact ah,T.c_Net,T.na_Net_same_pairs,by show 3<1000;decide,?_⟩⟩;refine⟨by show 0<=sizeLine;decide,fun l2 n4=>⟨_,Y,p,a.Net,dx,_,Y,by rw[ak (aE ah n4)];exact ah,T.c_Net,T.na_Net_most_bounds,by show 4<1000;decide,?_⟩⟩;have p1:p≠d1:=aE hp n1;simp only[Jg] at n2 n3 n4
  show Q .non _;rw[Kz];have ne:∀ b o,H b=some o->∀ c,H c=none->b≠c:=fun b o e c h z=>by rw[z,h] at e;cases e
  refine k ⟨d1,d2,l1,l2⟩ _ (fun b o e hb=>?_) (fun b o e=>⟨ne b o e _ n1,ne b o e _ n2.2.2,ne b o e _ n3.2.2.2.2.2,ne b o e _ n4.2.2.2.2.2.2.2⟩) ⟨⟨dx,ah⟩,?_,⟨[],?_,Y⟩,⟨[],?_,Y⟩,⟨[],?_,Y⟩,n2.2.1,Ne.symm n4.2.1⟩
  ·simp[mT,hb,ne b o e _ n1,ne b o e _ n2.2.2,ne b o e _ n3.2.2.2.2.2,ne b o e _ n4.2.2.2.2.2.2.2,e]
  ·show _=some (HO.dK [])
   simp[mT,Ne.symm p1,Ne.symm n2.2.1,Ne.symm n3.2.2.2.2.1,Ne.symm n4.2.2.2.2.2.2.1]
  ·simp[mT,n2,Ne.symm n3.2.2.1,Ne.symm n4.2.2.2.2.1]
  ·simp[mT,n3,Ne.symm n4.2.1]
  ·simp[mT,n4]
def Ag (C:Addr) (f:Str):Sp:=fun vs H Q _=>∃ x t y,vs=[.ref x,y]/\H x=some (gQ C t x none)/\∀ dx,H dx=none->Q .non (upd (upd H dx (.xd [(f,y)])) x (gQ C t x (some dx)))
theorem Jk (T:Tx K mg a):tu P w K mg base CX0 1 a.NoPoint "NoPoint" ["self","name"] (Ag a.NoPoint "name"):=T.xi_NoPoint.cal fun f fd F=>by
 refine F.ok IE (fun vs H Q E h=>?_) (fun aw A outer s H vs Q E hr h=>?_)
 ·obtain⟨x,t,y,rfl,_⟩:=h
  rfl
 ·obtain⟨x,t,y,rfl,hx,k⟩:=h
  refine⟨_,(aq (AY (pv 0) (pv 1) Y)),?_⟩;exact⟨_,Y,_,Y,x,a.NoPoint,t,Y,hx,T.xs_NoPoint_name,fun dx nd=>k dx nd⟩
def gP (kvs:Kvs):List V:=kvs.map fun kv=>kV kv.1
def GB (K:PySem.W.Frag) (C:Addr):Sp:=fun vs H Q _=>∃ p r v,vs=[.ref p]/\bB K C H p r v/\∀ l,H l=none->Q (.ref l) (upd H l (.lst (gP v.kvs)))
theorem wY (T:Tx K mg a):eK P w K mg base CX0 1 a.Net "points" ["self"] [] (GB K a.Net):=T.m_Net_points.cal fun f fd F=>by
 refine F.ok Jo (fun vs H Q E h=>?_) (fun aw A outer s H vs Q E hr h=>?_)
 ·obtain⟨p,r,v,rfl,_⟩:=h
  rfl
 ·obtain⟨p,r,v,rfl,N,k⟩:=h
  obtain⟨dx,hp⟩:=N.ex;refine⟨_,(aq (aO (iC KG Y T.n_list wT (ag (cO (pv 0) Y) aj)))),?_⟩;exact⟨_,Y,p,a.Net,dx,_,_,Y,hp,T.c_Net,T.na_Net_halves,qz,r.dh,v.kvs,Y,N.hh,fun l hl=>k l hl⟩
inductive Er where
 | name | taken | point (n:Str) | alone | number | many | such (i:Int)
def qK (a:Adr) (E:XK):Er->Hp->Prop
 | .name,H=>E (.ref a.NoName) none H
 | .taken,H=>E (.ref a.Taken) none H
 | .point n,H=>∀ dx,H dx=some (.xd [("name",.str n)])->E (.ref a.NoPoint) (some dx) H
 | .alone,H=>E (.ref a.Alone) none H
 | .number,H=>E (.ref a.NoNumber) none H
 | .many,H=>E (.ref a.TooMany) none H
 | .such i,H=>∀ dx,H dx=some (.xd [("number",.int i)])->E (.ref a.NoSuch) (some dx) H
def jg (kvs:Kvs) (n:Str) (h:Int):Option Er:=
 if d4 n=false then some .name else if has kvs n=true then some .taken else if h<0\/50<h then some .number else if 20<=kvs.length then some .many else none
def spPut (K:PySem.W.Frag) (a:Adr):Sp:=fun vs H Q E=>∃ p r v n h,vs=[.ref p,.str n,.int h]/\n.length<=1000/\bB K a.Net H p r v/\v.kvs.length<=1000 /\
 (∀ er,jg v.kvs n h=some er->∀ H',af H H'->qK a E er H')/\(jg v.kvs n h=none->∀ H',Kp p r H H'->bB K a.Net H' p r { v with kvs:=v.kvs++[(Sum.inr n,.int h)] }->Q .non H')
theorem Iq (T:Tx K mg a) (f:Addr) (fd:FuncData) (F:dR K "put_point" "Net.put_point" sV f fd):bX P w K mg base (CXe P w) 3 f fd ["self","name","half"] (spPut K a):=by
 have gp:=K0 (P:=P) (w:=w) (base:=base) T;have bj:=Af (P:=P) (w:=w) (base:=base) T;refine F.okX Iw (fun vs H Q E h=>?_) (fun aw A outer s H vs Q E hr h=>?_)
 ·obtain⟨p,r,v,n,h,rfl,_⟩:=h
  rfl
 ·obtain⟨p,r,v,n,h,rfl,hn,N,hk,k1,k2⟩:=h
  refine⟨_,(ao (bG (gS (fL (bD gp (hr.mono (by decide)) rfl (ag (pv 1) aj)))) (aq (jS fS T.x_NoName rfl T.g_NoName)) bO)
   (ao (bG (qE (pc_din (eR hr) (pv 1) (cO (pv 0) rfl))) (aq (jS fS T.x_Taken rfl T.g_Taken)) bO)
   (ao (bG (gS (fL (bD bj (hr.mono (by decide)) rfl (ag (pv 2) (ag am (ag (kH rfl T.k_WIDEST_HALF) aj)))))) (aq (jS fS T.x_NoNumber rfl T.g_NoNumber)) bO)
   (ao (bG (bw wv (bu z6 rfl T.n_len cQ (ag (cO (pv 0) rfl) aj)) (kH rfl T.k_MOST_POINTS) (br _)) (aq (jS fS T.x_TooMany rfl T.g_TooMany)) bO)
   (aq (tS (eR hr) (cO (pv 0) rfl) (pv 1) (pv 2) rfl)))))),?_⟩
  refine⟨_,Y,n,Y,hn,fun H1 s1=>⟨_,Y,?_⟩⟩;have N1:=N.same s1;obtain⟨dx,hp⟩:=N1.ex;refine bE (fun c=>?_) (fun c=>?_)
  ·have c':d4 n=false:=by simpa using c
   exact⟨by show 0<=sizeLine;decide,k1 .name (by simp only[jg,if_pos c']) H1 s1⟩
  have c1:¬ d4 n=false:=by
   have:d4 n=true:=by simpa using c
   rw[this];decide
  refine⟨_,Y,_,Y,p,a.Net,dx,_,_,Y,hp,T.c_Net,T.na_Net_halves,qz,r.dh,_,Y,df.k (k:=Sum.inr n) N1.hh,_,Y,?_⟩;refine bE (fun c=>?_) (fun c=>?_)
  ·have c':has v.kvs n=true:=c
   exact⟨by show 0<=sizeLine;decide,k1 .taken (by simp only[jg,if_neg c1,if_pos c']) H1 s1⟩
  have c2:¬ has v.kvs n=true:=by rw[show has v.kvs n=false from c];decide
  refine⟨_,Y,h,0,50,Y,_,Y,?_⟩;refine bE (fun c=>?_) (fun c=>?_)
  ·have c':h<0\/50<h:=by
    simp only[NW,Ny,Nt] at c
    omega
   exact⟨by show 0<=sizeLine;decide,k1 .number (by simp only[jg,if_neg c1,if_neg c2,if_pos c']) H1 s1⟩
  have c3:¬ (h<0\/50<h):=by
   simp only[Oy,Mz,NZ] at c
   omega
  refine⟨_,Y,p,a.Net,dx,_,_,Y,hp,T.c_Net,T.na_Net_halves,qz,r.dh,v.kvs,Y,N1.hh,_,_,Y,Y,_,Y,?_⟩;refine bE (fun c=>?_) (fun c=>?_)
  ·have c':20<=v.kvs.length:=by
    have:(20:Int)<=v.kvs.length:=MP c;omega
   exact⟨by show 0<=sizeLine;decide,k1 .many (by simp only[jg,if_neg c1,if_neg c2,if_neg c3,if_pos c']) H1 s1⟩
  have c4:¬ 20<=v.kvs.length:=by
   have:¬ (20:Int)<=v.kvs.length:=MZ c;omega
  refine⟨_,Y,_,Y,p,a.Net,dx,_,_,Y,hp,T.c_Net,T.na_Net_halves,qz,_,Y,r.dh,_,Y,nA.k (k:=Sum.inr n) N1.hh (by rw[Mh];omega),?_⟩;show Q .non _;have e:bc v.kvs (Sum.inr n)=none:=by
   have:(bc v.kvs (Sum.inr n)).isSome=false:=c2 |> fun z=>by simpa [has] using z
   simpa using this
  rw[sW (.int h) e];refine k2 (by simp only[jg,if_neg c1,if_neg c2,if_neg c3,if_neg c4]) _ (fun b o q _ z2 _ _ _=>by rw[ak z2];exact s1 _ _ q) ?_;obtain⟨_,h2,⟨bV,h3,h4⟩,⟨xs,h5,h6⟩,⟨ys,h7,h8⟩,n1,n2⟩:=N1;have tk:Tk H1 (upd H1 r.dh (.dK (v.kvs++[(Sum.inr n,.int h)]))):=Tk.upd h2 rfl;exact⟨⟨dx,by rw[ak (cz hp h2 (by intro z;cases z))];exact hp⟩,ah,⟨bV,by rw[ak n1];exact h3,tk.arr h4⟩,⟨xs,by rw[ak (cz h5 h2 (by intro z;cases z))];exact h5,tk.dts (dX (fun _=>Y) _) h6⟩,
   ⟨ys,by rw[ak (cz h7 h2 (by intro z;cases z))];exact h7,tk.dts (dX (fun _=>Y) _) h8⟩,n1,n2⟩
theorem ok_put (T:Tx K mg a):eK P w K mg base (CXe P w) 3 a.Net "put_point" ["self","name","half"] [] (spPut K a):=T.m_Net_put_point.cal fun f fd F=>Iq T f fd F
def spNeed (K:PySem.W.Frag) (a:Adr):Sp:=fun vs H Q E=>∃ p r v n,vs=[.ref p,.str n]/\bB K a.Net H p r v/\(has v.kvs n=true->∀ H',af H H'->Q .non H') /\
 (has v.kvs n=false->∀ H',af H H'->qK a E (.point n) H')
theorem B0 (n:Str):∀ kvs:Kvs,inV (.str n) (gP kvs)=has kvs n
 | []=>rfl
 | (k,v)::r=>by
  have ih:=B0 n r;show(eqV (kV k) (.str n) || inV (.str n) (gP r))=has ((k,v)::r) n;rw[ih];cases k with
  | inl i=>
   have:¬ (Sum.inl i:Key)=Sum.inr n:=by intro z;cases z
   unfold has;rw[eW (p:=(Sum.inl i,v)) this];rfl
  | inr m=>
   by_cases h:m=n
   ·subst h
    unfold has;rw[gB (p:=(Sum.inr m,v)) rfl];simp[kV,eqV]
   ·have:¬ (Sum.inr m:Key)=Sum.inr n:=by intro z;cases z;exact h rfl
    unfold has;rw[eW (p:=(Sum.inr m,v)) this];simp[kV,eqV,h]
theorem AS:∀ kvs:Kvs,(gP kvs).all gW=true
 | []=>rfl
 | (k,v)::r=>by
  show(gW (kV k) && (gP r).all gW)=true;rw[AS r];cases k <;> rfl
theorem BF (T:Tx K mg a):eK P w K mg base (CXe P w) 3 a.Net "need_point" ["self","name"] [] (spNeed K a):=T.m_Net_need_point.cal fun f fd F=>by
 have m_Net_points:=wY (P:=P) (w:=w) (base:=base) T;have gw:=Jk (P:=P) (w:=w) (base:=base) T;refine F.okX HF (fun vs H Q E h=>?_) (fun aw A outer s H vs Q E hr h=>?_)
 ·obtain⟨p,r,v,n,rfl,_⟩:=h
  rfl
 ·obtain⟨p,r,v,n,rfl,N,k1,k2⟩:=h
  obtain⟨dx,hp⟩:=N.ex;refine⟨_,(aq (bG (bw Gz (pv 1) (cy (pv 0) T.c_Net m_Net_points (hr.mono (by decide))) (by with_unfolding_all rfl)) (aq (AW fS gw (hr.mono (by decide)) rfl (ag (pv 1) aj))) bO)),?_⟩;refine⟨_,Y,_,Y,p,dx,_,Y,hp,by rfl,p,r,v,Y,N,fun l hl=>⟨l,_,Y,.inl (SqL.of ah),Y,AS v.kvs,_,Y,?_⟩⟩;rw[B0];refine bE (fun c=>?_) (fun c=>?_)
  ·have c':has v.kvs n=false:=by simpa using c
   refine⟨_,Y,by show 1<=sizeLine;decide,fun x t hx=>⟨x,t,_,Y,ah,fun d nd=>⟨Y,some d,ah,?_⟩⟩⟩;have xd:d≠x:=fun z=>by rw[z,ah] at nd;cases nd
   have e:del (upd (upd (upd (upd H l (.lst (gP v.kvs))) x (gQ a.NoPoint t x none)) d (.xd [("name",.str n)])) x (gQ a.NoPoint t x (some d))) x=upd (upd H l (.lst (gP v.kvs))) d (.xd [("name",.str n)]):=by
    funext b
    unfold del;by_cases h1:b=x
    ·subst h1
     rw[if_pos rfl,ak (Ne.symm xd),hx]
    ·rw[if_neg h1,ak h1]
     by_cases h2:b=d
     ·subst h2;rw[ah,ah]
     ·rw[ak h2,ak h1,ak h2]
   show E _ _ _;rw[e];have jz:upd H l (.lst (gP v.kvs)) d=none:=by rw[ak xd] at nd;exact nd
   exact k2 c' _ ((af.new hl).trans (af.new jz)) d ah
  ·have c':has v.kvs n=true:=by simpa using c
   exact k1 c' _ (af.new hl)
end
section
variable {K:PySem.W.Frag}
theorem wz {x:Ar} (h:SqT K H q (.int x.num::arV x)):DtV K H (arD x) (.ref q):=⟨q,_,Y,h,_,_,Y,Y,_,_,Y,Y,_,_,Y,Y,_,_,Y,Y,_,_,Y,Y,Y⟩
def two (kvs:Kvs) (o t:Str):Option Er:=
 if has kvs o=false then some (.point o) else if has kvs t=false then some (.point t) else if o=t then some .alone else none
def spTwo (K:PySem.W.Frag) (a:Adr):Sp:=fun vs H Q E=>∃ p r v o t,vs=[.ref p,.str o,.str t]/\bB K a.Net H p r v/\(two v.kvs o t=none->∀ H',af H H'->Q .non H') /\
 (∀ er,two v.kvs o t=some er->∀ H',af H H'->qK a E er H')
theorem ok_two (T:Tx K mg a):eK P w K mg base (CXe P w) 4 a.Net "need_two_points" ["self","one","other"] [] (spTwo K a):=T.m_Net_need_two_points.cal fun f fd F=>by
 have m_Net_need_point:=BF (P:=P) (w:=w) (base:=base) T;refine F.okX FL (fun vs H Q E h=>?_) (fun aw A outer s H vs Q E hr h=>?_)
 ·obtain⟨p,r,v,o,t,rfl,_⟩:=h
  rfl
 ·obtain⟨p,r,v,o,t,rfl,N,k1,k2⟩:=h
  obtain⟨dx,hp⟩:=N.ex;refine⟨_,(ao (ck (kK (pv 0) T.c_Net m_Net_need_point fS (hr.mono (by decide)) (ag (pv 1) aj)))
   (ao (ck (kK (pv 0) T.c_Net m_Net_need_point fS (hr.mono (by decide)) (ag (pv 2) aj)))
   (aq (bG (bw rz (pv 1) (pv 2) (br _)) (aq (jS fS T.x_Alone rfl T.g_Alone)) bO)))),?_⟩
  refine⟨_,Y,p,dx,_,Y,hp,by rfl,_,Y,p,r,v,o,Y,N,fun c1 H1 s1=>?_,fun c=>k2 _ (by simp only[two,if_pos c])⟩;have vY:¬ has v.kvs o=false:=by rw[c1];decide
  refine⟨_,Y,p,dx,_,Y,s1 _ _ hp,by rfl,_,Y,p,r,v,t,Y,N.same s1,fun c2 H2 s2=>?_,fun c H2 s2=>k2 _ (by simp only[two,if_neg vY,if_pos c]) H2 (s1.trans s2)⟩;have zc:¬ has v.kvs t=false:=by rw[c2];decide
  refine⟨_,Y,_,Y,Y,_,Y,?_⟩;refine bE (fun c=>?_) (fun c=>?_)
  ·have c3:o=t:=by simpa using c
   exact⟨by show 0<=sizeLine;decide,k2 .alone (by simp only[two,if_neg vY,if_neg zc,if_pos c3]) H2 (s1.trans s2)⟩
  ·have c3:¬ o=t:=by simpa using c
   exact k1 (by simp only[two,if_neg vY,if_neg zc,if_neg c3]) H2 (s1.trans s2)
def bad:Option Int->Bool
 | none=>false
 | some n=>decide (n<0) || decide (99<n)
def lim (kvs:Kvs) (m:Nat) (o t:Str) (nh:Option Int):Option Er:=
 match two kvs o t with
 | some er=>some er
 | none=>if bad nh=true then some .number else if 20<=m then some .many else none
def mV (v:cI) (o t:Str) (sp wt:Int):Option Er:=
 match two v.kvs o t with
 | some er=>some er
 | none=>if (sp<1\/20<sp)\/(wt<1\/1000000<wt) then some .number else if 40<=v.arr.length then some .many else none
theorem Iv {o t:Str}{er:Er} (h:two v.kvs o t=some er):mV v o t sp wt=some er:=by unfold mV;rw[h]
theorem Cc {o t:Str} (h:two v.kvs o t=none):mV v o t sp wt=if (sp<1\/20<sp)\/(wt<1\/1000000<wt) then some .number else if 40<=v.arr.length then some .many else none:=by unfold mV;rw[h]
def Aa (K:PySem.W.Frag) (a:Adr):Sp:=fun vs H Q E=>∃ p r v o t sp wt,vs=[.ref p,.str o,.str t,.int sp,.int wt]/\bB K a.Net H p r v/\v.arr.length<=1000/\(∀ q∈v.arr,q.num<v.nn) /\
 (mV v o t sp wt=none->∀ H',Kp p r H H'->bB K a.Net H' p r { v with arr:=v.arr++[⟨v.nn,o,t,sp,wt⟩],nn:=v.nn + 1 }->Q (.int v.nn) H') /\
 (∀ er,mV v o t sp wt=some er->∀ H',af H H'->qK a E er H')
theorem BC {H:Hp}{n:Int}:∀ {qs:List Ar}{kvs:Kvs},fM K H qs kvs->(∀ q∈qs,q.num<n)->bc kvs (Sum.inl n)=none
 | [],_,h,_=>by rw[show _=[] from h];rfl
 | q::qs,_,h,l=>by
  obtain⟨t,r,rfl,h1,h2⟩:=h;have ne:¬ (Sum.inl q.num:Key)=Sum.inl n:=fun z=>by
   have:=l q Ms;cases z
   omega
  rw[eW (p:=(Sum.inl q.num,V.ref t)) ne];exact BC h2 fun q' dA=>l q' (Mo _ dA)
theorem KO (T:Tx K mg a) (f:Addr) (fd:FuncData) (F:dR K "put_arrow" "Net.put_arrow" qW f fd):bX P w K mg base (CXe P w) 5 f fd ["self","one","other","span","weight"] (Aa K a):=by
 have m_Net_need_two_points:=ok_two (P:=P) (w:=w) (base:=base) T;have bj:=Af (P:=P) (w:=w) (base:=base) T;refine F.okX A4 (fun vs H Q E h=>?_) (fun aw A outer s H vs Q E hr h=>?_)
 ·obtain⟨p,r,v,o,t,sp,wt,rfl,_⟩:=h
  rfl
 ·obtain⟨p,r,v,o,t,sp,wt,rfl,N,hk,hU,k1,k2⟩:=h
  obtain⟨dx,hp⟩:=N.ex;refine⟨_,(ao (ck (kK (pv 0) T.c_Net m_Net_need_two_points fS (hr.mono (by decide)) (ag (pv 1) (ag (pv 2) aj))))
   (ao (bG (PW.pt (eJ (gS (fL (bD bj (hr.mono (by decide)) rfl (ag (pv 3) (ag am (ag (kH rfl T.k_LONGEST_SPAN) aj)))))) (gH (gS (fL (bD bj (hr.mono (by decide)) rfl (ag (pv 4) (ag am (ag (kH rfl T.k_GREATEST_WEIGHT) aj))))))))) (aq (jS fS T.x_NoNumber rfl T.g_NoNumber)) bO)
   (ao (bG (bw wv (bu z6 rfl T.n_len cQ (ag (cO (pv 0) rfl) aj)) (kH rfl T.k_MOST_ARROWS) (br _)) (aq (jS fS T.x_TooMany rfl T.g_TooMany)) bO)
   (ao (aU (i:=5) A4.nd Y (.inl Y) (cO (pv 0) Y))
   (ao (tS (eR hr) (cO (pv 0) rfl) (pv 5) (gk (ag (pv 1) (ag (pv 2) (ag (pv 3) (ag (pv 4) aj))))) rfl)
   (ao (jm (pv 0) (aG dZ (pv 5) am) rfl)
   (aq (aO (pv 5))))))))),?_⟩
  refine⟨_,Y,p,dx,_,Y,hp,by rfl,_,Y,_,Y,p,r,v,o,t,Y,N,fun c1 H1 s1=>?_,fun er c=>k2 er (Iv c)⟩;rw[Cc c1] at k1 k2;have N1:=N.same s1;obtain⟨bV,h3,h4⟩:=N1.ha;have bq:=s1 _ _ hp;have hl:bV.length=v.arr.length:=by rw[<- h4.length]
  have o6:((sp<1\/20<sp)\/(wt<1\/1000000<wt))->_:=fun c=>k2 .number (by rw[if_pos c]) H1 s1
  refine⟨_,Y,sp,1,20,Y,_,Y,?_⟩;refine bE (fun c=>?_) (fun c=>?_)
  ·have c':sp<1\/20<sp:=by
    simp only[NW,Ny,Nt] at c
    omega
   exact lp ⟨by show 0<=sizeLine;decide,o6 (.inl c')⟩
  have c3:¬ (sp<1\/20<sp):=by
   simp only[Oy,Mz,NZ] at c
   omega
  refine⟨_,Y,wt,1,1000000,Y,_,Y,?_⟩;refine bE (fun c=>?_) (fun c=>?_)
  ·have c':wt<1\/1000000<wt:=by
    simp only[NW,Ny,Nt] at c
    omega
   exact⟨by show 0<=sizeLine;decide,o6 (.inr c')⟩
  have c4:¬ (wt<1\/1000000<wt):=by
   simp only[Oy,Mz,NZ] at c
   omega
  rw[if_neg (fun z=>z.elim c3 c4)] at k1 k2;refine⟨_,Y,p,a.Net,dx,_,_,Y,bq,T.c_Net,T.na_Net_arrows_by_number,qJ,r.da,bV,Y,h3,_,_,Y,Y,_,Y,?_⟩;refine bE (fun c=>?_) (fun c=>?_)
  ·have c':40<=v.arr.length:=by
    have:(40:Int)<=bV.length:=MP c;omega
   exact⟨by show 0<=sizeLine;decide,k2 .many (by rw[if_pos c']) H1 s1⟩
  have c':¬ 40<=v.arr.length:=by
   have:¬ (40:Int)<=bV.length:=MZ c;omega
  refine⟨_,Y,p,a.Net,dx,_,_,Y,bq,T.c_Net,T.na_Net_next_number,lk_nn,?_⟩;refine⟨_,Y,_,Y,_,Y,_,Y,(by show 4<=sizeLine;decide),fun q nq=>?_⟩;have s2:af H1 (upd H1 q (.tup [.str o,.str t,.int sp,.int wt])):=af.new nq;have hq:SqT K (upd H1 q (.tup [.str o,.str t,.int sp,.int wt])) q (arV ⟨v.nn,o,t,sp,wt⟩):=SqT.of ah;generalize upd H1 q (.tup [.str o,.str t,.int sp,.int wt])=H2 at s2 hq ⊢;have gZ:=s2 _ _ bq;have nO:=s2 _ _ h3;refine⟨_,Y,p,a.Net,dx,_,_,Y,gZ,T.c_Net,T.na_Net_arrows_by_number,qJ,_,Y,r.da,_,Y,nA.k (k:=Sum.inl v.nn) nO (by rw[Mh];omega),?_⟩;rw[sW (.ref q) (BC h4 hU)];have nR:upd H2 r.da (.dK (bV++[(Sum.inl v.nn,.ref q)])) p=some (.ins a.Net dx (iI r.dh r.da v.nn r.ls r.lm)):=by rw[ak (cz gZ nO (by intro z;cases z))];exact gZ
  refine⟨_,Y,_,_,Y,Y,_,Y,p,a.Net,dx,_,Y,nR,T.c_Net,T.na_Net_next_number,by show 5<1000;decide,?_⟩;rw[Hg];refine⟨_,Y,?_⟩;show Q (.int v.nn) _;refine k1 (by rw[if_neg c']) _ (fun b u e z1 _ z3 _ _=>by rw[ak z1,ak z3];exact s2 _ _ (s1 _ _ e)) ?_;obtain⟨⟨LG,_⟩,h2,_,⟨xs,h5,h6⟩,⟨ys,h7,h8⟩,n1,n2⟩:=N1.same s2;have tk:Tk H2 (upd (upd H2 r.da (.dK (bV++[(Sum.inl v.nn,.ref q)]))) p (.ins a.Net dx (iI r.dh r.da (v.nn + 1) r.ls r.lm))):=(Tk.upd nO Y).trans (Tk.upd nR Y);have ne:∀ b u,H2 b=some u->b≠p->b≠r.da->upd (upd H2 r.da (.dK (bV++[(Sum.inl v.nn,.ref q)]))) p (.ins a.Net dx (iI r.dh r.da (v.nn + 1) r.ls r.lm)) b=some u:=fun b u e z1 z3=>by rw[ak z1,ak z3];exact e
  exact⟨⟨dx,ah⟩,ne _ _ h2 (cz h2 gZ (by intro z;cases z)) (Ne.symm n1),⟨_,(by rw[ak (cz nO gZ (by intro z;cases z))];exact ah),(tk.arr ((Tk.of s2).arr h4)).snoc (tk.sqT hq)⟩,
   ⟨xs,ne _ _ h5 (cz h5 gZ (by intro z;cases z)) (cz h5 nO (by intro z;cases z)),tk.dts (dX (fun _=>Y) _) h6⟩,⟨ys,ne _ _ h7 (cz h7 gZ (by intro z;cases z)) (cz h7 nO (by intro z;cases z)),tk.dts (dX (fun _=>Y) _) h8⟩,n1,n2⟩
theorem JV (T:Tx K mg a):eK P w K mg base (CXe P w) 5 a.Net "put_arrow" ["self","one","other","span","weight"] [] (Aa K a):=T.m_Net_put_arrow.cal fun f fd F=>KO T f fd F
def spRows (K:PySem.W.Frag) (C:Addr) (f:cI->List Dt):Sp:=fun vs H Q _=>∃ p r v,vs=[.ref p]/\bB K C H p r v/\(f v).length<=1000/\∀ l H' xs,af H H'->H l=none->H' l=some (.lst xs)->aM K H' (f v) xs->Tps H' xs->Q (.ref l) H'
theorem xy (T:Tx K mg a):eK P w K mg base CX0 1 a.Net "arrows" ["self"] [] (spRows K a.Net fun v=>v.arr.map arD):=T.m_Net_arrows.cal fun f fd F=>by
 refine F.ok JJ (fun vs H Q E h=>?_) (fun aw A outer s H vs Q E hr h=>?_)
 ·obtain⟨p,r,v,rfl,_⟩:=h
  rfl
 ·obtain⟨p,r,v,rfl,N,hk,k⟩:=h
  obtain⟨dx,hp⟩:=N.ex;obtain⟨bV,h2,h4⟩:=N.ha;have hl:=h4.length;dsimp only at hk;rw[L9] at hk;refine⟨_,(aq (aO (GM (eX (N:=["number","arrow"]) (cap:=[none,none]) Y (cH (osc:=aA xH) (XN:=["self"]) Y Y (by decide +kernel)) (HK (sJ PySem.F.plainAttrs_dict PySem.F.slot_dict_items PySem.F.type_dict_items IC (cO (pv 0) rfl))) (fun cl C s H fp aa=>(tL (K:=K) (n:=2) Y Y (aQ (aD (i:=0) (show(["number","arrow"]:List Str).Nodup by decide +kernel) rfl (.inl rfl)) (aQ (aD (i:=1) (show(["number","arrow"]:List Str).Nodup by decide +kernel) rfl (.inl rfl)) fU)))) (fun cl C s H fp aa=>dM) (fun cl C s H fp aa=>(gk (ag (pv 0) (ag (aF (mF (K:=K) Y) (pv 1) am (fun _ _=>Y)) (ag (aF (mF (K:=K) Y) (pv 1) am (fun _ _=>Y)) (ag (aF (mF (K:=K) Y) (pv 1) am (fun _ _=>Y)) (ag (aF (mF (K:=K) Y) (pv 1) am (fun _ _=>Y)) aj))))))))))),?_⟩;refine⟨r.da,bV,h2,_,Y,p,a.Net,dx,_,_,Y,hp,T.c_Net,T.na_Net_arrows_by_number,qJ,.inr (.inr (.inl ⟨Y,.inl ⟨_,h2⟩⟩)),r.da,bV,Y,Y,h2,fun w nw=>⟨w,r.da,bV,Y,ah,by rw[ak (aE h2 nw)];exact h2,fun o D hD=>?_⟩⟩;have dw:r.da≠w:=aE h2 nw;have dD:r.da≠D:=aE ah hD;have nD:upd H w (qP w r.da) D=none:=by rw[ak (Ne.symm dD)] at hD;exact hD
  have HD:H D=none:=by
   cases hq:H D with
   | none=>rfl
   | some u=>
    have:=(af.new (o:=qP w r.da) nw) D u hq;rw[nD] at this;cases this
  refine F0 (d:=r.da) (o:=o) (kvs:=bV) (fun i τ H'=>∃ v1 v2 ys,τ=[v1,v2]/\(∀ b u,H b=some u->b≠r.da->H' b=some u)/\H' r.da=some (.frz o (.dK bV))/\H' D=some (.lst ys)/\aM K H' ((v.arr.take i).map arD) ys/\Tps H' ys)
   ⟨none,none,[],rfl,fun b u e hb=>by rw[ak (aE e HD),ak hb];exact af.new nw b u e,by rw[ak dD];exact ah,ah,Y,Tps.nil⟩ ?_ ?_ ?_
  ·rintro i τ H' _ ⟨v1,v2,ys,rfl,fr,hz,hy,hd,tp⟩
   exact hz
  ·rintro i ky x T' τ H' hx hT ⟨v1,v2,ys,rfl,fr,hf,hy,hd,tp⟩
   obtain⟨q,t,hq,rfl,rfl,h1⟩:=h4.get hx;have E9:Tk H H':=fun b u e z=>fr b u e fun w=>by subst w;rw[h2] at e;cases e;cases z
   have yX:ys.length<=v.arr.length:=by rw[<- hd.length,L9,Ml];exact Nat.min_le_right _ _
   have s1:af H' (upd H' T' (.tup [kV (Sum.inl q.num),.ref t])):=af.new hT;have lE:=s1.sqT (E9.sqT h1);have xS:SqT K (upd H' T' (.tup [kV (Sum.inl q.num),.ref t])) T' [kV (Sum.inl q.num),.ref t]:=SqT.of ah;have iS:=s1 _ _ hy;have yR:=s1 _ _ hf;have cv:=s1.dts hd;have zo:=s1;have qq:∀ b u,H b=some u->b≠r.da->upd H' T' (.tup [kV (Sum.inl q.num),.ref t]) b=some u:=fun b u e z=>s1 _ _ (fr b u e z)
   generalize upd H' T' (.tup [kV (Sum.inl q.num),.ref t])=H1 at lE xS iS yR cv zo qq ⊢;refine⟨T',_,Y,xS,Y,_,_,Y,_,_,Y,Y,?_⟩;dsimp only[cJ];rw[if_pos rfl];refine⟨_,Y,_,Y,t,arV q,_,_,Y,Y,lE,Y,_,Y,t,arV q,_,_,Y,Y,lE,Y,_,Y,t,arV q,_,_,Y,Y,lE,Y,_,Y,t,arV q,_,_,Y,Y,lE,Y,(by show 5<=sizeLine;decide),fun z nz=>?_⟩;have s3:af H1 (upd H1 z (.tup [kV (Sum.inl q.num),.str q.one,.str q.other,.int q.span,.int q.weight])):=af.new nz;have xU:upd H1 z (.tup [kV (Sum.inl q.num),.str q.one,.str q.other,.int q.span,.int q.weight]) z=some (.tup (.int q.num::arV q)):=ah;have zO:=(tp.tk (Tk.of zo)).tk (Tk.of s3);have hz:SqT K (upd H1 z (.tup [kV (Sum.inl q.num),.str q.one,.str q.other,.int q.span,.int q.weight])) z (.int q.num::arV q):=SqT.of ah;have gy:=s3 _ _ iS;have rB:=s3.dts cv;have zm:=s3 _ _ yR;have pe:∀ b u,H b=some u->b≠r.da->upd H1 z (.tup [kV (Sum.inl q.num),.str q.one,.str q.other,.int q.span,.int q.weight]) b=some u:=fun b u e w=>s3 _ _ (qq b u e w)
   generalize upd H1 z (.tup [kV (Sum.inl q.num),.str q.one,.str q.other,.int q.span,.int q.weight])=H3 at hz xU zO gy rB zm pe ⊢;have tk:Tk H3 (upd H3 D (.lst (ys++[.ref z]))):=Tk.upd gy rfl;refine⟨ys,gy,by rw[Mh];omega,_,_,_,Y,fun b u e w=>by rw[ak (aE e HD)];exact pe b u e w,by rw[ak dD];exact zm,ah,?_,(zO.snoc xU).tk tk⟩;rw[bP hq,Mf];exact aM.snoc (wz (tk.sqT hz)) (tk.dts (dX (fun _=>Y) _) rB)
  ·rintro τ H' ⟨v1,v2,ys,rfl,fr,hf,hy,hd,tp⟩
   rw[<- hl,Mu] at hd;refine⟨o,hf,?_⟩;have tk:Tk H' (upd H' r.da (.dK bV)):=Tk.upd hf rfl;refine k D _ ys (fun b u e=>?_) HD (by rw[ak (Ne.symm dD)];exact hy) (tk.dts (dX (fun _=>Y) _) hd) (tp.tk tk);by_cases hb:b=r.da
   ·subst hb
    rw[h2] at e;cases e
    exact ah
   ·rw[ak hb]
    exact fr b u e hb
end
section
variable {K:PySem.W.Frag}
theorem Ks (T:Tx K mg a):tu P w K mg base CX0 1 a.NoSuch "NoSuch" ["self","number"] (Ag a.NoSuch "number"):=T.xi_NoSuch.cal fun f fd F=>by
 refine F.ok F3 (fun vs H Q E h=>?_) (fun aw A outer s H vs Q E hr h=>?_)
 ·obtain⟨x,t,y,rfl,_⟩:=h
  rfl
 ·obtain⟨x,t,y,rfl,hx,k⟩:=h
  refine⟨_,(aq (AY (pv 0) (pv 1) Y)),?_⟩;exact⟨_,Y,_,Y,x,a.NoSuch,t,Y,hx,T.xs_NoSuch_number,fun dx nd=>k dx nd⟩
def m6 (arr:List Ar) (i:Int):Bool:=arr.any fun q=>decide (q.num=i)
def fG (arr:List Ar) (i:Int):List Ar:=arr.filter fun q=>decide (q.num≠i)
theorem wa {H:Hp}{i:Int}:∀ {qs:List Ar}{kvs:Kvs},fM K H qs kvs->(bc kvs (Sum.inl i)).isSome=m6 qs i
 | [],_,h=>by rw[show _=[] from h];rfl
 | q::qs,_,h=>by
  obtain⟨t,r,rfl,h1,h2⟩:=h;show _=(decide (q.num=i) || m6 qs i);by_cases e:q.num=i
  ·rw[gB (p:=(Sum.inl q.num,V.ref t)) (by rw[e]),MH e]
   rfl
  ·rw[eW (p:=(Sum.inl q.num,V.ref t)) (fun z=>e (Sum.inl.inj z)),ME e,wa h2]
   rfl
theorem wU {H:Hp}{i:Int}:∀ {qs:List Ar}{kvs:Kvs},fM K H qs kvs->fM K H (fG qs i) (gF kvs (Sum.inl i))
 | [],_,h=>by rw[show _=[] from h];rfl
 | q::qs,_,h=>by
  obtain⟨t,r,rfl,h1,h2⟩:=h;by_cases e:q.num=i
  ·rw[J5 (p:=(Sum.inl q.num,V.ref t)) (by rw[e])]
   have:fG (q::qs) i=fG qs i:=by unfold fG;rw[MD,if_neg (by simp[e])]
   rw[this];exact wU h2
  ·rw[HQ (p:=(Sum.inl q.num,V.ref t)) (fun z=>e (Sum.inl.inj z))]
   have:fG (q::qs) i=q::fG qs i:=by unfold fG;rw[MD,if_pos (by simp[e])]
   rw[this];exact⟨t,_,Y,h1,wU h2⟩
def spTake (K:PySem.W.Frag) (a:Adr):Sp:=fun vs H Q E=>∃ p r v i,vs=[.ref p,.int i]/\bB K a.Net H p r v /\
 (m6 v.arr i=true->∀ H',Kp p r H H'->bB K a.Net H' p r { v with arr:=fG v.arr i }->Q .non H') /\
 (m6 v.arr i=false->∀ H',af H H'->qK a E (.such i) H')
theorem Ho (T:Tx K mg a):eK P w K mg base (CXe P w) 3 a.Net "take_arrow" ["self","number"] [] (spTake K a):=T.m_Net_take_arrow.cal fun f fd F=>by
 have bL:=BV (P:=P) (w:=w) (base:=base) T;have hJ:=Ks (P:=P) (w:=w) (base:=base) T;refine F.okX JH (fun vs H Q E h=>?_) (fun aw A outer s H vs Q E hr h=>?_)
 ·obtain⟨p,r,v,i,rfl,_⟩:=h
  rfl
 ·obtain⟨p,r,v,i,rfl,N,k1,k2⟩:=h
  obtain⟨dx,hp⟩:=N.ex;obtain⟨bV,h3,h4⟩:=N.ha;refine⟨_,(ao (bG (PW.pt (eJ (gS (fL (bD bL (hr.mono (by decide)) rfl (ag (pv 1) aj)))) (gH (qE (Ck (eR hr) (pv 1) (cO (pv 0) rfl)))))) (aq (AW fS hJ (hr.mono (by decide)) rfl (ag (pv 1) aj))) bO)
   (aq (ck (Iu (cO (pv 0) rfl) (pv 1) ⟨rfl,rfl,rfl,rfl⟩)))),?_⟩
  refine⟨_,Y,i,Y,_,Y,cg Y ?_⟩;refine⟨_,Y,_,Y,p,a.Net,dx,_,_,Y,hp,T.c_Net,T.na_Net_arrows_by_number,qJ,r.da,_,Y,df.k (k:=Sum.inl i) h3,_,Y,?_⟩;rw[wa h4];refine bE (fun c=>?_) (fun c=>?_)
  ·have c':m6 v.arr i=false:=by simpa using c
   refine⟨_,Y,by show 1<=sizeLine;decide,fun x t hx=>⟨x,t,_,Y,ah,fun d nd=>⟨Y,some d,ah,?_⟩⟩⟩;have xd:d≠x:=fun z=>by rw[z,ah] at nd;cases nd
   have e:del (upd (upd (upd H x (gQ a.NoSuch t x none)) d (.xd [("number",.int i)])) x (gQ a.NoSuch t x (some d))) x=upd H d (.xd [("number",.int i)]):=by
    funext b
    unfold del;by_cases h1:b=x
    ·subst h1
     rw[if_pos rfl,ak (Ne.symm xd),hx]
    ·rw[if_neg h1,ak h1]
     by_cases h2:b=d
     ·subst h2;rw[ah,ah]
     ·rw[ak h2,ak h1,ak h2]
   show E _ _ _;rw[e];have jz:H d=none:=by rw[ak xd] at nd;exact nd
   exact k2 c' _ (af.new jz) d ah
  ·have c':m6 v.arr i=true:=by simpa using c
   obtain⟨y,hy⟩:=Option.isSome_iff_exists.mp ((wa (i:=i) h4).trans c');refine⟨_,Y,p,a.Net,dx,_,_,Y,hp,T.c_Net,T.na_Net_arrows_by_number,qJ,r.da,Y,.inl ⟨_,.inl h3⟩,_,Y,bV,Sum.inl i,y,h3,Y,hy,?_⟩;refine k1 c' _ (fun b u e _ _ z3 _ _=>by rw[ak z3];exact e) ?_;obtain⟨_,h2,_,⟨xs,h5,h6⟩,⟨ys,h7,h8⟩,n1,n2⟩:=N;have tk:Tk H (upd H r.da (.dK (gF bV (Sum.inl i)))):=Tk.upd h3 rfl;exact⟨⟨dx,by rw[ak (cz hp h3 (by intro z;cases z))];exact hp⟩,by rw[ak (Ne.symm n1)];exact h2,⟨_,ah,tk.arr (wU h4)⟩,⟨xs,by rw[ak (cz h5 h3 (by intro z;cases z))];exact h5,tk.dts (dX (fun _=>Y) _) h6⟩,
    ⟨ys,by rw[ak (cz h7 h3 (by intro z;cases z))];exact h7,tk.dts (dX (fun _=>Y) _) h8⟩,n1,n2⟩
end
inductive iL (ar:List Ar) (s:Str):Str->List Int->Prop
 | nil:iL ar s s []
 | snoc {p:Str}{zs:List Int}{q:Ar}:iL ar s p zs->q∈ar->q.one=p->iL ar s q.other (zs++[q.num])
def dm (ar:List Ar) (s t:Str):Prop:=∃ zs,iL ar s t zs
theorem kP {x y:Str}{v:V} (h:has kvs x=false):has (kvs++[(Sum.inr x,v)]) y=(decide (y=x) || has kvs y):=by
 unfold has at h ⊢;have e:bc kvs (Sum.inr x)=none:=by simpa using h
 rw[wS (Sum.inr x) (Sum.inr y) v kvs e];by_cases z:y=x
 ·rw[if_pos (by rw[z]),MH z]
  rfl
 ·rw[if_neg (fun q=>z (Sum.inr.inj q)),ME z]
  rfl
def je (ar:List Ar) (kvs:Kvs):Nat:=(ar.filter fun q=>!has kvs q.other).length
theorem Cv (ar:List Ar) (kvs:Kvs):je ar kvs<=ar.length:=Nr _ _
theorem Bz {α:Type}{f g:α->Bool}:∀ {l:List α}{q:α},(∀ x,g x=true->f x=true)->q∈l->f q=true->g q=false->(l.filter g).length<(l.filter f).length
 | x::l,q,h,hq,h1,h2=>by
  rw[MD,MD];have le:∀ l:List α,(l.filter g).length<=(l.filter f).length:=fun l=>by
   induction l with
   | nil=>exact Md _
   | cons y l ih=>
    rw[MD,MD];cases e:g y with
    | true=>rw[if_pos Y,if_pos (h y e)];exact Nat.succ_le_succ ih
    | false=>
     rw[if_neg (by decide)];split
     ·exact OC ih
     ·exact ih
  rcases M5.mp hq with rfl|hq
  ·rw[if_neg (by rw[h2];decide),if_pos h1]
   exact Nat.lt_succ_of_le (le l)
  ·have ih:=Bz h hq h1 h2
   cases e:g x with
   | true=>rw[if_pos Y,if_pos (h x e)];exact Nat.succ_lt_succ ih
   | false=>
    rw[if_neg (by decide)];split
    ·exact M0 ih
    ·exact ih
theorem Ac {q:Ar}{v:V} (hq:q∈ar) (h:has kvs q.other=false):je ar (kvs++[(Sum.inr q.other,v)])<je ar kvs:=by
 refine Bz (q:=q) (fun x hx=>?_) hq (by rw[h];rfl) (by rw[kP h,MH rfl];rfl);rw[kP h] at hx;cases e:has kvs x.other with
 | false=>rfl
 | true=>rw[e,NU] at hx;cases hx
variable {D wt:Addr}{H0:Hp}{ks:List Ar}{q:Ar}{s:Str}{wl:List Str}{x:V}{zs:List Int}
def RowsAt (K:PySem.W.Frag) (H:Hp) (l:Addr) (ar:List Ar):Prop:=∃ xs,SqL K H l xs/\aM K H (ar.map arD) xs
structure Bf (K:PySem.W.Frag) (H0 H:Hp) (D wt:Addr) (ar:List Ar) (s:Str) (kvs:Kvs) (wl:List Str):Prop where
 old:af H0 H
 d:H D=some (.dK kvs)
 w:H wt=some (.lst (wl.map V.str))
 ok:∀ x v,bc kvs (Sum.inr x)=some v->∃ r zs,v=.ref r/\H r=some (.lst ((zs:List Int).map V.int))/\r≠wt/\iL ar s x zs/\zs.length<kvs.length/\H0 r=none
 k:kvs.length + je ar kvs<=1 + ar.length
 root:has kvs s=true
 sub:∀ x∈wl,has kvs x=true
 wk:wl.length + 2 * je ar kvs<=1 + 2 * ar.length
theorem Bf.same {K:PySem.W.Frag} (b:Bf K H0 H D wt ar s kvs wl) (e:af H H'):Bf K H0 H' D wt ar s kvs wl:=
 ⟨b.old.trans e,e _ _ b.d,e _ _ b.w,fun x v hv=>by
  obtain⟨r,zs,h1,h2,h3⟩:=b.ok x v hv;exact⟨r,zs,h1,e _ _ h2,h3⟩,b.k,b.root,b.sub,b.wk⟩
theorem Bf.setw {K:PySem.W.Frag}{wl2:List Str} (b:Bf K H0 H D wt ar s kvs wl) (hw:H0 wt=none) (nd:D≠wt) (hs:∀ x∈wl2,has kvs x=true) (hk:wl2.length + 2 * je ar kvs<=1 + 2 * ar.length) :
  Bf K H0 (upd H wt (.lst (wl2.map V.str))) D wt ar s kvs wl2:=
 ⟨fun x o e=>by rw[ak (aE e hw)];exact b.old x o e,by rw[ak nd];exact b.d,ah,fun x v hv=>by
  obtain⟨r,zs,h1,h2,h3,h4⟩:=b.ok x v hv;exact⟨r,zs,h1,by rw[ak h3];exact h2,h3,h4⟩,b.k,b.root,hs,hk⟩
theorem Bf.put {K:PySem.W.Frag}{r2:Addr} (b:Bf K H0 H D wt ar s kvs wl) (hD:H0 D=none) (nd:D≠wt) (hq:q∈ar) (hp:iL ar s q.one zs) (hr:H r2=some (.lst ((zs++[q.num]).map V.int)))
  (n2:r2≠wt) (n3:H0 r2=none) (hn:has kvs q.other=false) (hz:zs.length<kvs.length):Bf K H0 (upd H D (.dK (kvs++[(Sum.inr q.other,.ref r2)]))) D wt ar s (kvs++[(Sum.inr q.other,.ref r2)]) wl:=by
 have lt:=Ac (v:=.ref r2) hq hn;have hl:(kvs++[(Sum.inr q.other,V.ref r2)]).length=kvs.length + 1:=by rw[Mg];rfl
 have nn:bc kvs (Sum.inr q.other)=none:=by unfold has at hn;simpa using hn
 refine⟨fun x o e=>by rw[ak (aE e hD)];exact b.old x o e,ah,by rw[ak (Ne.symm nd)];exact b.w,fun x v hv=>?_,?_,?_,fun x hx=>?_,?_⟩
 ·rw[wS (Sum.inr q.other) (Sum.inr x) _ kvs nn] at hv
  by_cases z:x=q.other
  ·rw[if_pos (by rw[z])] at hv
   cases hv
   subst z;exact⟨r2,zs++[q.num],Y,by rw[ak (cz hr b.d (by intro z;cases z))];exact hr,n2,.snoc hp hq Y,by rw[Mg,hl];show _ + 1<_;omega,n3⟩
  ·rw[if_neg (fun e=>z (Sum.inr.inj e))] at hv
   obtain⟨r,ys,h1,h2,h3,h4,h5,h6⟩:=b.ok x v hv;exact⟨r,ys,h1,by rw[ak (cz h2 b.d (by intro z;cases z))];exact h2,h3,h4,by omega,h6⟩
 ·rw[hl]
  have:=b.k;omega
 ·rw[kP hn,b.root,NU]
 ·rw[kP hn,b.sub x hx,NU]
 ·have:=b.wk
  omega
theorem Bf.leads {K:PySem.W.Frag} (b:Bf K H0 H D wt ar s kvs []) (cl:∀ x,has kvs x=true->∀ q∈ar,q.one=x->has kvs q.other=true) (t:Str):has kvs t=true↔dm ar s t:=by
 constructor
 ·intro h
  obtain⟨v,hv⟩:=Option.isSome_iff_exists.mp h;obtain⟨r,zs,_,_,_,hp,_,_⟩:=b.ok t v hv;exact⟨zs,hp⟩
 ·rintro⟨zs,hp⟩
  induction hp with
  | nil=>exact b.root
  | snoc _ hq e ih=>exact cl _ ih _ hq e
section
variable {K:PySem.W.Frag}
theorem wn  (h:DtV K H (arD q) x):∃ t,x=.ref t/\SqT K H t (.int q.num::arV q):=by
 obtain⟨t,xs,rfl,h1,y1,yK,rfl,rfl,y2,yu,rfl,rfl,y3,uK,rfl,rfl,y4,Es,rfl,rfl,y5,ve,rfl,rfl,h2⟩:=h;rw[show ve=[] from h2] at h1;exact⟨t,Y,h1⟩
def spWay (K:PySem.W.Frag):Sp:=fun vs H Q _=>∃ l ar s t,vs=[.ref l,.str s,.str t]/\RowsAt K H l ar/\ar.length<=100 /\
 (∀ r zs H',iL ar s t zs->af H H'->H' r=some (.lst ((zs:List Int).map V.int))->zs.length<=101->H r=none->Q (.ref r) H')/\(¬ dm ar s t->∀ H',af H H'->Q .non H')
theorem ok_way (T:Tx K mg a):Cal P w K mg base CX0 1 "way" ["arrows","start","end"] [] (spWay K):=T.d_way.cal fun f fd F=>by
 refine F.ok jI (fun vs H Q E h=>?_) (fun aw A outer s0 H vs Q E hr h=>?_)
 ·obtain⟨l,ar,s,t,rfl,_⟩:=h
  rfl
 ·obtain⟨l,ar,s,t,rfl,⟨xs,hl,hd⟩,hk,k1,k2⟩:=h
  have gc:ar.length=xs.length:=by rw[<- hd.length,L9]
  refine⟨_,(ao (aU (i:=3) jI.nd Y (.inl Y) (JN (FR (pv 1) (bH aj) Jl) Y Y (by decide) (by decide)))
   (ao (aU (i:=4) jI.nd Y (.inl Y) (bH (ag (pv 1) aj)))
   (ao (JS PassesOwn.never (JC (pv 4) (fun _=>Y)) (ao (aU (i:=5) jI.nd Y (.inl Y) (dL PySem.F.plainAttrs_list PySem.F.slot_list_pop PySem.F.type_list_pop AT (pv 4) (ag am aj)))
   (aq (cP PassesOwn.never rfl (cw (pv 0)) (gR rfl (aQ (aD (i:=6) jI.nd Y (.inl Y)) (aQ (aD (i:=7) jI.nd Y (.inl Y)) (aQ (aD (i:=8) jI.nd Y (.inl Y)) (aQ (aD (i:=9) jI.nd Y (.inl Y)) (aQ (aD (i:=10) jI.nd Y (.inl Y)) fU)))))) (aq (bG (PW.pt (wW (bw rz (pv 7) (pv 5) (br _)) (wb (qE (Ck (eR hr) (pv 8) (pv 3)))))) (ao (tS (eR hr) (pv 3) (pv 8) (aG rA (k9 (eR hr) (pv 3) (pv 5) (fun _ _=>Y)) (bH (ag (pv 6) aj))) Y)
   (aq (ck (dL PySem.F.plainAttrs_list PySem.F.slot_list_append PySem.F.type_list_append gj (pv 4) (ag (pv 8) aj))))) bO))))))
   (aq (aO (GV (eR hr) (pv 3) (pv 2) ⟨rfl,rfl,rfl,rfl⟩)))))),?_⟩
  refine fun D hD=>⟨_,Y,(by show 0<=sizeLine;decide),fun r0 ub=>⟨af.new ub _ _ ah,[(Sum.inr s,.ref r0)],Y,(by show 1<=15;decide),_,Y,(by show 1<=sizeLine;decide),fun wt EZ=>?_⟩⟩
  have yA:D≠r0:=aE ah ub;have p8:H r0=none:=by
   have e:=ub;rw[ak (Ne.symm yA)] at e;exact e
  have cU:=EZ;rw[mT] at cU;have nG:wt≠D:=fun e=>by rw[if_pos e] at cU;cases cU
  rw[if_neg nG,mT] at cU;have vI:wt≠r0:=fun e=>by rw[if_pos e] at cU;cases cU
  rw[if_neg vI,ak nG] at cU;have e0:kN [] [(Sum.inr s,V.ref r0)]=[(Sum.inr s,V.ref r0)]:=rfl;have jW:has [(Sum.inr s,V.ref r0)] s=true:=by
   unfold has;rw[gB (p:=(Sum.inr s,V.ref r0)) rfl];rfl
  have b0:Bf K H (upd (upd (upd (upd H D (.dK [])) r0 (.lst [])) D (.dK (kN [] [(Sum.inr s,V.ref r0)]))) wt (.lst [V.str s])) D wt ar s [(Sum.inr s,.ref r0)] [s]:=by
   refine⟨fun b o e=>?_,?_,ah,fun x v hv=>?_,?_,jW,fun x hx=>?_,?_⟩
   ·rw[ak (aE e cU),ak (aE e hD),ak (aE e p8),ak (aE e hD)]
    exact e
   ·rw[ak (Ne.symm nG),ah,e0]
   ·by_cases z:s=x
    ·subst z
     rw[gB (p:=(Sum.inr s,V.ref r0)) rfl] at hv;cases hv
     exact⟨r0,[],Y,by rw[ak (Ne.symm vI),ak (Ne.symm yA),ah];rfl,Ne.symm vI,.nil,(by show 0<1;decide),p8⟩
    ·rw[eW (p:=(Sum.inr s,V.ref r0)) (fun q=>z (Sum.inr.inj q))] at hv
     cases hv
   ·show 1 + _<=_
    have:=Cv ar [(Sum.inr s,V.ref r0)];omega
   ·rw[List.mem_singleton.mp hx]
    exact jW
   ·show 1 + _<=_
    have:=Cv ar [(Sum.inr s,V.ref r0)];omega
  generalize upd (upd (upd (upd H D (.dK [])) r0 (.lst [])) D (.dK (kN [] [(Sum.inr s,V.ref r0)]))) wt (.lst [V.str s])=H1 at b0 ⊢;refine⟨fun m σ H'=>∃ v5 v6 v7 v8 v9 cN kvs wl,σ=[some (.ref l),some (.str s),some (.str t),some (.ref D),some (.ref wt),v5,v6,v7,v8,v9,cN]/\m=wl.length + 2 * je ar kvs/\Bf K H H' D wt ar s kvs wl/\∀ x,has kvs x=true->x∈wl\/∀ q∈ar,q.one=x->has kvs q.other=true,
   ⟨_,none,none,none,none,none,none,_,_,rfl,rfl,b0,fun x hx=>?_⟩,?_⟩
  ·by_cases z:s=x
   ·exact .inl (List.mem_singleton.mpr z.symm)
   ·unfold has at hx
    rw[eW (p:=(Sum.inr s,V.ref r0)) (fun q=>z (Sum.inr.inj q))] at hx;cases hx
  rintro m σ H2 ⟨v5,v6,v7,v8,v9,cN,kvs,wl,rfl,rfl,b2,zw⟩
  refine⟨_,Y,_,.inl ⟨_,SqL.of b2.w,Y⟩,?_⟩;refine bE (fun c=>?_) (fun c=>?_)
  ·-- one more point is looked at
   obtain⟨x,dE,rfl⟩:∃ x dE,wl=x::dE:=by
    cases wl with
    | nil=>cases c
    | cons x dE=>exact⟨x,dE,Y⟩
   refine⟨_,fun σ' H' q=>q,?_⟩;refine⟨_,Y,.inl ⟨Y,_,SqL.of b2.w⟩,wt,_,0,0,_,Y,Y,b2.w,by decide,by decide,?_,Y,?_⟩
   ·show seqIndex? 0 (((x::dE).map V.str).length)=some 0
    rw[L9];unfold seqIndex?;simp
   have E4:((x::dE).map V.str).eraseIdx 0=dE.map V.str:=rfl;rw[E4];have LC:=b2.wk;have b3:=b2.setw (wl2:=dE) cU (Ne.symm nG) (fun y hy=>b2.sub y (Mo _ hy)) (by have:(x::dE).length=dE.length + 1:=rfl;omega);have EU:=b2.sub x Ms;generalize upd H2 wt (.lst (dE.map V.str))=H3 at b3 ⊢;refine⟨_,Y,l,Y,⟨_,b3.old.sqL hl⟩,gE (K:=K) (a:=l) (xs:=xs) (fun i σ H'=>∃ v6 v7 v8 v9 cN bh wl2,σ=[some (.ref l),some (.str s),some (.str t),some (.ref D),some (.ref wt),some (.str x),v6,v7,v8,v9,cN]/\Bf K H H' D wt ar s bh wl2/\wl2.length + 2 * je ar bh<=dE.length + 2 * je ar kvs/\(∀ y,has bh y=true->y∈wl2\/y=x\/∀ q∈ar,q.one=y->has bh q.other=true)/\has bh x=true/\∀ q∈ar.take i,q.one=x->has bh q.other=true)
    ⟨v6,v7,v8,v9,cN,kvs,dE,rfl,b3,Md _,fun y hy=>?_,EU,fun q hq=>by rw[NV] at hq;cases hq⟩ ?_ ?_ ?_⟩
   ·rcases zw y hy with z|z
    ·rcases M5.mp z with z|z
     ·exact .inr (.inl z)
     ·exact .inl z
    ·exact .inr (.inr z)
   ·rintro i σ H' _ ⟨_,_,_,_,_,bh,wl2,rfl,b4,_⟩
    exact b4.old.sqL hl
   ·rintro i y σ H' hy ⟨u6,u7,u8,u9,FD,bh,wl2,rfl,b4,uj,pT,pO,pY⟩
    obtain⟨q,hq,dq⟩:=nB hd hy;obtain⟨tq,rfl,rL⟩:=wn (b4.old.dt dq);have xR:=Me hq;refine⟨tq,_,Y,rL,Y,_,_,Y,_,_,Y,_,_,Y,_,_,Y,_,_,Y,Y,?_⟩;have skip:(q.one=x->has bh q.other=true)->∀ z∈ar.take (i + 1),z.one=x->has bh z.other=true:=fun h z hz e=>by
     rw[bP hq] at hz;rcases List.mem_append.mp hz with h1|h1
     ·exact pY z h1 e
     ·rw[List.mem_singleton.mp h1] at e ⊢
      exact h e
    refine⟨_,Y,_,Y,Y,_,Y,?_⟩;refine bE (fun c1=>?_) (fun c1=>iteF ⟨_,_,_,_,_,bh,wl2,Y,b4,uj,pT,pO,skip fun e=>?_⟩)
    ·have e1:q.one=x:=by simpa using c1
     refine⟨_,Y,_,Y,D,_,Y,df.k (k:=Sum.inr _) b4.d,_,Y,?_⟩;refine bE (fun c2=>?_) (fun c2=>⟨_,_,_,_,_,bh,wl2,Y,b4,uj,pT,pO,skip fun _=>?_⟩)
     ·have hn:has bh q.other=false:=by
       unfold has
       simpa using c2
      obtain⟨vx,yQ⟩:=Option.isSome_iff_exists.mp pO;obtain⟨rx,zs,rfl,Ez,Lz,px,zx,_⟩:=b4.ok x vx yQ;have gx:df H' D (.str x) (some (.ref rx)):=by
       rw[<- yQ];exact df.k (k:=Sum.inr x) b4.d
      have kb:=b4.k;refine⟨_,Y,_,Y,D,_,Y,gx,_,Y,(by show 1<=sizeLine;decide),fun z nz=>⟨rx,z,_,_,Y,Y,af.new nz _ _ Ez,ah,(by rw[L9,Mh];show _ + 1<=_;omega),fun r2 vq=>?_⟩⟩;have s5:af H' (upd (upd H' z (.lst [V.int q.num])) r2 (.lst (zs.map V.int++[V.int q.num]))):=(af.new nz).trans (af.new vq);have h5:upd (upd H' z (.lst [V.int q.num])) r2 (.lst (zs.map V.int++[V.int q.num])) r2=some (.lst ((zs++[q.num]).map V.int)):=by rw[ah,Mf];rfl
      have n5:r2≠wt:=fun e=>by
       have:=af.new (o:=.lst [V.int q.num]) nz _ _ b4.w;rw[<- e,vq] at this;cases this
      have n6:H r2=none:=by
       cases e:H r2 with
       | none=>rfl
       | some o=>
        have:=af.new (o:=.lst [V.int q.num]) nz _ _ (b4.old _ _ e);rw[vq] at this;cases this
      generalize upd (upd H' z (.lst [V.int q.num])) r2 (.lst (zs.map V.int++[V.int q.num]))=H5 at s5 h5 ⊢;have b5:=b4.same s5;refine⟨_,Y,_,Y,D,_,Y,.inl ⟨bh,Sum.inr q.other,b5.d,Y,by rw[Mh];omega,Y⟩,?_⟩;rw[sW (.ref r2) (by unfold has at hn;simpa using hn)];have b6:=b5.put hD (Ne.symm nG) xR (by rw[e1];exact px) h5 n5 n6 hn zx;have L8:=Ac (v:=.ref r2) xR hn;have up:∀ y,has bh y=true->has (bh++[(Sum.inr q.other,V.ref r2)]) y=true:=fun y hy=>by rw[kP hn,hy,NU]
      generalize upd H5 D (.dK (bh++[(Sum.inr q.other,V.ref r2)]))=H6 at b6 ⊢;have Lf:=b6.wk;have LH:=b4.wk;refine⟨_,Y,.inl ⟨Y,_,SqL.of b6.w⟩,_,Y,wt,_,_,Y,Y,b6.w,(by rw[L9,Mh];omega),?_⟩;have h7:wl2.map V.str++[V.str q.other]=(wl2++[q.other]).map V.str:=by rw[Mf];rfl
      have Lp:(wl2++[q.other]).length=wl2.length + 1:=by rw[Mg];rfl
      rw[h7];have b7:=b6.setw (wl2:=wl2++[q.other]) cU (Ne.symm nG) (fun y hy=>by
       rcases List.mem_append.mp hy with h1|h1
       ·exact b6.sub y h1
       ·rw[List.mem_singleton.mp h1,kP hn,MH rfl];rfl) (by omega)
      refine⟨_,_,_,_,_,_,wl2++[q.other],Y,b7,by omega,fun y hy=>?_,up _ pO,fun y hy e=>?_⟩
      ·rw[kP hn] at hy
       by_cases zz:y=q.other
       ·exact .inl (Mr _ (by rw[zz];exact List.mem_singleton.mpr Y))
       ·rw[ME zz,Bool.false_or] at hy
        rcases pT y hy with h1|h1|h1
        ·exact .inl (MC _ h1)
        ·exact .inr (.inl h1)
        ·exact .inr (.inr fun q' dA e'=>up _ (h1 q' dA e'))
      ·rw[bP hq] at hy
       rcases List.mem_append.mp hy with h1|h1
       ·exact up _ (pY y h1 e)
       ·rw[List.mem_singleton.mp h1,kP hn,MH rfl];rfl
     ·unfold has
      simpa using c2
    ·have:¬ q.one=x:=by simpa using c1
     exact absurd e this
   ·rintro σ H' ⟨u6,u7,u8,u9,FD,bh,wl2,rfl,b4,uj,pT,pO,pY⟩
    rw[<- gc,Mu] at pY;refine⟨wl2.length + 2 * je ar bh,?_,_,_,_,_,_,_,bh,wl2,Y,Y,b4,fun y hy=>?_⟩
    ·have:(x::dE).length=dE.length + 1:=rfl
     omega
    ·rcases pT y hy with h1|h1|h1
     ·exact .inl h1
     ·exact .inr fun q hq e=>pY q hq (e.trans h1)
     ·exact .inr h1
  ·obtain rfl:wl=[]:=by
    cases wl with
    | nil=>rfl
    | cons x dE=>cases c
   have uk:=b2.leads (fun x hx=>(zw x hx).resolve_left (fun z=>by cases z)) t;refine⟨_,Y,D,Y,.inl ⟨_,.inl b2.d⟩,_,Y,_,df.k (k:=Sum.inr t) b2.d,?_⟩;cases e:bc kvs (Sum.inr t) with
   | none=>
    refine k2 (fun z=>?_) H2 b2.old;have:=uk.mpr z;unfold has at this;rw[e] at this;cases this
   | some v=>
    obtain⟨r,zs,rfl,h1,h2,h3,h4,h5⟩:=b2.ok t v e;have:=b2.k;exact k1 r zs H2 h3 b2.old h1 (by omega) h5
end
open Classical in
def bM (ks:List Ar) (q:Ar):List Ar:=if dm ks q.other q.one then ks else ks++[q]
def fQ (ar:List Ar):List Ar:=ar.foldl bM []
open Classical in
def kW (kf:List Ar×List Int) (q:Ar):List Ar×List Int:=if dm kf.1 q.other q.one then(kf.1,kf.2++[q.num]) else(kf.1++[q],kf.2)
def gC (ar:List Ar):List Int:=(ar.foldl kW ([],[])).2
def inK (ks:List Ar) (q:Ar):Bool:=(ks.map arD).any fun e=>eqD e (arD q)
theorem mP  (h:dm ks q.other q.one):bM ks q=ks:=by unfold bM;rw[if_pos h]
theorem kT  (h:¬ dm ks q.other q.one):bM ks q=ks++[q]:=by unfold bM;rw[if_neg h]
theorem JU {fs:List Int} (h:dm ks q.other q.one):kW (ks,fs) q=(ks,fs++[q.num]):=by unfold kW;rw[if_pos h]
theorem JZ {fs:List Int} (h:¬ dm ks q.other q.one):kW (ks,fs) q=(ks++[q],fs):=by unfold kW;rw[if_neg h]
theorem AE:∀ (l ks:List Ar),(l.foldl bM ks).length<=ks.length + l.length
 | [],_=>Md _
 | q::l,ks=>by
  show(l.foldl bM (bM ks q)).length<=_;have:=AE l (bM ks q);by_cases h:dm ks q.other q.one
  ·rw[mP h] at this ⊢
   rw[Mt];omega
  ·rw[kT h,Mg] at this
   rw[kT h,Mt];have e:([q]:List Ar).length=1:=rfl;omega
theorem qI:∀ {l ks:List Ar}{x:Ar},x∈ks->x∈l.foldl bM ks
 | [],_,_,h=>h
 | q::l,ks,x,h=>by
  show x∈l.foldl bM (bM ks q);by_cases e:dm ks q.other q.one
  ·rw[mP e];exact qI h
  ·rw[kT e];exact qI (MC _ h)
theorem sI:∀ {l ks:List Ar}{x:Ar},x∈l.foldl bM ks->x∈ks\/x∈l
 | [],_,_,h=>.inl h
 | q::l,ks,x,h=>by
  replace h:x∈l.foldl bM (bM ks q):=h
  by_cases e:dm ks q.other q.one
  ·rw[mP e] at h
   rcases sI h with z|z
   ·exact .inl z
   ·exact .inr (Mo _ z)
  ·rw[kT e] at h
   rcases sI h with z|z
   ·rcases List.mem_append.mp z with z|z
    ·exact .inl z
    ·exact .inr (List.mem_singleton.mp z ▸ Ms)
   ·exact .inr (Mo _ z)
theorem BI  (h:inK ks q=true):∃ e∈ks,e.num=q.num:=by
 obtain⟨d,hd,e⟩:=List.any_eq_true.mp h;obtain⟨k,hk,rfl⟩:=List.mem_map.mp hd;refine⟨k,hk,?_⟩;have z:(eqD (.int k.num) (.int q.num) && dU [.str k.one,.str k.other,.int k.span,.int k.weight] [.str q.one,.str q.other,.int q.span,.int q.weight])=true:=e;have:=((Mz _ _).mp z).1;exact eq_of_beq this
theorem CN  (h:q∈ks):inK ks q=true:=List.any_eq_true.mpr ⟨arD q,List.mem_map.mpr ⟨q,h,Y⟩,mQ _⟩
theorem wj:∀ (l ks:List Ar) (fs:List Int) (F:List Ar),F=l.foldl bM ks->(l.map Ar.num).Nodup->(∀ x∈ks,∀ q∈l,x.num≠q.num)->(l.foldl kW (ks,fs)).2=fs++(l.filter fun q=>!inK F q).map Ar.num
 | [],_,fs,_,_,_,_=>by simp
 | q::l,ks,fs,F,hF,nd,ap=>by
  have jz:(q.num::l.map Ar.num).Nodup:=nd;rw[List.nodup_cons] at jz
  replace hF:F=l.foldl bM (bM ks q):=hF
  show(l.foldl kW (kW (ks,fs) q)).2=_;by_cases h:dm ks q.other q.one
  ·rw[JU h]
   rw[mP h] at hF;rw[wj l ks _ F hF jz.2 fun x hx z hz=>ap x hx z (Mo _ hz)];have hq:inK F q=false:=by
    cases e:inK F q with
    | false=>rfl
    | true=>
     obtain⟨k,hk,en⟩:=BI e;rw[hF] at hk;rcases sI hk with z|z
     ·exact absurd en (ap k z q Ms)
     ·exact absurd (List.mem_map.mpr ⟨k,z,en⟩) jz.1
   rw[MD,hq,if_pos (by rfl),MG,MT];rfl
  ·rw[JZ h]
   rw[kT h] at hF;rw[wj l _ fs F hF jz.2 fun x hx z hz=>by
    rcases List.mem_append.mp hx with y|y
    ·exact ap x y z (Mo _ hz)
    ·rw[List.mem_singleton.mp y]
     exact fun e=>jz.1 (List.mem_map.mpr ⟨z,hz,e.symm⟩)]
   have hq:inK F q=true:=CN (by rw[hF];exact qI (Mr _ (List.mem_singleton.mpr Y)));rw[MD,hq,if_neg (by decide)]
theorem zV  (nd:(ar.map Ar.num).Nodup):(ar.filter fun q=>!inK (fQ ar) q).map Ar.num=gC ar:=by
 unfold gC;rw[wj ar [] [] (fQ ar) rfl nd fun x hx=>by cases hx];rfl
section
variable {K:PySem.W.Frag}
def spKept (K:PySem.W.Frag) (C:Addr):Sp:=fun vs H Q _=>∃ p r v,vs=[.ref p]/\bB K C H p r v/\v.arr.length<=100/\∀ k ys H',af H H'->H k=none->H' k=some (.lst ys)->aM K H' ((fQ v.arr).map arD) ys->Q (.ref k) H'
theorem Kh (T:Tx K mg a):Cal P w K mg base CX0 2 "kept_arrows" ["net"] [] (spKept K a.Net):=T.d_kept_arrows.cal fun f fd F=>by
 have pS:=ok_way (P:=P) (w:=w) (base:=base) T;have m_Net_arrows:=xy (P:=P) (w:=w) (base:=base) T;refine F.ok wA (fun vs H Q E h=>?_) (fun aw A outer s H vs Q E hr h=>?_)
 ·obtain⟨p,r,v,rfl,_⟩:=h
  rfl
 ·obtain⟨p,r,v,rfl,N,hk,k⟩:=h
  refine⟨_,(ao (aU (i:=1) wA.nd Y (.inl Y) (bH aj))
   (ao (cP PassesOwn.never rfl (cw (cy (pv 0) T.c_Net m_Net_arrows (hr.mono (by decide)))) (aD (i:=2) wA.nd Y (.inl Y)) (aq (bG (qE (wZ (bD pS (hr.mono (by decide)) rfl (ag (pv 1) (ag (aF cB (pv 2) am (fun _ _=>Y)) (ag (aF cB (pv 2) am (fun _ _=>Y)) aj)))))) (aq (ck (dL PySem.F.plainAttrs_list PySem.F.slot_list_append PySem.F.type_list_append gj (pv 1) (ag (pv 2) aj)))) bO)))
   (aq (aO (pv 1))))),?_⟩
  refine⟨(by show 0<=sizeLine;decide),fun g ng=>?_⟩;have s1:af H (upd H g (.lst [])):=af.new ng;have h1:upd H g (.lst []) g=some (.lst []):=ah;generalize upd H g (.lst [])=H1 at s1 h1 ⊢;have N1:=N.same s1;obtain⟨dx,hp⟩:=N1.ex;refine⟨_,Y,p,dx,_,Y,hp,by rfl,p,r,v,Y,N1,by rw[L9];omega,fun l H2 xs s2 nl h2 d2 _=>?_⟩;have gc:v.arr.length=xs.length:=by rw[<- d2.length,L9]
  have zn:l≠g:=fun e=>by rw[e,h1] at nl;cases nl
  refine⟨l,Y,⟨_,SqL.of h2⟩,gE (K:=K) (a:=l) (xs:=xs) (fun i σ H'=>∃ v2 ys,σ=[some (.ref p),some (.ref g),v2]/\(∀ b o,H2 b=some o->b≠g->H' b=some o)/\H' g=some (.lst ys)/\aM K H' (((v.arr.take i).foldl bM []).map arD) ys)
   ⟨none,[],rfl,fun b o e _=>e,s2 _ _ h1,Y⟩ ?_ ?_ ?_⟩
  ·rintro i σ H' _ ⟨_,_,rfl,o3,_⟩
   exact SqL.of (o3 _ _ h2 zn)
  ·rintro i x σ H3 hx ⟨v2,ys,rfl,o3,h3,d3⟩
   have EK:Tk H2 H3:=fun b o e z=>o3 b o e (fun q=>by rw[q,s2 _ _ h1] at e;cases e;cases z)
   obtain⟨q,hq,dq⟩:=nB d2 hx;obtain⟨t,rfl,sv⟩:=wn dq;have ht:=EK.sqT sv;have kl:=AE (v.arr.take i) [];have K2:(v.arr.take i).length<=100:=by rw[Ml];omega
   have yX:ys.length<=100:=by
    rw[<- d3.length,L9];have e:([]:List Ar).length=0:=rfl;omega
   have e1:(v.arr.take (i + 1)).foldl bM []=bM ((v.arr.take i).foldl bM []) q:=by
    rw[bP hq,NY];rfl
   dsimp only[aV];refine⟨_,Y,_,Y,t,_,_,_,Y,Y,ht,Y,_,Y,t,_,_,_,Y,Y,ht,Y,g,(v.arr.take i).foldl bM [],q.other,q.one,Y,⟨ys,SqL.of h3,d3⟩,by rw[<- L9 (f:=arD),d3.length];exact yX,fun r2 zs H4 pt s4 h4 _ _=>?_,fun Fs H4 s4=>?_⟩
   ·refine⟨_,Y,cg Y ?_⟩
    refine⟨_,ys,Y,fun b o e ne=>s4 _ _ (o3 b o e ne),s4 _ _ h3,?_⟩;rw[e1,mP ⟨zs,pt⟩];exact s4.dts d3
   ·refine⟨_,Y,Ak Y ?_⟩
    have h4:=s4 _ _ h3;refine⟨_,Y,.inl ⟨Y,_,SqL.of h4⟩,_,Y,g,_,_,Y,Y,h4,by rw[Mh];omega,?_⟩;have tk:Tk H4 (upd H4 g (.lst (ys++[.ref t]))):=Tk.upd h4 rfl;refine⟨_,_,Y,fun b o e ne=>by rw[ak ne];exact s4 _ _ (o3 b o e ne),ah,?_⟩;rw[e1,kT Fs,Mf];exact aM.snoc (wz (tk.sqT (s4.sqT ht))) (tk.dts (dX (fun _=>Y) _) (s4.dts d3))
  ·rintro σ H3 ⟨v2,ys,rfl,o3,h3,d3⟩
   rw[<- gc,Mu] at d3;exact⟨_,Y,k g ys H3 (fun b o e=>o3 b o (s2 _ _ (s1 _ _ e)) (aE e ng)) ng h3 d3⟩
def Hx (K:PySem.W.Frag) (C:Addr):Sp:=fun vs H Q _=>∃ p r v,vs=[.ref p]/\bB K C H p r v/\v.arr.length<=100/\(v.arr.map Ar.num).Nodup/\∀ k H',af H H'->H k=none->H' k=some (.lst ((gC v.arr).map V.int))->Q (.ref k) H'
theorem Gc (T:Tx K mg a):Cal P w K mg base CX0 3 "turned" ["net"] [] (Hx K a.Net):=T.d_turned.cal fun f fd F=>by
 have cS:=Kh (P:=P) (w:=w) (base:=base) T;have m_Net_arrows:=xy (P:=P) (w:=w) (base:=base) T;refine F.ok By (fun vs H Q E h=>?_) (fun aw A outer s H vs Q E hr h=>?_)
 ·obtain⟨p,r,v,rfl,_⟩:=h
  rfl
 ·obtain⟨p,r,v,rfl,N,hk,nd,k⟩:=h
  refine⟨_,(ao (aU (i:=1) By.nd Y (.inr Y) (bD cS (hr.mono (by decide)) rfl (ag (pv 0) aj)))
   (aq (aO (eX (N:=["arrow","kept"]) (cap:=[none,some 1]) Y (cH (osc:=aA wG) (XN:=["net","kept"]) Y Y (by decide +kernel)) (cw (cy (pv 0) T.c_Net m_Net_arrows (hr.mono (by decide)))) (fun cl C s H fp aa=>(aD (i:=0) (show(["arrow","kept"]:List Str).Nodup by decide +kernel) rfl (.inl rfl))) (fun cl C s H fp aa=>wd (bw (FQ (K:=K) Y hr.units) (pv 0) (pv 1) (by with_unfolding_all rfl))) (fun cl C s H fp aa=>(aF (mF (K:=K) Y) (pv 0) am (fun _ _=>Y))))))),?_⟩
  refine⟨_,Y,p,r,v,Y,N,hk,fun g ys H1 s1 ng h1 d1=>?_⟩;have N1:=N.same s1;obtain⟨dx,hp⟩:=N1.ex;refine⟨_,Y,p,dx,_,Y,hp,by rfl,p,r,v,Y,N1,by rw[L9];omega,fun l H2 xs s2 nl h2 d2 _=>?_⟩;have gc:v.arr.length=xs.length:=by rw[<- d2.length,L9]
  refine⟨l,Y,⟨_,SqL.of h2⟩,fun D hD=>?_⟩;refine gA (K:=K) (a:=l) (xs:=xs) (fun i τ H'=>∃ v1,τ=[v1,some (.ref g)]/\af H2 H'/\H' D=some (.lst ((((v.arr.take i).filter fun q=>!inK (fQ v.arr) q).map Ar.num).map V.int))) ⟨none,Y,af.new hD,ah⟩ ?_ ?_ ?_
  ·rintro i τ H' _ ⟨v1,rfl,sm,hy⟩
   exact SqL.of (sm _ _ h2)
  ·rintro i x τ H' hx ⟨v1,rfl,sm,hy⟩
   obtain⟨q,hq,dq⟩:=nB d2 hx;obtain⟨t,rfl,ht⟩:=wn (sm.dt dq);have fl:(v.arr.take (i + 1)).filter (fun q=>!inK (fQ v.arr) q)=(v.arr.take i).filter (fun q=>!inK (fQ v.arr) q)++(if (!inK (fQ v.arr) q)=true then[q] else[]):=by
    rw[bP hq,NL];cases e:inK (fQ v.arr) q <;> simp[e]
   dsimp only[aV];refine⟨_,Y,_,Y,g,(fQ v.arr).map arD,ys,arD q,Y,SqL.of (sm _ _ (s2 _ _ h1)),sm.dts (s2.dts d1),wz ht,tG (fun q=>GL q) _,_,Y,?_⟩;show if (!inK (fQ v.arr) q)=true then _ else _;refine bE (fun c=>?_) (fun c=>?_)
   ·refine⟨_,Y,t,_,_,_,Y,Y,ht,Y,_,hy,?_,_,Y,?_,?_⟩
    ·rw[L9,L9,Mh]
     have:=Nr (fun q=>!inK (fQ v.arr) q) (v.arr.take i);rw[Ml] at this;omega
    ·intro b u e
     rw[ak (aE e hD)];exact sm b u e
    ·rw[ah,fl,if_pos c,Mf,Mf]
     rfl
   ·refine⟨_,Y,sm,?_⟩
    rw[fl,if_neg (by rw[c];decide),Nj];exact hy
  ·rintro τ H' ⟨v1,rfl,sm,hy⟩
   rw[<- gc,Mu,zV nd] at hy;have s3:=s1.trans (s2.trans sm);refine k D H' s3 ?_ hy;cases e:H D with
   | none=>rfl
   | some o=>
    rw[(s1.trans s2) _ _ e] at hD;cases hD
end
variable {b:Bool}{xs zs:List V}
section
variable {K:PySem.W.Frag}
def clI (a:Adr):Bool->Addr
 | true=>a.Small
 | false=>a.Own
def iM (a:Adr) (H:Hp) (p:Addr) (b:Bool):Prop:=∃ dx fs,H p=some (.ins (clI a b) dx fs)
theorem iM.mono  (s:af H H') (h:iM a H p b):iM a H' p b:=let ⟨dx,fs,e⟩:=h;⟨dx,fs,s _ _ e⟩
theorem iM.ty  (T:Tx K mg a) (h:iM a H p b):fR K H (.ref p) (.ref (clI a b)):=by
 obtain⟨dx,fs,e⟩:=h;cases b with
 | true=>exact .ins e T.c_Small T.ca_Small T.tg T.tk T.cm_Small
 | false=>exact .ins e T.c_Own T.ca_Own T.tg T.tk T.cm_Own
theorem kitI (T:Tx K mg a):∀ b:Bool,PySem.W.kitOne K (.ref (clI a b)) (.ref a.Small)=some b
 | true=>T.kt_Small_Small
 | false=>T.kt_Own_Small
def cnt:Bool->Nat
 | true=>1
 | false=>0
def lu (n:Nat):Int:=if n=0 then 1 else if n=1 then 2 else 8
theorem AB {n:Nat} (h:n<=2):atI [V.int 1,V.int 2,V.int 8] (n:Int)=some (.int (lu n)):=by
 rcases n with _|_|_|n
 ·rfl
 ·rfl
 ·rfl
 ·omega
theorem rj:∀ b:Bool,cnt b<=1
 | true=>Md _
 | false=>MW _
def Ix (a:Adr):Sp:=fun vs H Q _=>∃ p q w b1 b2,vs=[.ref p,.ref q,.int w]/\iM a H p b1/\iM a H q b2/\0<w/\w<2 ^ 64/\∀ H',af H H'->Q (.int (w * lu (cnt b1 + cnt b2))) H'
theorem HV (T:Tx K mg a):Cal P w K mg base CX0 1 "heavy" ["one","other","weight"] [] (Ix a):=T.d_heavy.cal fun f fd F=>by
 refine F.ok Je (fun vs H Q E h=>?_) (fun aw A outer s H vs Q E hr h=>?_)
 ·obtain⟨p,q,w,b1,b2,rfl,_⟩:=h
  rfl
 ·obtain⟨p,q,w,b1,b2,rfl,i1,i2,w0,w1,k⟩:=h
  refine⟨_,(aq (aO (aG tw (pv 2) (aF cB (nY Y T.g_HEAVIER) (bu eG Y T.n_len cQ (ag (eX (N:=["item"]) (cap:=[none]) Y (cH (osc:=aA wL) (XN:=["one","other","weight"]) Y Y (by decide +kernel)) (pi_tup (gk (ag (pv 0) (ag (pv 1) aj)))) (fun cl C s H fp aa=>(aD (i:=0) (show(["item"]:List Str).Nodup by decide +kernel) rfl (.inl rfl))) (fun cl C s H fp aa=>wd (fL (bu (Gp (K:=K) Y) Y T.n_isinstance jb (ag (pv 0) (ag (nY Y T.g_Small) aj))))) (fun cl C s H fp aa=>(pv 0))) aj)) (fun _ _=>Y))))),?_⟩;refine⟨_,Y,_,Y,_,Y,(by show 2<=sizeLine;decide),fun t nt=>?_⟩;have s1:af H (upd H t (.tup [.ref p,.ref q])):=af.new nt;have h1:upd H t (.tup [.ref p,.ref q]) t=some (.tup [.ref p,.ref q]):=ah;generalize upd H t (.tup [.ref p,.ref q])=H1 at s1 h1 ⊢;refine⟨t,Y,⟨_,SqT.of h1⟩,fun D hD=>?_⟩;refine Js (K:=K) (a:=t) (xs:=[.ref p,.ref q]) (fun i τ H'=>∃ v1,∃ ys:List V,τ=[v1]/\af H1 H'/\H' D=some (.lst ys)/\ys.length=(if i=0 then 0 else if i=1 then cnt b1 else cnt b1 + cnt b2)) ⟨none,[],rfl,af.new hD,ah,rfl⟩ ?_ ?_ ?_
  ·rintro i τ H' _ ⟨_,_,rfl,sm,_⟩
   exact SqT.of (sm _ _ h1)
  ·rintro i x τ H' hx ⟨v1,ys,rfl,sm,hy,hl⟩
   obtain⟨r,b,rfl,ib,hn,hk⟩:∃ r b,x=V.ref r/\iM a H' r b/\(if i + 1=0 then 0 else if i + 1=1 then cnt b1 else cnt b1 + cnt b2)=ys.length + cnt b/\ys.length<=1:=by
    rcases i with _|_|i
    ·refine⟨p,b1,(Option.some.inj hx).symm,i1.mono (s1.trans sm),?_,?_⟩
     ·rw[hl];simp
     ·rw[hl];simp
    ·refine⟨q,b2,(Option.some.inj hx).symm,i2.mono (s1.trans sm),?_,?_⟩
     ·rw[hl];simp
     ·rw[hl];simp[rj]
    ·simp at hx
   rw[hn];dsimp only[aV];refine⟨_,Y,_,_,_,_,_,Y,Y,ib.ty T,kitI T b,_,Y,?_⟩;refine bE (fun c1=>?_) (fun c1=>?_)
   ·subst c1
    refine⟨_,Y,_,hy,by rw[Mh];omega,_,_,Y,?_,ah,by rw[Mg];rfl⟩;intro c u e;rw[ak (aE e hD)];exact sm c u e
   ·subst c1
    exact⟨_,ys,Y,sm,hy,Y⟩
  rintro τ H2 ⟨v1,ys,rfl,sm,hy,hl⟩
  have e:ys.length=cnt b1 + cnt b2:=hl;have c1:=rj b1;have c2:=rj b2;refine⟨D,_,Y,.inl (SqL.of hy),a.HEAVIER,_,_,_,Y,Y,T.t_HEAVIER _,AB (by omega),_,_,Y,Y,.inl ⟨by omega,w1⟩,?_⟩;rw[e];exact k H2 (s1.trans sm)
end
def F2 {α β:Type} (R:α->β->Prop):List α->List β->Prop
 | [],[]=>True
 | x::l,y::m=>R x y/\F2 R l m
 | _,_=>False
section
variable {α β:Type}{R R':α->β->Prop}
theorem F2.len:∀ {l:List α}{m:List β},F2 R l m->l.length=m.length
 | [],[],_=>rfl
 | _::_,_::_,h=>by rw[Mt,Mt,h.2.len]
 | [],_::_,h=>h.elim
 | _::_,[],h=>h.elim
theorem F2.mono (k:∀ x y,R x y->R' x y):∀ {l:List α}{m:List β},F2 R l m->F2 R' l m
 | [],[],_=>trivial
 | _::_,_::_,h=>⟨k _ _ h.1,h.2.mono k⟩
 | [],_::_,h=>h.elim
 | _::_,[],h=>h.elim
theorem F2.get:∀ {l:List α}{m:List β}{i:Nat}{x:α},F2 R l m->l[i]?=some x->∃ y,m[i]?=some y/\R x y
 | [],[],_,_,_,e=>by simp at e
 | x::l,y::m,0,_,h,e=>by
  cases e
  exact⟨y,Y,h.1⟩
 | x::l,y::m,i + 1,_,h,e=>h.2.get (i:=i) (by simpa using e)
 | [],_::_,_,_,h,_=>h.elim
 | _::_,[],_,_,h,_=>h.elim
theorem F2.app:∀ {l l':List α}{m m':List β},F2 R l m->F2 R l' m'->F2 R (l++l') (m++m')
 | [],_,[],_,_,k=>k
 | _::_,_,_::_,_,h,k=>⟨h.1,h.2.app k⟩
 | [],_,_::_,_,h,_=>h.elim
 | _::_,_,[],_,h,_=>h.elim
theorem F2.snoc {x:α}{y:β}{l:List α}{m:List β} (h:F2 R l m) (e:R x y):F2 R (l++[x]) (m++[y]):=h.app ⟨e,trivial⟩
theorem F2.drop:∀ {l:List α}{m:List β} (n:Nat),F2 R l m->F2 R (l.drop n) (m.drop n)
 | _,_,0,h=>h
 | [],[],_ + 1,h=>h
 | _::_,_::_,n + 1,h=>h.2.drop n
 | [],_::_,_ + 1,h=>h.elim
 | _::_,[],_ + 1,h=>h.elim
theorem F2.of:∀ {l:List α}{m:List β},l.length=m.length->(∀ (i:Nat) x y,l[i]?=some x->m[i]?=some y->R x y)->F2 R l m
 | [],[],_,_=>trivial
 | x::l,y::m,h,k=>⟨k 0 x y Y Y,F2.of (by simpa using h) fun i x' y' h1 h2=>k (i + 1) x' y' (by simpa using h1) (by simpa using h2)⟩
 | [],_::_,h,_=>by simp at h
 | _::_,[],h,_=>by simp at h
end
inductive It where
 | own (n:Str) (h:Int)
 | small (i k:Int)
def dO (i k:Int):Str:=Str.ofString (toString i)++Str.ofString "."++Str.ofString (toString k)
def It.label:It->Str
 | .own n _=>n
 | .small i k=>dO i k
def It.hf:It->Int
 | .own _ h=>h
 | .small _ _=>0
def It.sm:It->Bool
 | .own _ _=>false
 | .small _ _=>true
def It.drawn:It->Str
 | .own n _=>n
 | .small _ _=>"."
def ownF (n:Str) (h:Int):List (Str×V):=[("name",.str n),("wide",.int h)]
def qZ (i k:Int):List (Str×V):=[("arrow",.int i),("step",.int k)]
def Lo (i:Int):Prop:=0<=i/\i<1000
def It.Ok:It->Prop
 | .own n _=>n.length<=1000
 | .small i k=>Lo i/\Lo k
def eZ (a:Adr) (H:Hp) (p:Addr):It->Prop
 | .own n h=>∃ dx,H p=some (.ins a.Own dx (ownF n h))
 | .small i k=>∃ dx,H p=some (.ins a.Small dx (qZ i k))
theorem eZ.same:∀ {it:It},eZ a H p it->af H H'->eZ a H' p it
 | .own _ _,⟨dx,e⟩,s=>⟨dx,s _ _ e⟩
 | .small _ _,⟨dx,e⟩,s=>⟨dx,s _ _ e⟩
theorem eZ.upd {a:Adr}{H:Hp}{p r:Addr}{xs:List V}{o:HO} (hr:H r=some (.lst xs)):∀ {it:It},eZ a H p it->eZ a (L2.upd H r o) p it
 | .own _ _,⟨dx,e⟩=>⟨dx,by rw[ak (cz e hr (by intro z;cases z))];exact e⟩
 | .small _ _,⟨dx,e⟩=>⟨dx,by rw[ak (cz e hr (by intro z;cases z))];exact e⟩
theorem eZ.it {a:Adr}{H:Hp}{p:Addr}:∀ {it:It},eZ a H p it->iM a H p it.sm
 | .own _ _,⟨dx,e⟩=>⟨dx,_,e⟩
 | .small _ _,⟨dx,e⟩=>⟨dx,_,e⟩
def IAt (a:Adr) (H:Hp) (v:V) (it:It):Prop:=∃ q,v=.ref q/\eZ a H q it
abbrev iH (a:Adr) (H:Hp) (xs:List V) (ac:List It):Prop:=F2 (IAt a H) xs ac
theorem mZ {ac:List It} (h:iH a H xs ac) (s:af H H'):iH a H' xs ac:=h.mono fun _ _ ⟨q,e,i⟩=>⟨q,e,i.same s⟩
theorem qN {r:Addr}{ac:List It} (h:iH a H xs ac) (hr:H r=some (.lst zs)):iH a (upd H r o) xs ac:=h.mono fun _ _ ⟨q,e,i⟩=>⟨q,e,i.upd hr⟩
def WAt (a:Adr) (H:Hp) (v:V) (ac:List It):Prop:=∃ r xs,v=.ref r/\H r=some (.lst xs)/\iH a H xs ac
theorem WAt.same {v:V}{ac:List It} (h:WAt a H v ac) (s:af H H'):WAt a H' v ac:=let ⟨r,xs,e,h1,h2⟩:=h;⟨r,xs,e,s _ _ h1,mZ h2 s⟩
abbrev WsV (a:Adr) (H:Hp) (xs:List V) (ws:List (List It)):Prop:=F2 (WAt a H) xs ws
variable {E:XK}{Q:VK}{h i:Int}{n:Str}{ta:TE}{σ:St}
theorem m7 {ws:List (List It)} (h:WsV a H xs ws) (s:af H H'):WsV a H' xs ws:=h.mono fun _ _ i=>i.same s
theorem om  (h:Lo i):i.natAbs.log2<1920:=by
 obtain⟨h0,h1⟩:=h;refine Na (Nat.log2_le_self _) ?_;omega
theorem kJ  (h:Lo i):(Str.ofString (toString i)).length<=100:=MN (PySem.W.KT.len_num h.1 (OP h.2 (by decide))) (by decide)
section
variable {K:PySem.W.Frag}
def spIni (C:Addr) (f g:Str):Sp:=fun vs H Q _=>∃ p dx x y,vs=[.ref p,x,y]/\H p=some (.ins C dx [])/\∀ H',(∀ b o,H b=some o->b≠p->H' b=some o)->H' p=some (.ins C dx [(f,x),(g,y)])->Q .non H'
theorem ok_Own (T:Tx K mg a):oM P w K mg base CX0 1 a.Own "Own" ["self","name","wide"] (spIni a.Own "name" "wide"):=T.i_Own.cal fun f fd F=>by
 refine F.ok Jr (fun vs H Q E h=>?_) (fun aw A outer s H vs Q E hr h=>?_)
 ·obtain⟨p,dx,x,y,rfl,_⟩:=h
  rfl
 ·obtain⟨p,dx,x,y,rfl,hp,k⟩:=h
  refine⟨_,(ao (jm (pv 0) (pv 1) Y)
   (aq (jm (pv 0) (pv 2) rfl))),?_⟩
  refine⟨_,Y,_,Y,p,a.Own,dx,[],Y,hp,T.c_Own,T.na_Own_name,by decide,?_⟩;refine⟨_,Y,_,Y,p,a.Own,dx,_,Y,ah,T.c_Own,T.na_Own_wide,by show 1<1000;decide,?_⟩;refine k _ (fun b o e ne=>by rw[ak ne,ak ne];exact e) ?_;rw[ah];have h1:¬ (("name":Str)="wide"):=by decide +kernel
  simp only[cm,h1,if_false]
theorem Hy (T:Tx K mg a):oM P w K mg base CX0 1 a.Small "Small" ["self","arrow","step"] (spIni a.Small "arrow" "step"):=T.i_Small.cal fun f fd F=>by
 refine F.ok GX (fun vs H Q E h=>?_) (fun aw A outer s H vs Q E hr h=>?_)
 ·obtain⟨p,dx,x,y,rfl,_⟩:=h
  rfl
 ·obtain⟨p,dx,x,y,rfl,hp,k⟩:=h
  refine⟨_,(ao (jm (pv 0) (pv 1) Y)
   (aq (jm (pv 0) (pv 2) rfl))),?_⟩
  refine⟨_,Y,_,Y,p,a.Small,dx,[],Y,hp,T.c_Small,T.na_Small_arrow,by decide,?_⟩;refine⟨_,Y,_,Y,p,a.Small,dx,_,Y,ah,T.c_Small,T.na_Small_step,by show 1<1000;decide,?_⟩;refine k _ (fun b o e ne=>by rw[ak ne,ak ne];exact e) ?_;rw[ah];have h1:¬ (("arrow":Str)="step"):=by decide +kernel
  simp only[cm,h1,if_false]
theorem sU:(ownF n h).lookup ("name":Str)=some (.str n):=lk0
theorem Bo:(ownF n h).lookup ("wide":Str)=some (.int h):=(lk1 (by decide +kernel)).trans lk0
theorem A2 {k:Int}:(qZ i k).lookup ("arrow":Str)=some (.int i):=lk0
theorem wo {k:Int}:(qZ i k).lookup ("step":Str)=some (.int k):=(lk1 (by decide +kernel)).trans lk0
def nC (C:Addr) (g:Str->Int->V):Sp:=fun vs H Q _=>∃ p dx n h,vs=[.ref p]/\H p=some (.ins C dx (ownF n h))/\Q (g n h) H
theorem tR (T:Tx K mg a):eK P w K mg base CX0 1 a.Own "label" ["self"] [] (nC a.Own fun n _=>.str n):=T.m_Own_label.cal fun f fd F=>by
 refine F.ok ID (fun vs H Q E h=>?_) (fun aw A outer s H vs Q E hr h=>?_)
 ·obtain⟨p,dx,n,h,rfl,_⟩:=h
  rfl
 ·obtain⟨p,dx,n,h,rfl,hp,k⟩:=h
  refine⟨_,(aq (aO (cO (pv 0) Y))),?_⟩;exact⟨_,Y,p,a.Own,dx,_,_,Y,hp,T.c_Own,T.na_Own_name,sU,k⟩
theorem AG (T:Tx K mg a):eK P w K mg base CX0 1 a.Own "half" ["self"] [] (nC a.Own fun _ h=>.int h):=T.m_Own_half.cal fun f fd F=>by
 refine F.ok Hv (fun vs H Q E h=>?_) (fun aw A outer s H vs Q E hr h=>?_)
 ·obtain⟨p,dx,n,h,rfl,_⟩:=h
  rfl
 ·obtain⟨p,dx,n,h,rfl,hp,k⟩:=h
  refine⟨_,(aq (aO (cO (pv 0) Y))),?_⟩;exact⟨_,Y,p,a.Own,dx,_,_,Y,hp,T.c_Own,T.na_Own_wide,Bo,k⟩
theorem KZ (T:Tx K mg a):eK P w K mg base CX0 1 a.Own "drawn" ["self"] [] (nC a.Own fun n _=>.str n):=T.m_Own_drawn.cal fun f fd F=>by
 refine F.ok HE (fun vs H Q E h=>?_) (fun aw A outer s H vs Q E hr h=>?_)
 ·obtain⟨p,dx,n,h,rfl,_⟩:=h
  rfl
 ·obtain⟨p,dx,n,h,rfl,hp,k⟩:=h
  refine⟨_,(aq (aO (cO (pv 0) Y))),?_⟩;exact⟨_,Y,p,a.Own,dx,_,_,Y,hp,T.c_Own,T.na_Own_name,sU,k⟩
def mJ (C:Addr) (g:Int->Int->V):Sp:=fun vs H Q _=>∃ p dx i j,vs=[.ref p]/\H p=some (.ins C dx (qZ i j))/\Lo i/\Lo j/\Q (g i j) H
theorem sF (T:Tx K mg a):eK P w K mg base CX0 1 a.Small "label" ["self"] [] (mJ a.Small fun i j=>.str (dO i j)):=T.m_Small_label.cal fun f fd F=>by
 refine F.ok IB (fun vs H Q E h=>?_) (fun aw A outer s H vs Q E hr h=>?_)
 ·obtain⟨p,dx,i,j,rfl,_⟩:=h
  rfl
 ·obtain⟨p,dx,i,j,rfl,hp,li,lj,k⟩:=h
  refine⟨_,(aq (aO (aG oj (aG oj (iC oK Y T.n_str mS (ag (cO (pv 0) Y) aj)) lw) (iC oK Y T.n_str mS (ag (cO (pv 0) Y) aj))))),?_⟩;have l1:=kJ li;have l2:=kJ lj;have l3:(Str.ofString (toString i)++Str.ofString ".").length=(Str.ofString (toString i)).length + 1:=by rw[PySem.Str.length_append];rfl
  refine⟨_,Y,p,a.Small,dx,_,_,Y,hp,T.c_Small,T.na_Small_arrow,A2,_,Y,om li,_,_,Y,Y,?_,?_⟩
  ·show(Str.ofString (toString i)).length + 1<=sizeLine
   rw[Mh];omega
  refine⟨_,Y,p,a.Small,dx,_,_,Y,hp,T.c_Small,T.na_Small_step,wo,_,Y,om lj,_,_,Y,Y,?_,k⟩;rw[l3,Mh];omega
theorem Cp (T:Tx K mg a):eK P w K mg base CX0 1 a.Small "half" ["self"] [] (mJ a.Small fun _ _=>.int 0):=T.m_Small_half.cal fun f fd F=>by
 refine F.ok Ja (fun vs H Q E h=>?_) (fun aw A outer s H vs Q E hr h=>?_)
 ·obtain⟨p,dx,i,j,rfl,_⟩:=h
  rfl
 ·obtain⟨p,dx,i,j,rfl,hp,li,lj,k⟩:=h
  exact⟨_,(aq (aO am)),k⟩
theorem KC (T:Tx K mg a):eK P w K mg base CX0 1 a.Small "drawn" ["self"] [] (mJ a.Small fun _ _=>.str "."):=T.m_Small_drawn.cal fun f fd F=>by
 refine F.ok FT (fun vs H Q E h=>?_) (fun aw A outer s H vs Q E hr h=>?_)
 ·obtain⟨p,dx,i,j,rfl,_⟩:=h
  rfl
 ·obtain⟨p,dx,i,j,rfl,hp,li,lj,k⟩:=h
  exact⟨_,(aq (aO lw)),k⟩
theorem w4 {m:Str}{g:Str->Int->V}{g':Int->Int->V}{it:It}{sl:St->Hp->(V->Hp->Prop)->Prop} (h:eZ a H p it) (ok:it.Ok) (m1:∀ n h,(ownF n h).lookup m=none) (m2:∀ i j,(qZ i j).lookup m=none)
  (ht:∀ Q',Q' (.ref p) H->ta σ H Q') (k:Q (match it with|.own n h=>g n h|.small i j=>g' i j) H) :
  iF a.Own m (nC a.Own g) [] E ta eS σ H Q\/iF a.Small m (mJ a.Small g') [] E ta eS σ H Q:=by
 cases it with
 | own n hf=>
  obtain⟨dx,e⟩:=h;exact .inl (ht _ ⟨p,dx,_,Y,e,m1 _ _,p,dx,n,hf,Y,e,k⟩)
 | small i j=>
  obtain⟨dx,e⟩:=h;exact .inr (ht _ ⟨p,dx,_,Y,e,m2 _ _,p,dx,i,j,Y,e,ok.1,ok.2,k⟩)
def Hq (K:PySem.W.Frag) (a:Adr):Sp:=fun vs H Q E=>∃ p r v n x,vs=[.ref p,.str n]/\bB K a.Net H p r v/\bc v.kvs (Sum.inr n)=some x/\∀ H',af H H'->Q x H'
theorem Ku (T:Tx K mg a):eK P w K mg base (CXe P w) 4 a.Net "half_of" ["self","name"] [] (Hq K a):=T.m_Net_half_of.cal fun f fd F=>by
 have m_Net_need_point:=BF (P:=P) (w:=w) (base:=base) T;refine F.okX FW (fun vs H Q E h=>?_) (fun aw A outer s H vs Q E hr h=>?_)
 ·obtain⟨p,r,v,n,x,rfl,_⟩:=h
  rfl
 ·obtain⟨p,r,v,n,x,rfl,N,hv,k⟩:=h
  obtain⟨dx,hp⟩:=N.ex;have hh:has v.kvs n=true:=by unfold has;rw[hv];rfl
  refine⟨_,(ao (ck (kK (pv 0) T.c_Net m_Net_need_point fS (hr.mono (by decide)) (ag (pv 1) aj)))
   (aq (aO (k9 (eR hr) (cO (pv 0) rfl) (pv 1) (fun _ _=>Y))))),?_⟩
  refine⟨_,Y,p,dx,_,Y,hp,by rfl,_,Y,p,r,v,n,Y,N,fun _ H1 s1=>?_,fun c=>absurd c (by rw[hh];decide)⟩;have N1:=N.same s1;obtain⟨uU,bq⟩:=N1.ex;exact⟨_,Y,p,a.Net,uU,_,_,Y,bq,T.c_Net,T.na_Net_halves,qz,_,Y,r.dh,x,Y,by rw[<- hv];exact df.k (k:=Sum.inr n) N1.hh,k H1 s1⟩
def Gw (K:PySem.W.Frag) (a:Adr):Sp:=fun vs H Q _=>∃ p r v n h,vs=[.ref p,.str n]/\bB K a.Net H p r v/\bc v.kvs (Sum.inr n)=some (.int h)/\∀ x H',af H H'->H x=none->eZ a H' x (.own n h)->Q (.ref x) H'
theorem Ba (T:Tx K mg a):Cal P w K mg base CX0 5 "own_item" ["net","name"] [] (Gw K a):=T.d_own_item.cal fun f fd F=>by
 have m_Net_half_of:=Ku (P:=P) (w:=w) (base:=base) T;have i_Own:=ok_Own (P:=P) (w:=w) (base:=base) T;refine F.ok Kx (fun vs H Q E h=>?_) (fun aw A outer s H vs Q E hr h=>?_)
 ·obtain⟨p,r,v,n,h,rfl,_⟩:=h
  rfl
 ·obtain⟨p,r,v,n,h,rfl,N,hv,k⟩:=h
  obtain⟨dx,hp⟩:=N.ex;refine⟨_,(aq (aO (B4 i_Own (hr.mono (by decide)) rfl (ag (pv 1) (ag (kK (pv 0) T.c_Net m_Net_half_of sS (hr.mono (by decide)) (ag (pv 1) aj)) aj))))),?_⟩;refine⟨_,Y,_,Y,p,dx,_,Y,hp,by rfl,_,Y,p,r,v,n,_,Y,N,hv,fun H1 s1=>?_⟩;intro x dx nx nd ne;refine⟨x,dx,_,_,Y,ah,fun H2 k2 h2=>⟨Y,?_⟩⟩;refine k x H2 (fun b o e=>?_) ?_ ⟨dx,h2⟩
  ·have e1:=s1 _ _ e
   have z1:b≠x:=aE e1 nx;exact k2 b o (by rw[ak z1,ak (aE e1 nd)];exact e1) z1
  ·cases e:H x with
   | none=>rfl
   | some o=>exact absurd (s1 _ _ e) (by rw[nx];intro z;cases z)
end
def gX (num d:Int):List It:=(List.range (d - 1).toNat).map fun k:Nat=>It.small num ((k:Int) + 1)
def mL (u:Str) (hu:Int) (l:Str) (hl num d:Int):List It:=.own u hu::(gX num d++[.own l hl])
theorem ji {x:Addr} (s:af H H') (n:H' x=none):H x=none:=by
 cases e:H x with
 | none=>rfl
 | some o=>exact absurd (s _ _ e) (by rw[n];intro z;cases z)
def m5 (u:Str) (Lu Ll:Int):V->Int
 | .str s=>if s=u then Lu else Ll
 | _=>0
theorem Jj {u l one other:Str}{Lu Ll:Int} (h:Lu<Ll) (nu:u≠l) (e:(one=u/\other=l)\/(one=l/\other=u)):iG (m5 u Lu Ll) [.str one,.str other] [.str u,.str l]:=by
 have k1:m5 u Lu Ll (.str u)=Lu:=if_pos rfl;have k2:m5 u Lu Ll (.str l)=Ll:=if_neg fun z=>nu z.symm
 refine⟨?_,fun c=>?_⟩
 ·refine List.pairwise_cons.mpr ⟨fun y hy=>?_,OU _ _⟩
  rw[List.mem_singleton.mp hy,k1,k2];omega
 ·rcases e with⟨rfl,rfl⟩|⟨rfl,rfl⟩
  ·rfl
  ·simp only[MD,OY,k1,k2,beq_iff_eq]
   by_cases c1:Lu=c
   ·simp[c1,show ¬ Ll=c by omega]
   ·simp[c1]
section
variable {K:PySem.W.Frag}
def Gx (K:PySem.W.Frag) (a:Adr):Sp:=fun vs H Q _=>∃ p r v d kd t num one other sp wt u l hu hl Lu Ll,vs=[.ref p,.ref d,.ref t]/\bB K a.Net H p r v/\H d=some (.dK kd)/\SqT K H t [.int num,.str one,.str other,.int sp,.int wt] /\
 ((one=u/\other=l)\/(one=l/\other=u))/\u≠l/\bc v.kvs (Sum.inr u)=some (.int hu)/\bc v.kvs (Sum.inr l)=some (.int hl)/\bc kd (Sum.inr u)=some (.int Lu)/\bc kd (Sum.inr l)=some (.int Ll)/\Lu<Ll/\Ll - Lu<1000 /\
 H a.tb_items_along=some (.tbl oJ nW)/\∀ x xs H',af H H'->H x=none->H' x=some (.lst xs)->iH a H' xs (mL u hu l hl num (Ll - Lu))->Q (.ref x) H'
theorem HM (T:Tx K mg a):Cal P w K mg base CX0 6 "items_along" ["net","levels","arrow"] [] (Gx K a):=T.d_items_along.calL T.lam_items_along fun f fd F L=>by
 have bo:=Ba (P:=P) (w:=w) (base:=base) T;have i_Small:=Hy (P:=P) (w:=w) (base:=base) T;refine F.okL L wD (fun vs H Q E h=>?_) (fun c A outer s H vs Q E hc hr h=>?_)
 ·obtain⟨p,r,v,d,kd,t,num,one,other,sp,wt,u,l,hu,hl,Lu,Ll,rfl,_⟩:=h
  rfl
 ·obtain⟨p,r,v,d,kd,t,num,one,other,sp,wt,u,l,hu,hl,Lu,Ll,rfl,N,hd,ht,x5,zF,vu,vl,ku,kl,lt,few,jE,k⟩:=h
  refine⟨_,(ao (aU (i:=3) wD.nd Y (.inl Y) (KF (N:=["name","levels"]) (cap:=[none,some 1]) Y T.n_sorted hr (ag (bH (ag (aF cB (pv 2) am (fun _ _=>Y)) (ag (aF cB (pv 2) am (fun _ _=>Y)) aj))) aj) Y hc (cH (osc:=aA tT) (XN:=["net","levels","arrow","ends","small"]) Y Y (by decide +kernel)) (fun f c' s H=>(k9 (eR (aZ.deeper (k:=0) (aZ.in1 (aZ.in1 (hr.mono (by decide)))) _)) (pv 1) (pv 0) (fun _ _=>Y)))))
   (ao (oH (i:=4) wD.nd Y Y (N:=["step","arrow"]) (cap:=[none,some 2]) Y (cH (osc:=aA tT) (XN:=["net","levels","arrow","ends","small"]) Y Y (by decide +kernel)) (Al rfl T.n_range (ag am (ag (aG mU (k9 (eR hr) (pv 1) (aF bC (pv 3) am (fun _ _=>Y)) (fun _ _=>Y)) (k9 (eR hr) (pv 1) (aF bC (pv 3) am (fun _ _=>Y)) (fun _ _=>Y))) aj))) (fun cl C s H fp aa=>(aD (i:=0) (show(["step","arrow"]:List Str).Nodup by decide +kernel) rfl (.inl rfl))) (fun cl C s H fp aa=>dM) (fun cl C s H fp aa=>(B4 i_Small (hr.mono (by decide)) rfl (ag (aF (mF (K:=K) Y) (pv 1) am (fun _ _=>Y)) (ag (pv 0) aj)))) (hsw:=Y))
   (aq (aO (aG rA (aG rA (bH (ag (bD bo (hr.mono (by decide)) rfl (ag (pv 0) (ag (aF bC (pv 3) am (fun _ _=>Y)) aj))) aj)) (pv 4)) (bH (ag (bD bo (hr.mono (by decide)) rfl (ag (pv 0) (ag (aF bC (pv 3) am (fun _ _=>Y)) aj))) aj))))))),?_⟩
  refine⟨_,Y,t,_,_,_,Y,Y,ht,Y,_,Y,t,_,_,_,Y,Y,ht,Y,(by show 2<=sizeLine;decide),fun q nq=>?_⟩;have s1:af H (upd H q (.lst [.str one,.str other])):=af.new nq;have h1:upd H q (.lst [.str one,.str other]) q=some (.lst [.str one,.str other]):=ah;generalize upd H q (.lst [.str one,.str other])=H1 at s1 h1 ⊢;refine⟨q,_,m5 u Lu Ll,Y,SqL.of h1,(by show 2<64;decide),s1 _ _ jE,fun x hx H2 s2=>?_,fun D H2 ys nD s2 hD st=>?_⟩
  ·have gI:=s2 _ _ (s1 _ _ hd)
   obtain⟨n,rfl,kn⟩:∃ n:Str,x=.str n/\bc kd (Sum.inr n)=some (.int (m5 u Lu Ll (.str n))):=by
    have hm:x=.str one\/x=.str other:=by simpa using hx
    have k1:m5 u Lu Ll (.str u)=Lu:=if_pos rfl;have k2:m5 u Lu Ll (.str l)=Ll:=if_neg fun z=>zF z.symm
    rcases x5 with⟨e1,e2⟩|⟨e1,e2⟩ <;> rcases hm with z|z
    ·exact⟨u,by rw[z,e1],by rw[k1];exact ku⟩
    ·exact⟨l,by rw[z,e2],by rw[k2];exact kl⟩
    ·exact⟨l,by rw[z,e1],by rw[k2];exact kl⟩
    ·exact⟨u,by rw[z,e2],by rw[k1];exact ku⟩
   exact⟨_,Y,_,Y,d,_,Y,oE (k:=Sum.inr n) gI kn,Y,af.refl _⟩
  rw[st.uniq (Jj lt zF x5)] at hD;have t2:=s1.trans s2;have gI:=t2 _ _ hd;refine⟨_,Y,_,Y,D,_,_,_,Y,Y,SqL.of hD,Y,d,_,Y,oE (k:=Sum.inr l) gI kl,_,Y,_,Y,D,_,_,_,Y,Y,SqL.of hD,Y,d,_,Y,oE (k:=Sum.inr u) gI ku,_,_,Y,Y,1,_,Y,⟨by decide,by decide,by omega,by omega⟩,fun E1 nE=>?_⟩;have en:(Ll - Lu - 1).toNat=(Ll - Lu - 1).toNat:=rfl;refine ow (lo:=1) (n:=(Ll - Lu - 1).toNat) (fun j τ G=>∃ v1,∃ xs,τ=[v1,some (.ref t)]/\af H2 G/\G E1=some (.lst xs)/\iH a G xs ((List.range j).map fun k:Nat=>It.small num ((k:Int) + 1))) ⟨none,[],Y,af.new nE,ah,trivial⟩ ?_ ?_
  ·rintro j τ G hj ⟨v1,xs,rfl,sg,hg,hi⟩
   have jl:xs.length=j:=by rw[hi.len,L9,MU]
   dsimp only[aV,cJ];rw[if_pos rfl];refine⟨_,Y,t,_,_,_,Y,Y,(Tk.of (t2.trans sg)).sqT ht,Y,_,Y,fun x dx nx nd ne=>?_⟩;refine⟨x,dx,_,_,Y,ah,fun H5 k5 h5=>⟨Y,xs,?_,?_,some (.int (1 + (j:Int))),xs++[.ref x],Y,?_,ah,?_⟩⟩
   ·exact k5 _ _ (by rw[ak (aE hg nx),ak (aE hg nd)];exact hg) (aE hg nx)
   ·rw[jl,Mh];omega
   ·have s5:af G H5:=fun b o e=>k5 b o (by rw[ak (aE e nx),ak (aE e nd)];exact e) (aE e nx)
    exact bY nE (sg.trans s5)
   ·have s5:af G H5:=fun b o e=>k5 b o (by rw[ak (aE e nx),ak (aE e nd)];exact e) (aE e nx)
    have i5:=qN (o:=.lst (xs++[.ref x])) (mZ hi s5) (s5 _ _ hg);rw[Nz,Mf];refine i5.snoc ⟨x,Y,eZ.upd (s5 _ _ hg) ⟨dx,?_⟩⟩;rw[h5,show(1 + (j:Int))=(j:Int) + 1 by omega];rfl
  rintro τ H3 ⟨v1,xs,rfl,s3,hE,hi⟩
  have t3:=t2.trans s3;have N3:=N.same t3;have iT:iH a H3 xs (gX num (Ll - Lu)):=hi;refine⟨_,Y,_,Y,D,_,_,_,Y,Y,SqL.of (s3 _ _ hD),Y,p,r,v,u,hu,Y,N3,vu,fun x1 H4 s4 Lw i1=>?_⟩;refine⟨(by show 1<=sizeLine;decide),fun q1 Fc=>?_⟩;have s5:af H4 (upd H4 q1 (.lst [.ref x1])):=af.new Fc;have h5:upd H4 q1 (.lst [.ref x1]) q1=some (.lst [.ref x1]):=ah;generalize upd H4 q1 (.lst [.ref x1])=H5 at s5 h5 ⊢;have xl:xs.length<1000:=by
   rw[hi.len,L9,MU];omega
  refine⟨_,Y,q1,E1,_,_,Y,Y,h5,(s4.trans s5) _ _ hE,by rw[Mh];show 1 + xs.length<=_;omega,fun q2 vR=>?_⟩;have s6:af H5 (upd H5 q2 (.lst ([.ref x1]++xs))):=af.new vR;have h6:upd H5 q2 (.lst ([.ref x1]++xs)) q2=some (.lst ([.ref x1]++xs)):=ah;generalize upd H5 q2 (.lst ([.ref x1]++xs))=H6 at s6 h6 ⊢;have t6:=s4.trans (s5.trans s6);refine⟨_,Y,_,Y,D,_,_,_,Y,Y,SqL.of ((s3.trans t6) _ _ hD),Y,p,r,v,l,hl,Y,N3.same t6,vl,fun x2 H7 s7 K4 i2=>?_⟩;refine⟨(by show 1<=sizeLine;decide),fun q3 Ee=>?_⟩;have s8:af H7 (upd H7 q3 (.lst [.ref x2])):=af.new Ee;have h8:upd H7 q3 (.lst [.ref x2]) q3=some (.lst [.ref x2]):=ah;generalize upd H7 q3 (.lst [.ref x2])=H8 at s8 h8 ⊢;refine⟨q2,q3,_,_,Y,Y,(s7.trans s8) _ _ h6,h8,by rw[Mh,Mg];show 1 + xs.length + 1<=_;omega,fun q4 zJ=>?_⟩;have s9:=af.new (H:=H8) (o:=.lst ([V.ref x1]++xs++[.ref x2])) zJ;have t9:=t6.trans (s7.trans (s8.trans s9));refine k q4 _ _ (t3.trans t9) (ji (t3.trans (t6.trans (s7.trans s8))) zJ) ah ?_;refine F2.app (l:=[V.ref x1]++xs) (m:=.own u hu::gX num (Ll - Lu)) ⟨⟨x1,Y,i1.same (s5.trans (s6.trans (s7.trans (s8.trans s9))))⟩,mZ iT t9⟩ ⟨⟨x2,Y,i2.same (s8.trans s9)⟩,trivial⟩
end
theorem Jm {α:Type}{i:Nat}{x:α}{p:Prop} (e:([]:List α)[i]?=some x):p:=by simp at e
theorem comp_e {c:Nat} (hc:c<=1000) (n:H D=none) (h:∀ G gs,af H G->G D=some (.lst ((gs:List Addr).map V.ref))->gs.length=c->gs.Nodup->(∀ (i:Nat) (b:Addr),gs[i]?=some b->G b=some (.lst [])/\H b=none/\b≠D)->Q (.ref D) G):jU (Itr 0 ((c:Nat):Int).toNat) D [none] (upd H D (.lst [])) (aV 0) cJ (oh eS) Q:=by
 refine ow (lo:=0) (n:=((c:Nat):Int).toNat) (fun j τ G=>∃ v1,∃ gs:List Addr,τ=[v1]/\af H G/\G D=some (.lst (gs.map V.ref))/\gs.length=j/\gs.Nodup/\∀ i b,gs[i]?=some b->G b=some (.lst [])/\H b=none/\b≠D) ⟨none,[],rfl,af.new n,ah,rfl,NO,fun i b e=>Jm e⟩ ?_ ?_
 ·rintro j τ G hj ⟨v1,gs,rfl,sg,hG,gl,nd,m⟩
  rw[MA] at hj;dsimp only[aV,cJ];rw[if_pos rfl];refine⟨(by show 0<=sizeLine;decide),fun z nz=>?_⟩;have zD:z≠D:=fun e=>by rw[e,hG] at nz;cases nz
  refine⟨_,by rw[ak (Ne.symm zD)];exact hG,?_,_,gs++[z],Y,bY n (sg.trans (af.new nz)),?_,by rw[Mg,gl];rfl,?_,fun i b e=>?_⟩
  ·rw[L9,gl,Mh]
   omega
  ·rw[ah,Mf]
   rfl
  ·refine List.nodup_append.mpr ⟨nd,by simp,fun x hx y hy=>?_⟩
   rw[List.mem_singleton.mp hy];rintro rfl
   obtain⟨i,e⟩:=List.mem_iff_getElem?.mp hx;rw[(m i x e).1] at nz;cases nz
  ·rcases OO i gs.length with l|l
   ·rw[MB l] at e
    obtain⟨m1,m2,m3⟩:=m i b e;have bz:b≠z:=aE m1 nz;exact⟨by rw[ak m3,ak bz];exact m1,m2,m3⟩
   ·rw[Mx l] at e
    have e0:i - gs.length=0:=by
     have:=(List.getElem?_eq_some_iff.mp e).1;rw[O8] at this;omega
    rw[e0] at e;cases e
    exact⟨by rw[ak zD,ah],none_of sg nz,zD⟩
 rintro τ G ⟨v1,gs,rfl,sg,y,gl,nd,m⟩
 rw[MA] at gl;exact h G gs sg y gl nd m
theorem F2.split {α β:Type}{R:α->β->Prop}{z':β}:∀ {m:List β}{xs:List α},F2 R xs (m++[z'])->∃ l z,xs=l++[z]/\F2 R l m/\R z z'
 | [],[x],h=>⟨[],x,Y,trivial,h.1⟩
 | [],[],h=>h.elim
 | [],_::_::_,h=>h.2.elim
 | _::m,[],h=>h.elim
 | y::m,x::xs,h=>by
  obtain⟨l,z,e,h1,h2⟩:=F2.split (m:=m) h.2;exact⟨x::l,z,by rw[e];rfl,⟨h.1,h1⟩,h2⟩
theorem cut_in (x z:V) (l:List V):d5 (x::(l++[z])) (some 1) (some (-1))=l:=by
 unfold d5;have e1:HT.sIx (x::(l++[z])).length 0 (some 1)=1:=by
  rw[show(1:Int)=((1:Nat):Int) from rfl,HT.zfQ];simp
 have e2:HT.sIx (x::(l++[z])).length (x::(l++[z])).length (some (-1))=l.length + 1:=by
  unfold HT.sIx;dsimp only;rw[if_pos (by decide)];simp only[Mt,Mg,Oh]
  omega
 rw[e1,e2];simp
structure Dn where
 num:Int
 up:Str
 lo:Str
 wt:Int
abbrev Pl:=List (Int×It)
def bN (pl:Pl) (i:Nat):List It:=(pl.filter fun p=>p.1 == (i:Int)).map (·.2)
def kO (lv hf:Str->Int) (x:Str):Int×It:=(lv x,.own x (hf x))
def smP (lv:Str->Int) (q:Dn) (k:Nat):Int×It:=(lv q.up + ((k:Int) + 1),.small q.num ((k:Int) + 1))
def dOf (lv:Str->Int) (q:Dn):Int:=lv q.lo - lv q.up
def eU (lv:Str->Int) (q:Dn):Pl:=(List.range (dOf lv q - 1).toNat).map (smP lv q)
def cq (lv hf:Str->Int) (ws:List Str) (ds:List Dn):Pl:=ws.map (kO lv hf)++ds.flatMap (eU lv)
def cA (lv hf:Str->Int) (q:Dn):List It:=mL q.up (hf q.up) q.lo (hf q.lo) q.num (dOf lv q)
def eI (n:Nat) (pl:Pl):List (List It):=(List.range n).map (bN pl)
variable {g t z:Addr}{i:Nat}{lv:Str->Int}{pl:Pl}{rs:List Addr}{ws:List Str}{ys:List V}
structure Fl (a:Adr) (H0 H:Hp) (g:Addr) (rs:List Addr) (pl:Pl):Prop where
 sm:af H0 H
 hg:H g=some (.lst (rs.map V.ref))
 nd:rs.Nodup
 fr:H0 g=none/\∀ r∈rs,H0 r=none
 at_:∀ (i:Nat) r,rs[i]?=some r->r≠g/\∃ xs,H r=some (.lst xs)/\iH a H xs (bN pl i)
theorem Fl.same  (h:Fl a H0 H g rs pl) (s:af H H'):Fl a H0 H' g rs pl:=⟨h.sm.trans s,s _ _ h.hg,h.nd,h.fr,fun i r e=>let ⟨n,xs,e1,e2⟩:=h.at_ i r e;⟨n,xs,s _ _ e1,mZ e2 s⟩⟩
theorem Fl.put {r x:Addr}{it:It} (h:Fl a H0 H g rs pl) (hr:rs[i]?=some r) (hx:H r=some (.lst xs)) (hi:iH a H xs (bN pl i)) (ix:eZ a H x it):Fl a H0 (upd H r (.lst (xs++[.ref x]))) g rs (pl++[((i:Int),it)]):=by
 obtain⟨rg,_⟩:=h.at_ i r hr;refine⟨fun b o e=>?_,by rw[ak (Ne.symm rg)];exact h.hg,h.nd,h.fr,fun j r' e=>?_⟩
 ·rw[ak (aE e (h.fr.2 r (Me hr)))]
  exact h.sm _ _ e
 ·obtain⟨n',pI,e1,e2⟩:=h.at_ j r' e
  refine⟨n',?_⟩;have er:bN (pl++[((i:Int),it)]) j=bN pl j++if i=j then[it] else[]:=by
   unfold bN;rw[NL,Mf];by_cases c:i=j
   ·rw[if_pos c,c]
    simp
   ·rw[if_neg c]
    have:¬ ((i:Int)=(j:Int)):=by omega
    simp[this]
  rw[er];by_cases c:i=j
  ·subst c
   rw[hr] at e;cases e
   rw[if_pos rfl];exact⟨_,ah,(qN hi hx).snoc ⟨x,Y,ix.upd hx⟩⟩
  ·rw[if_neg c,Nj]
   have ne:r'≠r:=fun z=>by
    subst z;obtain⟨l1,z1⟩:=List.getElem?_eq_some_iff.mp hr;obtain⟨l2,z2⟩:=List.getElem?_eq_some_iff.mp e;exact c ((List.getElem_inj h.nd).mp (z1.trans z2.symm))
   exact⟨pI,by rw[ak ne];exact e1,qN e2 hx⟩
theorem An (pl:Pl) (i:Nat):(bN pl i).length<=pl.length:=by
 unfold bN;rw[L9];exact Nr _ _
structure jT (K:PySem.W.Frag) (v:cI) (kd:Kvs) (ws:List Str) (ds:List Dn) (lv hf:Str->Int):Prop where
 keys:gP v.kvs=ws.map V.str
 hv:∀ x∈ws,bc v.kvs (Sum.inr x)=some (.int (hf x))
 kv:∀ x∈ws,bc kd (Sum.inr x)=some (.int (lv x))
 l0:∀ x∈ws,0<=lv x/\lv x<900
 wl:ws.length<=20
 dl:ds.length<=40
 ends:∀ q∈ds,q.up∈ws/\q.lo∈ws/\lv q.up<lv q.lo/\Lo q.num
 nl:∀ x∈ws,x.length<=1000
section
variable {K:PySem.W.Frag}
theorem BS {hf:Str->Int}{ds:List Dn} (h0:∀ q∈ds,dOf lv q<=900):(cq lv hf ws ds).length<=ws.length + ds.length * 900:=by
 unfold cq;rw[Mg,L9];have:∀ l:List Dn,(∀ q∈l,dOf lv q<=900)->(l.flatMap (eU lv)).length<=l.length * 900:=fun l=>by
  induction l with
  | nil=>exact fun _=>Md _
  | cons q l ih=>
   intro h;rw[NC,Mg,Mt];have h1:=ih fun q hq=>h q (Mo _ hq)
   have h2:=h q Ms;have h3:(eU lv q).length=(dOf lv q - 1).toNat:=by unfold eU;rw[L9,MU]
   omega
 have:=this ds h0;omega
theorem sO {y:V} (h:(ws.map V.str)[i]?=some y):∃ s,ws[i]?=some s/\y=.str s:=by
 rw[Mm] at h;cases e:ws[i]? with
 | none=>rw[e] at h;cases h
 | some s=>rw[e] at h;cases h;exact⟨s,Y,Y⟩
theorem fN {α:Type}{xs:List α}{k:Int} (h0:0<=k):atI xs k=xs[k.toNat]?:=B3 h0
def spFill (K:PySem.W.Frag) (a:Adr):Sp:=fun vs H Q _=>∃ p r v d kd n wy ys ws ds lv hf,vs=[.ref p,.ref d,.int ((n:Nat):Int),.ref wy]/\bB K a.Net H p r v/\H d=some (.dK kd)/\jT K v kd ws ds lv hf/\(∀ x∈ws,lv x<n)/\n<=900/\H wy=some (.lst ys)/\WsV a H ys (ds.map (cA lv hf)) /\
 ∀ g rs H',af H H'->H g=none->H' g=some (.lst rs)->WsV a H' rs (eI n (cq lv hf ws ds))->Q (.ref g) H'
theorem HR (T:Tx K mg a):Cal P w K mg base CX0 6 "filled_rows" ["net","levels","count","ways"] [] (spFill K a):=T.d_filled_rows.cal fun f fd F=>by
 have bo:=Ba (P:=P) (w:=w) (base:=base) T;have m_Net_points:=wY (P:=P) (w:=w) (base:=base) T;refine F.ok qO (fun vs H Q E h=>?_) (fun aw A outer s H vs Q E hr h=>?_)
 ·obtain⟨p,r,v,d,kd,n,wy,ys,ws,ds,lv,hf,rfl,_⟩:=h
  rfl
 ·obtain⟨p,r,v,d,kd,n,wy,ys,ws,ds,lv,hf,rfl,N,hd,S,ln,hn,xN,hw,k⟩:=h
  have big:(cq lv hf ws ds).length<=40000:=by
   have h1:=BS (hf:=hf) (ws:=ws) (ds:=ds) (lv:=lv) fun q hq=>by
    obtain⟨e1,e2,_⟩:=S.ends q hq;have:=S.l0 _ e1;have:=S.l0 _ e2;unfold dOf;omega
   have:=S.wl;have:=S.dl;have:ds.length * 900<=40 * 900:=Pe _ S.dl;omega
  refine⟨_,(ao (oH (i:=4) qO.nd Y Y (N:=["level"]) (cap:=[none]) Y (cH (osc:=aA xt) (XN:=["net","levels","count","ways","rows","name","way","item"]) Y Y (by decide +kernel)) (kQ rfl T.n_range (ag (pv 2) aj)) (fun cl C s H fp aa=>(aD (i:=0) (show(["level"]:List Str).Nodup by decide +kernel) rfl (.inl rfl))) (fun cl C s H fp aa=>dM) (fun cl C s H fp aa=>(bH aj)) (hsw:=Y))
   (ao (cP PassesOwn.never rfl (cw (cy (pv 0) T.c_Net m_Net_points (hr.mono (by decide)))) (aD (i:=5) qO.nd Y (.inl Y)) (aq (ck (dL PySem.F.plainAttrs_list PySem.F.slot_list_append PySem.F.type_list_append gj (aF bC (pv 4) (k9 (eR hr) (pv 1) (pv 5) (fun _ _=>Y)) (fun _ _=>Y)) (ag (bD bo (hr.mono (by decide)) rfl (ag (pv 0) (ag (pv 5) aj))) aj)))))
   (ao (cP PassesOwn.never rfl (cw (pv 3)) (aD (i:=6) qO.nd Y (.inl Y)) (aq (cP PassesOwn.never Y (cw (tK tW (pv 6) (n8 am) (n8 (pe_un Cj am)))) (aD (i:=7) qO.nd Y (.inl Y)) (aq (ck (dL PySem.F.plainAttrs_list PySem.F.slot_list_append PySem.F.type_list_append gj (aF bC (pv 4) (aG dZ (k9 (eR hr) (pv 1) (cO (aF bC (pv 6) am (fun _ _=>Y)) Y) (fun _ _=>Y)) (cO (pv 7) Y)) (fun _ _=>Y)) (ag (pv 7) aj)))))))
   (aq (aO (pv 4)))))),?_⟩
  refine⟨_,Y,_,Y,by omega,by omega,fun D nD=>?_⟩;refine comp_e (c:=n) (by omega) nD fun G gs sg hG gl ES gm=>?_
  have f0:Fl a H G D gs []:=⟨sg,hG,ES,⟨nD,fun r hr=>let ⟨i,e⟩:=List.mem_iff_getElem?.mp hr;(gm i r e).2.1⟩,fun i r e=>⟨(gm i r e).2.2,[],(gm i r e).1,trivial⟩⟩;have zr:gs.length=n:=gl;obtain⟨dx,hp⟩:=(N.same sg).ex;refine⟨_,Y,p,dx,_,Y,hp,by rfl,p,r,v,Y,N.same sg,fun l nl=>?_⟩;rw[S.keys];have f1:=f0.same (af.new (o:=.lst (ws.map V.str)) nl);have h1:upd G l (.lst (ws.map V.str)) l=some (.lst (ws.map V.str)):=ah;generalize upd G l (.lst (ws.map V.str))=H1 at f1 h1 ⊢;refine⟨l,Y,⟨_,SqL.of h1⟩,gE (K:=K) (a:=l) (xs:=ws.map V.str) (fun i σ H'=>∃ v5,σ=[some (.ref p),some (.ref d),some (.int ((n:Nat):Int)),some (.ref wy),some (.ref D),v5,none,none]/\Fl a H H' D gs ((ws.take i).map (kO lv hf))/\H' l=some (.lst (ws.map V.str)))
   ⟨none,rfl,f1,h1⟩ ?_ ?_ ?_⟩
  ·rintro i σ H' _ ⟨_,rfl,_,hl⟩
   exact SqL.of hl
  ·rintro i y σ H' hy ⟨v5,rfl,fa,hl⟩
   obtain⟨x,hx,rfl⟩:=sO hy;have mx:=Me hx;obtain⟨x0,x9⟩:=S.l0 x mx;have xn:=ln x mx;obtain⟨rr,hrr⟩:∃ rr,gs[(lv x).toNat]?=some rr:=⟨_,Mj (by omega)⟩;obtain⟨rg,xs,e1,e2⟩:=fa.at_ _ _ hrr;dsimp only[aV];refine⟨_,Y,_,Y,_,Y,d,_,Y,oE (k:=Sum.inr x) (fa.sm _ _ hd) (S.kv x mx),D,_,_,.ref rr,Y,Y,SqL.of fa.hg,by rw[fN x0,Mm,hrr];rfl,.inl ⟨Y,_,SqL.of e1⟩,_,Y,_,Y,p,r,v,x,hf x,Y,N.same fa.sm,S.hv x mx,fun q H3 s3 nq iq=>?_⟩;have f3:=fa.same s3;refine⟨rr,xs,_,Y,Y,s3 _ _ e1,?_,?_⟩
   ·have z1:=e2.len
    have z2:=An ((ws.take i).map (kO lv hf)) (lv x).toNat;rw[L9,Ml] at z2;have:=S.wl;rw[Mh];omega
   ·refine⟨_,Y,?_,by rw[ak (aE (gm _ _ hrr).1 nl).symm];exact s3 _ _ hl⟩
    ·rw[bP hx,Mf]
     have:=f3.put hrr (s3 _ _ e1) (mZ e2 s3) iq
     rwa [show(((lv x).toNat:Nat):Int)=lv x by omega] at this
  rintro σ H2 ⟨v5,rfl,f2,_⟩
  rw[L9,Mu] at f2;refine⟨_,Y,wy,Y,⟨_,SqL.of (f2.sm _ _ xN)⟩,gE (K:=K) (a:=wy) (xs:=ys) (fun j σ H'=>∃ v6 v7,σ=[some (.ref p),some (.ref d),some (.int ((n:Nat):Int)),some (.ref wy),some (.ref D),v5,v6,v7]/\Fl a H H' D gs (ws.map (kO lv hf)++(ds.take j).flatMap (eU lv)))
   ⟨none,none,rfl,by rw[NV,List.flatMap_nil,Nj];exact f2⟩ ?_ ?_ ?_⟩
  ·rintro j σ H' _ ⟨_,_,rfl,fa⟩
   exact SqL.of (fa.sm _ _ xN)
  ·rintro j y σ H' hy ⟨v6,v7,rfl,fa⟩
   obtain⟨ac,bU,r1,xs,rfl,pG,yh⟩:=hw.get hy;rw[Mm] at bU;obtain⟨q,hq,rfl⟩:∃ q,ds[j]?=some q/\cA lv hf q=ac:=by
    cases e:ds[j]? with
    | none=>rw[e] at bU;cases bU
    | some q=>rw[e] at bU;cases bU;exact⟨q,Y,Y⟩
   have mq:=Me hq;obtain⟨mu,ml,lt,lo⟩:=S.ends q mq;obtain⟨u0,u9⟩:=S.l0 _ mu;obtain⟨b0,b9⟩:=S.l0 _ ml;have bn:=ln _ ml;cases xs with
   | nil=>exact yh.elim
   | cons x1 xs=>
   obtain⟨⟨p1,rfl,uU,bq⟩,oR⟩:=yh;obtain⟨l1,z1,rfl,oS,_⟩:=F2.split oR;have ll:l1.length=(dOf lv q - 1).toNat:=by
    rw[oS.len];unfold gX;rw[L9,MU]
   have dq:dOf lv q=lv q.lo - lv q.up:=rfl;dsimp only[aV];refine⟨_,Y,_,Y,_,Y,_,Y,r1,_,Y,SqL.of (fa.sm _ _ pG),fun z nz=>?_⟩;rw[show d5 (V.ref p1::(l1++[z1])) (some 1) (some (-1))=l1 from cut_in _ _ _];have fz:=fa.same (af.new (o:=.lst l1) nz);have hz:upd H' z (.lst l1) z=some (.lst l1):=ah;have zd:∀ b∈gs,b≠z:=fun b hb=>by
    obtain⟨i,e⟩:=List.mem_iff_getElem?.mp hb;obtain⟨_,_,e1,_⟩:=fa.at_ i b e;exact aE e1 nz
   generalize upd H' z (.lst l1)=Hz at fz hz ⊢;refine⟨z,Y,⟨_,SqL.of hz⟩,gE (K:=K) (a:=z) (xs:=l1) (fun m σ H'=>∃ v7,σ=[some (.ref p),some (.ref d),some (.int ((n:Nat):Int)),some (.ref wy),some (.ref D),v5,some (.ref r1),v7]/\Fl a H H' D gs (ws.map (kO lv hf)++(ds.take j).flatMap (eU lv)++(List.range m).map (smP lv q))/\H' z=some (.lst l1))
    ⟨v7,rfl,by rw[List.range_zero,Oi,Nj];exact fz,hz⟩ ?_ ?_ ?_⟩
   ·rintro m σ H3 _ ⟨_,rfl,_,h3⟩
    exact SqL.of h3
   ·rintro m y σ H3 hy ⟨v7,rfl,fb,h3⟩
    obtain⟨it,hit,q1,rfl,iq⟩:=oS.get hy;have hm:m<l1.length:=(List.getElem?_eq_some_iff.mp hy).1;have DL:it=.small q.num ((m:Int) + 1):=by
     unfold gX at hit;rw[Mm,Ou (by omega)] at hit;exact(Option.some.inj hit).symm
    subst DL;obtain⟨yY,rL⟩:=iq;have i0:0<=lv q.up + ((m:Int) + 1):=by omega
    have i9:(lv q.up + ((m:Int) + 1)).toNat<gs.length:=by omega
    obtain⟨rr,hrr⟩:∃ rr,gs[(lv q.up + ((m:Int) + 1)).toNat]?=some rr:=⟨_,Mj i9⟩;obtain⟨rg,xs,e1,e2⟩:=fb.at_ _ _ hrr;have ud:xs.length<=40000:=by
     have y1:=e2.len;have y2:=An (ws.map (kO lv hf)++(ds.take j).flatMap (eU lv)++(List.range m).map (smP lv q)) (lv q.up + ((m:Int) + 1)).toNat;have y3:(ws.map (kO lv hf)++(ds.take j).flatMap (eU lv)++(List.range m).map (smP lv q)).length<=ws.length + (ds.take j).length * 900 + 900:=by
      have:=BS (hf:=hf) (ws:=ws) (ds:=ds.take j) (lv:=lv) fun q' dA=>by
       obtain⟨w1,w2,_⟩:=S.ends q' (Oo dA);have:=S.l0 _ w1;have:=S.l0 _ w2;unfold dOf;omega
      unfold cq at this;have e3:∀ x:Pl,(x++(List.range m).map (smP lv q)).length=x.length + m:=fun x=>by rw[Mg,L9,MU]
      rw[e3];omega
     have y4:(ds.take j).length * 900<=40 * 900:=Pe _ (by rw[Ml];have:=S.dl;omega);have:=S.wl;omega
    dsimp only[aV];refine⟨_,Y,_,Y,_,Y,r1,_,_,.ref p1,Y,Y,SqL.of (fb.sm _ _ pG),fN (MX 0),p1,a.Own,uU,_,_,Y,fb.sm _ _ bq,T.c_Own,T.na_Own_name,sU,d,_,Y,oE (k:=Sum.inr q.up) (fb.sm _ _ hd) (S.kv _ mu),_,Y,q1,a.Small,yY,_,_,Y,fb.sm _ _ rL,T.c_Small,T.na_Small_step,wo,_,_,Y,Y,D,_,_,.ref rr,Y,Y,SqL.of fb.hg,by rw[fN i0,Mm,hrr];rfl,.inl ⟨Y,_,SqL.of e1⟩,_,Y,rr,xs,_,Y,Y,e1,by rw[Mh];omega,?_⟩;refine⟨_,Y,?_,by rw[ak (zd rr (Me hrr)).symm];exact h3⟩;have:=fb.put hrr e1 e2 (it:=.small q.num ((m:Int) + 1)) (x:=q1) ⟨yY,fb.sm _ _ rL⟩;rw[Nz,Mf,<- MT]
    rwa [show(((lv q.up + ((m:Int) + 1)).toNat:Nat):Int)=lv q.up + ((m:Int) + 1) by omega] at this
   rintro σ H3 ⟨v7,rfl,fb,_⟩
   refine⟨_,_,Y,?_⟩;rw[bP hq,NT,<- MT,O4];rw[ll] at fb;exact fb
  rintro σ H3 ⟨v6,v7,rfl,fb⟩
  rw[hw.len,L9,Mu] at fb;refine⟨_,Y,k D _ H3 fb.sm nD fb.hg (F2.of (by rw[L9,zr];unfold eI;rw[L9,MU]) fun i x y hx hy=>?_)⟩;rw[Mm] at hx;obtain⟨r',hr',rfl⟩:∃ r',gs[i]?=some r'/\V.ref r'=x:=by
   cases e:gs[i]? with
   | none=>rw[e] at hx;cases hx
   | some r'=>rw[e] at hx;cases hx;exact⟨r',Y,Y⟩
  obtain⟨_,xs,e1,e2⟩:=fb.at_ i r' hr';have hi:i<n:=by rw[<- zr];exact(List.getElem?_eq_some_iff.mp hr').1
  unfold eI at hy;rw[Mm,Ou hi] at hy;cases hy
  exact⟨r',xs,Y,e1,e2⟩
end
abbrev Lne:=Str×Str×Int
theorem dt_ln {K:PySem.W.Frag}{q:Lne} (h:SqT K H t [.str q.1,.str q.2.1,.int q.2.2]):DtV K H (cK q) (.ref t):=⟨t,_,Y,h,_,_,Y,Y,_,_,Y,Y,_,_,Y,Y,Y⟩
theorem un_ln {K:PySem.W.Frag}{q:Lne} (h:DtV K H (cK q) x):∃ t,x=.ref t/\SqT K H t [.str q.1,.str q.2.1,.int q.2.2]:=by
 obtain⟨t,xs,rfl,h1,y1,yK,rfl,rfl,y2,yu,rfl,rfl,y3,uK,rfl,rfl,h2⟩:=h;rw[show uK=[] from h2] at h1;exact⟨t,Y,h1⟩
theorem dt_pr {K:PySem.W.Frag}{q:Str×Str} (h:SqT K H t [.str q.1,.str q.2]):DtV K H (jP q) (.ref t):=⟨t,_,Y,h,_,_,Y,Y,_,_,Y,Y,Y⟩
theorem grow {K:PySem.W.Frag}{B:Hp}{ds:List Dt}{d:Dt}{vs:List V} (nD:B D=none) (sm:af B H) (hy:H D=some (.lst ys)) (dy:aM K H ds ys) (nl:oO ds=true) (nz:H z=none) (hd:∀ H',SqT K H' z vs->DtV K H' d (.ref z)) :
  (upd H z (.tup vs)) D=some (.lst ys)/\af B (upd (upd H z (.tup vs)) D (.lst (ys++[.ref z])))/\aM K (upd (upd H z (.tup vs)) D (.lst (ys++[.ref z]))) (ds++[d]) (ys++[.ref z]):=by
 have s3:af H (upd H z (.tup vs)):=af.new nz;have hz:SqT K (upd H z (.tup vs)) z vs:=SqT.of ah;have gy:=s3 _ _ hy;generalize upd H z (.tup vs)=H3 at s3 hz gy ⊢;have tk:Tk H3 (upd H3 D (.lst (ys++[.ref z]))):=Tk.upd gy rfl;exact⟨gy,bY nD (sm.trans s3),aM.snoc (hd _ (tk.sqT hz)) (tk.dts nl (s3.dts dy))⟩
section
variable {K:PySem.W.Frag}
theorem qy {it:It} (h:eZ a H p it) (ok:it.Ok) (ht:∀ Q':VK,Q' (.ref p) H->ta σ H Q') (k:Q (.str it.label) H) :
  iF a.Own "label" (nC a.Own fun n _=>.str n) [] E ta eS σ H Q\/iF a.Small "label" (mJ a.Small fun i j=>.str (dO i j)) [] E ta eS σ H Q:=
 w4 (sl:=fun _ _ _=>True) h ok (fun _ _=>Y) (fun _ _=>Y) ht (by cases it <;> exact k)
theorem Cy {it:It} (h:eZ a H p it) (ok:it.Ok) (ht:∀ Q':VK,Q' (.ref p) H->ta σ H Q') (k:Q (.int it.hf) H) :
  iF a.Own "half" (nC a.Own fun _ h=>.int h) [] E ta eS σ H Q\/iF a.Small "half" (mJ a.Small fun _ _=>.int 0) [] E ta eS σ H Q:=
 w4 (sl:=fun _ _ _=>True) h ok (fun _ _=>Y) (fun _ _=>Y) ht (by cases it <;> exact k)
theorem Ce {it:It} (h:eZ a H p it) (ok:it.Ok) (ht:∀ Q':VK,Q' (.ref p) H->ta σ H Q') (k:Q (.str it.drawn) H) :
  iF a.Own "drawn" (nC a.Own fun n _=>.str n) [] E ta eS σ H Q\/iF a.Small "drawn" (mJ a.Small fun _ _=>.str ".") [] E ta eS σ H Q:=
 w4 (sl:=fun _ _ _=>True) h ok (fun _ _=>Y) (fun _ _=>Y) ht (by cases it <;> exact k)
def lnI (wt:Int) (p:It×It):Lne:=(p.1.label,p.2.label,wt * lu (cnt p.1.sm + cnt p.2.sm))
def nZ (ac:List It) (wt:Int):List Lne:=(ac.zip (ac.drop 1)).map (lnI wt)
def GP (K:PySem.W.Frag) (a:Adr):Sp:=fun vs H Q _=>∃ p xs ac wt,vs=[.ref p,.int wt]/\H p=some (.lst xs)/\iH a H xs ac/\(∀ it∈ac,it.Ok)/\1<=ac.length/\ac.length<=1000/\0<wt/\wt<2 ^ 64/\∀ l ys H',af H H'->H l=none->H' l=some (.lst ys)->aM K H' ((nZ ac wt).map cK) ys->Q (.ref l) H'
theorem FN (T:Tx K mg a):Cal P w K mg base CX0 2 "lines_along" ["way","weight"] [] (GP K a):=T.d_lines_along.cal fun f fd F=>by
 have js:=HV (P:=P) (w:=w) (base:=base) T;have m_Own_label:=tR (P:=P) (w:=w) (base:=base) T;have m_Small_label:=sF (P:=P) (w:=w) (base:=base) T;refine F.ok Hh (fun vs H Q E h=>?_) (fun aw A outer s H vs Q E hr h=>?_)
 ·obtain⟨p,xs,ac,wt,rfl,_⟩:=h
  rfl
 ·obtain⟨p,xs,ac,wt,rfl,hp,hx,ok,n1,n9,w0,w1,k⟩:=h
  have xl:=hx.len;refine⟨_,(aq (aO (eX (N:=["upper","lower","weight"]) (cap:=[none,none,some 1]) Y (cH (osc:=aA wV) (XN:=["way","weight"]) Y Y (by decide +kernel)) (sZ rfl T.n_zip (ag (pv 0) (ag (tK tW (pv 0) (n8 am) AJ) aj))) (fun cl C s H fp aa=>(tL (K:=K) (n:=2) Y Y (aQ (aD (i:=0) (show(["upper","lower","weight"]:List Str).Nodup by decide +kernel) rfl (.inl rfl)) (aQ (aD (i:=1) (show(["upper","lower","weight"]:List Str).Nodup by decide +kernel) rfl (.inl rfl)) fU)))) (fun cl C s H fp aa=>dM) (fun cl C s H fp aa=>(gk (ag (jK (cy (pv 0) T.c_Own m_Own_label (hr.mono (by decide))) (cy (pv 0) T.c_Small m_Small_label (hr.mono (by decide)))) (ag (jK (cy (pv 1) T.c_Own m_Own_label (hr.mono (by decide))) (cy (pv 1) T.c_Small m_Small_label (hr.mono (by decide)))) (ag (bD js (hr.mono (by decide)) rfl (ag (pv 0) (ag (pv 1) (ag (pv 2) aj)))) aj)))))))),?_⟩;refine⟨_,Y,_,Y,_,Y,p,_,Y,SqL.of hp,fun q nq=>?_⟩;rw[JX];have s1:af H (upd H q (.lst (xs.drop 1))):=af.new nq;have h1:upd H q (.lst (xs.drop 1)) q=some (.lst (xs.drop 1)):=ah;generalize upd H q (.lst (xs.drop 1))=H1 at s1 h1 ⊢;have bq:=s1 _ _ hp;refine⟨p,q,Y,⟨_,SqL.of bq⟩,⟨_,SqL.of h1⟩,fun D hD=>?_⟩;refine Gf (K:=K) (l1:=p) (l2:=q) (xs:=xs) (ys:=xs.drop 1) (n:=xs.length - 1) (by omega) (by rw[Nl];omega) (.inr (by rw[Nl])) (fun i τ H'=>∃ v1 v2 ys,τ=[v1,v2,some (.int wt)]/\af H1 H'/\H' D=some (.lst ys)/\aM K H' (((ac.zip (ac.drop 1)).take i).map fun p=>cK (lnI wt p)) ys) ⟨none,none,[],Y,af.new hD,ah,Y⟩ ?_ ?_ ?_
  ·rintro i τ H' _ ⟨_,_,_,rfl,sm,_⟩
   exact⟨SqL.of (sm _ _ bq),SqL.of (sm _ _ h1)⟩
  ·rintro i x y t τ H' hi h2 h3 nt ⟨v1,v2,ys,rfl,sm,hy,dy⟩
   obtain⟨nK,e1,p1,rfl,i1⟩:=hx.get h2;obtain⟨nF,e2,p2,rfl,i2⟩:=(hx.drop 1).get h3;have ez:(ac.zip (ac.drop 1))[i]?=some (nK,nF):=by rw[OI];exact⟨e1,e2⟩
   have uH:=ok nK (Me e1);have ED:=ok nF (List.mem_of_mem_drop (Me e2));have s2:af H' (upd H' t (.tup [.ref p1,.ref p2])):=af.new nt;have ht:SqT K (upd H' t (.tup [.ref p1,.ref p2])) t [.ref p1,.ref p2]:=SqT.of ah;generalize upd H' t (.tup [.ref p1,.ref p2])=H2 at s2 ht ⊢;have kB:=sm.trans s2;have j1:=i1.same (s1.trans kB);have j2:=i2.same (s1.trans kB);refine⟨t,_,Y,ht,Y,_,_,Y,_,_,Y,Y,?_⟩;dsimp only[cJ];rw[if_pos rfl];refine qy j1 uH (fun Q' h=>⟨_,Y,h⟩) ?_;refine qy j2 ED (fun Q' h=>⟨_,Y,h⟩) ?_;refine⟨_,Y,_,Y,_,Y,p1,p2,wt,nK.sm,nF.sm,Y,j1.it,j2.it,w0,w1,fun H3 s3=>?_⟩;refine⟨(by show 3<=sizeLine;decide),fun z nz=>?_⟩;have yl:ys.length<=1000:=by
    rw[<- dy.length,L9,Ml,Op];omega
   obtain⟨g1,g2,g3⟩:=grow (K:=K) (d:=cK (lnI wt (nK,nF))) (vs:=[.str nK.label,.str nF.label,.int (wt * lu (cnt nK.sm + cnt nF.sm))]) hD (kB.trans s3) (s3 _ _ (s2 _ _ hy)) ((s2.trans s3).dts dy) (dX (fun _=>Y) _) nz fun H' h=>dt_ln h
   refine⟨ys,g1,by rw[Mh];omega,_,_,_,Y,g2,ah,?_⟩;rw[bP ez,Mf];exact g3
  ·rintro τ H' ⟨v1,v2,ys,rfl,sm,hy,dy⟩
   refine k D ys H' (s1.trans sm) (ji s1 hD) hy ?_;rw[M8 (by rw[Op,Nl];omega)] at dy;unfold nZ;rw[Nw];exact dy
def SAt (H:Hp) (v:V) (ls:List Str):Prop:=∃ r,v=.ref r/\H r=some (.lst (ls.map V.str))
abbrev fH (ac:List It):List Str:=ac.map It.label
def tO (ac:List It):Prop:=ac.length<=50000/\∀ it∈ac,it.Ok
def IW (a:Adr):Sp:=fun vs H Q _=>∃ p xs rows,vs=[.ref p]/\H p=some (.lst xs)/\WsV a H xs rows/\(∀ r∈rows,tO r)/\rows.length<=1000/\∀ l ys H',af H H'->H l=none->H' l=some (.lst ys)->F2 (SAt H') ys (rows.map fH)->Q (.ref l) H'
theorem J3 (T:Tx K mg a):Cal P w K mg base CX0 2 "marks_of" ["rows"] [] (IW a):=T.d_marks_of.cal fun f fd F=>by
 have m_Own_label:=tR (P:=P) (w:=w) (base:=base) T;have m_Small_label:=sF (P:=P) (w:=w) (base:=base) T;refine F.ok xB (fun vs H Q E h=>?_) (fun aw A outer s H vs Q E hr h=>?_)
 ·obtain⟨p,xs,rows,rfl,_⟩:=h
  rfl
 ·obtain⟨p,xs,rows,rfl,hp,hx,ok,n9,k⟩:=h
  have xl:=hx.len;refine⟨_,(ao (aU (i:=1) xB.nd Y (.inl Y) (bH aj))
   (ao (cP PassesOwn.never rfl (cw (pv 0)) (aD (i:=2) xB.nd Y (.inl Y)) (aq (ck (dL PySem.F.plainAttrs_list PySem.F.slot_list_append PySem.F.type_list_append gj (pv 1) (ag (eX (N:=["item"]) (cap:=[none]) Y (cH (osc:=aA wf) (XN:=["rows","marks","row"]) Y Y (by decide +kernel)) (cw (pv 2)) (fun cl C s H fp aa=>(aD (i:=0) (show(["item"]:List Str).Nodup by decide +kernel) rfl (.inl rfl))) (fun cl C s H fp aa=>dM) (fun cl C s H fp aa=>(jK (cy (pv 0) T.c_Own m_Own_label (hr.mono (by decide))) (cy (pv 0) T.c_Small m_Small_label (hr.mono (by decide)))))) aj)))))
   (aq (aO (pv 1))))),?_⟩
  refine⟨(by show 0<=sizeLine;decide),fun g ng=>?_⟩;refine⟨_,Y,p,Y,⟨_,SqL.of (af.new (o:=.lst []) ng _ _ hp)⟩,gE (K:=K) (a:=p) (xs:=xs) (fun i σ H'=>∃ v2 ys,σ=[some (.ref p),some (.ref g),v2]/\af H H'/\H' g=some (.lst ys)/\F2 (fun v ls=>SAt H' v ls/\v≠.ref g) ys ((rows.take i).map fH)) ⟨none,[],Y,af.new ng,ah,trivial⟩ ?_ ?_ ?_⟩
  ·rintro i σ H' _ ⟨_,_,rfl,sm,_⟩
   exact SqL.of (sm _ _ hp)
  ·rintro i x σ H' ir ⟨v2,ys,rfl,sm,hg,fa⟩
   obtain⟨ac,e1,r1,zs,rfl,h1,hz⟩:=hx.get ir;obtain⟨il,io⟩:=ok ac (Me e1);have hi:i<rows.length:=(List.getElem?_eq_some_iff.mp e1).1;have zl:=hz.len;dsimp only[aV];refine⟨_,Y,.inl ⟨Y,_,SqL.of hg⟩,_,Y,r1,Y,⟨_,SqL.of (sm _ _ h1)⟩,fun D hD=>?_⟩;refine gA (K:=K) (a:=r1) (xs:=zs) (fun j τ G=>∃ v1,τ=[v1]/\af H' G/\G D=some (.lst ((fH (ac.take j)).map V.str))) ⟨none,rfl,af.new hD,ah⟩ ?_ ?_ ?_
   ·rintro j τ G _ ⟨_,rfl,sg,_⟩
    exact SqL.of (sg _ _ (sm _ _ h1))
   ·rintro j y τ G hy ⟨v1,rfl,sg,hG⟩
    obtain⟨it,e2,q,rfl,iq⟩:=hz.get hy;have hj:j<ac.length:=(List.getElem?_eq_some_iff.mp e2).1;dsimp only[aV,cJ];rw[if_pos rfl];refine qy (iq.same (sm.trans sg)) (io it (Me e2)) (fun Q' h=>⟨_,Y,h⟩) ?_;refine⟨_,hG,by rw[L9,L9,Ml,Mh];omega,_,Y,bY hD sg,?_⟩;rw[ah,bP e2];simp[fH]
   rintro τ G ⟨v1,rfl,sg,hG⟩
   rw[zl,Mu] at hG;have gD:g≠D:=aE hg hD;refine⟨g,ys,_,Y,Y,sg _ _ hg,by rw[fa.len,L9,Ml,Mh];omega,?_⟩;refine⟨_,_,Y,bY ng (sm.trans sg),ah,?_⟩;rw[bP e1,Mf];refine(fa.mono fun v ls ⟨⟨r,ev,hr⟩,nv⟩=>⟨⟨r,ev,?_⟩,nv⟩).snoc ⟨⟨D,Y,?_⟩,fun z=>gD (by cases z;rfl)⟩
   ·rw[ak (Ne.symm gD)]
    exact hG
   ·rw[ak (fun z=>nv (by rw[ev,z]))]
    exact sg _ _ hr
  rintro σ H' ⟨v2,ys,rfl,sm,hg,fa⟩
  rw[xl,Mu] at fa;exact⟨_,Y,k g ys H' sm ng hg (fa.mono fun _ _ h=>h.1)⟩
def HZ (K:PySem.W.Frag):Sp:=fun vs H Q _=>∃ p xs,∃ ls:List Lne,vs=[.ref p]/\H p=some (.lst xs)/\aM K H (ls.map cK) xs/\ls.length<=100000/\∀ l ys H',af H H'->H l=none->H' l=some (.lst ys)->aM K H' (ls.map fun q=>jP (q.1,q.2.1)) ys->Q (.ref l) H'
theorem Hm (T:Tx K mg a):Cal P w K mg base CX0 1 "pairs_of" ["lines"] [] (HZ K):=T.d_pairs_of.cal fun f fd F=>by
 refine F.ok Hu (fun vs H Q E h=>?_) (fun aw A outer s H vs Q E hr h=>?_)
 ·obtain⟨p,xs,ls,rfl,_⟩:=h
  rfl
 ·obtain⟨p,xs,ls,rfl,hp,hd,n9,k⟩:=h
  have xl:=hd.length;rw[L9] at xl;refine⟨_,(aq (aO (eX (N:=["upper","lower","weight"]) (cap:=[none,none,none]) Y (cH (osc:=aA wg) (XN:=["lines"]) Y Y (by decide +kernel)) (cw (pv 0)) (fun cl C s H fp aa=>(tL (K:=K) (n:=3) Y Y (aQ (aD (i:=0) (show(["upper","lower","weight"]:List Str).Nodup by decide +kernel) rfl (.inl rfl)) (aQ (aD (i:=1) (show(["upper","lower","weight"]:List Str).Nodup by decide +kernel) rfl (.inl rfl)) (aQ (aD (i:=2) (show(["upper","lower","weight"]:List Str).Nodup by decide +kernel) rfl (.inl rfl)) fU))))) (fun cl C s H fp aa=>dM) (fun cl C s H fp aa=>(gk (ag (pv 0) (ag (pv 1) aj))))))),?_⟩;refine⟨_,Y,p,Y,⟨_,SqL.of hp⟩,fun D hD=>?_⟩;refine gA (K:=K) (a:=p) (xs:=xs) (fun i τ H'=>∃ v1 v2 v3 ys,τ=[v1,v2,v3]/\af H H'/\H' D=some (.lst ys)/\aM K H' ((ls.take i).map fun q=>jP (q.1,q.2.1)) ys) ⟨none,none,none,[],Y,af.new hD,ah,Y⟩ ?_ ?_ ?_
  ·rintro i τ H' _ ⟨_,_,_,_,rfl,sm,_⟩
   exact SqL.of (sm _ _ hp)
  ·rintro i x τ H' hx ⟨v1,v2,v3,ys,rfl,sm,hy,dy⟩
   obtain⟨q,hq,dq⟩:=nB hd hx;obtain⟨t,rfl,ht⟩:=un_ln (sm.dt dq);have yl:ys.length<=100000:=by
    rw[<- dy.length,L9,Ml];omega
   refine⟨t,_,Y,ht,Y,_,_,Y,_,_,Y,_,_,Y,Y,?_⟩;dsimp only[cJ];rw[if_pos rfl];refine⟨_,Y,_,Y,(by show 2<=sizeLine;decide),fun z nz=>?_⟩;obtain⟨g1,g2,g3⟩:=grow (K:=K) (d:=jP (q.1,q.2.1)) (vs:=[.str q.1,.str q.2.1]) hD sm hy dy (dX (fun _=>Y) _) nz fun H' h=>dt_pr h
   refine⟨ys,g1,by rw[Mh];omega,_,_,_,_,Y,g2,ah,?_⟩;rw[bP hq,Mf];exact g3
  ·rintro τ H' ⟨v1,v2,v3,ys,rfl,sm,hy,dy⟩
   rw[<- xl,Mu] at dy;exact k D ys H' sm hD hy dy
end
theorem Prs.tk {K:PySem.W.Frag}{H H':Hp} (t:Tk H H'):∀ {kvs:List (Key×V)}{ys:List V},i8 K H kvs ys->i8 K H' kvs ys
 | [],_,h=>h
 | _::_,_,h=>by
  obtain⟨q,jC,e,h1,h2⟩:=h;exact⟨q,jC,e,t.sqT h1,Prs.tk t h2⟩
theorem Prs.snoc {K:PySem.W.Frag}{H:Hp}{kv:Key×V}{t:Addr} (ht:SqT K H t [kV kv.1,kv.2]):∀ {kvs:List (Key×V)}{ys:List V},i8 K H kvs ys->i8 K H (kvs++[kv]) (ys++[.ref t])
 | [],_,h=>by
  obtain rfl:_=[]:=h;exact⟨t,[],Y,ht,Y⟩
 | _::_,_,h=>by
  obtain⟨q,jC,rfl,h1,h2⟩:=h;exact⟨q,_,Y,h1,Prs.snoc ht h2⟩
theorem Prs.len {K:PySem.W.Frag}{H:Hp}:∀ {kvs:List (Key×V)}{ys:List V},i8 K H kvs ys->kvs.length=ys.length
 | [],_,h=>by rw[show _=[] from h];rfl
 | _::_,_,h=>by
  obtain⟨q,jC,rfl,h1,h2⟩:=h;rw[Mt,Mt,Prs.len h2]
abbrev jd:=List (Str×Int)
def kvD (p:Str×Int):Key×V:=(Sum.inr p.1,.int p.2)
def duI (ac:List It):jd:=ac.map fun it=>(it.label,it.hf)
def kR (m:Kvs) (rows:List jd):Kvs:=rows.foldl (fun m r=>(r.map kvD).foldl fJ m) m
theorem xG:∀ (rows:List jd) (m:Kvs),(kR m rows).length<=m.length + (rows.map List.length).sum
 | [],m=>by show m.length<=_;omega
 | r::rows,m=>by
  have h1:=xG rows ((r.map kvD).foldl fJ m);have h2:=mkD_len (r.map kvD) m;rw[L9] at h2;show(kR ((r.map kvD).foldl fJ m) rows).length<=_;rw[MG,NF];omega
theorem AL (l:List Nat) (i:Nat):(l.take i).sum<=l.sum:=by
 induction l generalizing i with
 | nil=>simp
 | cons x l ih=>
  cases i with
  | zero=>simp
  | succ i=>
   rw[List.take_succ_cons,NF,NF];have:=ih i;omega
theorem w5 {l:List Nat}{x:Nat} (h:x∈l):x<=l.sum:=by
 induction l with
 | nil=>simp at h
 | cons y l ih=>
  rw[NF];rcases M5.mp h with z|z
  ·omega
  ·have:=ih z
   omega
section
variable {K:PySem.W.Frag}
def Ga (a:Adr):Sp:=fun vs H Q _=>∃ p xs rows,vs=[.ref p]/\H p=some (.lst xs)/\WsV a H xs rows/\(∀ r∈rows,tO r)/\((rows.map duI).map List.length).sum<=1000/\∀ d H',af H H'->H d=none->H' d=some (.dK (kR [] (rows.map duI)))->Q (.ref d) H'
theorem Kb (T:Tx K mg a):Cal P w K mg base CX0 2 "halves_of" ["rows"] [] (Ga a):=T.d_halves_of.cal fun f fd F=>by
 have m_Own_label:=tR (P:=P) (w:=w) (base:=base) T;have m_Small_label:=sF (P:=P) (w:=w) (base:=base) T;have m_Own_half:=AG (P:=P) (w:=w) (base:=base) T;have m_Small_half:=Cp (P:=P) (w:=w) (base:=base) T;refine F.ok xp (fun vs H Q E h=>?_) (fun aw A outer s H vs Q E hr h=>?_)
 ·obtain⟨p,xs,rows,rfl,_⟩:=h
  rfl
 ·obtain⟨p,xs,rows,rfl,hp,hx,ok,n9,k⟩:=h
  have xl:=hx.len;refine⟨_,(ao (aU (i:=1) xp.nd Y (.inl Y) qx)
   (ao (cP PassesOwn.never rfl (cw (pv 0)) (aD (i:=2) xp.nd Y (.inl Y)) (aq (ck (dL PySem.F.plainAttrs_dict PySem.F.slot_dict_update PySem.F.type_dict_update Bw (pv 1) (ag (eX (N:=["item"]) (cap:=[none]) Y (cH (osc:=aA ww) (XN:=["rows","halves","row"]) Y Y (by decide +kernel)) (cw (pv 2)) (fun cl C s H fp aa=>(aD (i:=0) (show(["item"]:List Str).Nodup by decide +kernel) rfl (.inl rfl))) (fun cl C s H fp aa=>dM) (fun cl C s H fp aa=>(gk (ag (jK (cy (pv 0) T.c_Own m_Own_label (hr.mono (by decide))) (cy (pv 0) T.c_Small m_Small_label (hr.mono (by decide)))) (ag (jK (cy (pv 0) T.c_Own m_Own_half (hr.mono (by decide))) (cy (pv 0) T.c_Small m_Small_half (hr.mono (by decide)))) aj))))) aj)))))
   (aq (aO (pv 1))))),?_⟩
  refine fun d nd=>⟨_,Y,p,Y,⟨_,SqL.of (af.new (o:=.dK []) nd _ _ hp)⟩,gE (K:=K) (a:=p) (xs:=xs) (fun i σ H'=>∃ v2,σ=[some (.ref p),some (.ref d),v2]/\af H H'/\H' d=some (.dK (kR [] ((rows.map duI).take i)))) ⟨none,rfl,af.new nd,ah⟩ ?_ ?_ ?_⟩
  ·rintro i σ H' _ ⟨_,rfl,sm,_⟩
   exact SqL.of (sm _ _ hp)
  ·rintro i x σ H' ir ⟨v2,rfl,sm,hd⟩
   obtain⟨ac,e1,r1,zs,rfl,h1,hz⟩:=hx.get ir;obtain⟨il,io⟩:=ok ac (Me e1);have y7:(rows.map duI)[i]?=some (duI ac):=by rw[Mm,e1];rfl
   have zl:=hz.len;have bi:ac.length<=1000:=by
    have:=w5 (l:=(rows.map duI).map List.length) (x:=ac.length) (by
     have:=Ni (f:=List.length) (Me y7)
     rwa [show(duI ac).length=ac.length from L9 ..] at this)
    omega
   dsimp only[aV];refine⟨_,Y,?_,_,Y,r1,Y,⟨_,SqL.of (sm _ _ h1)⟩,fun D hD=>?_⟩
   ·exact .inr (.inr (.inl ⟨Y,.inl ⟨_,hd⟩⟩))
   refine gA (K:=K) (a:=r1) (xs:=zs) (fun j τ G=>∃ v1 ys,τ=[v1]/\af H' G/\G D=some (.lst ys)/\i8 K G (((duI ac).take j).map kvD) ys) ⟨none,[],rfl,af.new hD,ah,rfl⟩ ?_ ?_ ?_
   ·rintro j τ G _ ⟨_,_,rfl,sg,_⟩
    exact SqL.of (sg _ _ (sm _ _ h1))
   ·rintro j y τ G hy ⟨v1,ys,rfl,sg,hG,pa⟩
    obtain⟨it,e2,q,rfl,iq⟩:=hz.get hy;have hj:j<ac.length:=(List.getElem?_eq_some_iff.mp e2).1;have Ds:(duI ac)[j]?=some (it.label,it.hf):=by unfold duI;rw[Mm,e2];rfl
    have zI:=iq.same (sm.trans sg);have ik:=io it (Me e2);have yl:ys.length<=1000:=by
     rw[<- Prs.len pa,L9,Ml];omega
    dsimp only[aV,cJ];rw[if_pos rfl];refine qy zI ik (fun Q' h=>⟨_,Y,h⟩) ?_;refine Cy zI ik (fun Q' h=>⟨_,Y,h⟩) ?_;refine⟨(by show 2<=sizeLine;decide),fun z nz=>?_⟩;have s3:af G (upd G z (.tup [.str it.label,.int it.hf])):=af.new nz;have iZ:SqT K (upd G z (.tup [.str it.label,.int it.hf])) z [.str it.label,.int it.hf]:=SqT.of ah;generalize upd G z (.tup [.str it.label,.int it.hf])=G3 at s3 iZ ⊢;have tk:Tk G3 (upd G3 D (.lst (ys++[.ref z]))):=Tk.upd (s3 _ _ hG) rfl;refine⟨ys,s3 _ _ hG,by rw[Mh];omega,_,_,Y,bY hD (sg.trans s3),ah,?_⟩;rw[bP Ds,Mf];exact Prs.snoc (tk.sqT iZ) (Prs.tk ((Tk.of s3).trans tk) pa)
   rintro τ G ⟨v1,ys,rfl,sg,hG,pa⟩
   rw[zl,M8 (by unfold duI;rw[L9];exact Md _)] at pa;have dl:=xG ((rows.map duI).take i) [];have sl:=AL ((rows.map duI).map List.length) i;rw[Oz] at dl;refine⟨d,D,_,ys,_,Y,Y,sg _ _ hd,SqL.of hG,pa,?_,?_,_,Y,bY nd (sm.trans sg),?_⟩
   ·have z0:([]:Kvs).length=0:=rfl
    omega
   ·rw[L9]
    unfold duI;rw[L9];exact bi
   ·rw[ah,bP y7]
    unfold kR;rw[NY];rfl
  rintro σ H' ⟨v2,rfl,sm,hd⟩
  rw[xl,M8 (by rw[L9];exact Md _)] at hd;exact⟨_,Y,k d H' sm nd hd⟩
def HC (K:PySem.W.Frag) (a:Adr):Sp:=fun vs H Q _=>∃ p r v d kd ws ds lv hf,vs=[.ref p,.ref d]/\bB K a.Net H p r v/\H d=some (.dK kd)/\jT K v kd ws ds lv hf/\∀ l H',af H H'->H l=none->H' l=some (.lst ((ws.map lv).map V.int))->Q (.ref l) H'
theorem HI (T:Tx K mg a):Cal P w K mg base CX0 2 "places_by" ["net","levels"] [] (HC K a):=T.d_places_by.cal fun f fd F=>by
 have m_Net_points:=wY (P:=P) (w:=w) (base:=base) T;refine F.ok Ih (fun vs H Q E h=>?_) (fun aw A outer s H vs Q E hr h=>?_)
 ·obtain⟨p,r,v,d,kd,ws,ds,lv,hf,rfl,_⟩:=h
  rfl
 ·obtain⟨p,r,v,d,kd,ws,ds,lv,hf,rfl,N,hd,S,k⟩:=h
  obtain⟨dx,hp⟩:=N.ex;refine⟨_,(aq (aO (eX (N:=["name","levels"]) (cap:=[none,some 1]) Y (cH (osc:=aA xz) (XN:=["net","levels"]) Y Y (by decide +kernel)) (cw (cy (pv 0) T.c_Net m_Net_points (hr.mono (by decide)))) (fun cl C s H fp aa=>(aD (i:=0) (show(["name","levels"]:List Str).Nodup by decide +kernel) rfl (.inl rfl))) (fun cl C s H fp aa=>dM) (fun cl C s H fp aa=>(k9 (eR hr) (pv 1) (pv 0) (fun _ _=>Y)))))),?_⟩;refine⟨_,Y,p,dx,_,Y,hp,by rfl,p,r,v,Y,N,fun l nl=>?_⟩;rw[S.keys];have s1:af H (upd H l (.lst (ws.map V.str))):=af.new nl;have h1:upd H l (.lst (ws.map V.str)) l=some (.lst (ws.map V.str)):=ah;generalize upd H l (.lst (ws.map V.str))=H1 at s1 h1 ⊢;refine⟨l,Y,⟨_,SqL.of h1⟩,fun D hD=>?_⟩;refine gA (K:=K) (a:=l) (xs:=ws.map V.str) (fun j τ G=>∃ v1,τ=[v1,some (.ref d)]/\af H1 G/\G D=some (.lst (((ws.take j).map lv).map V.int))) ⟨none,rfl,af.new hD,ah⟩ ?_ ?_ ?_
  ·rintro j τ G _ ⟨_,rfl,sg,_⟩
   exact SqL.of (sg _ _ h1)
  ·rintro j y τ G hy ⟨v1,rfl,sg,hG⟩
   obtain⟨x,hx,rfl⟩:=sO hy;have hj:j<ws.length:=(List.getElem?_eq_some_iff.mp hx).1;have:=S.wl;dsimp only[aV,cJ];rw[if_pos rfl];refine⟨_,Y,_,Y,d,_,Y,oE (k:=Sum.inr x) (sg _ _ (s1 _ _ hd)) (S.kv x (Me hx)),_,hG,by rw[L9,L9,Ml,Mh];omega,_,Y,bY hD sg,?_⟩;rw[ah,bP hx,Mf,Mf];rfl
  rintro τ G ⟨v1,rfl,sg,hG⟩
  rw[L9,Mu] at hG;exact k D G (s1.trans sg) (ji s1 hD) hG
end
theorem Dts.app {K:PySem.W.Frag}{H:Hp}:∀ {ds es:List Dt}{xs ys:List V},aM K H ds xs->aM K H es ys->aM K H (ds++es) (xs++ys)
 | [],_,_,_,h,k=>by rw[show _=[] from h];exact k
 | d::ds,_,_,_,h,k=>by
  obtain⟨y,jC,rfl,h1,h2⟩:=h;exact⟨y,_,Y,h1,Dts.app h2 k⟩
variable {kd m:Kvs}{ns:List Int}
theorem un_a5 {K:PySem.W.Frag} (h:DtV K H (arD q) x):∃ t,x=.ref t/\SqT K H t [.int q.num,.str q.one,.str q.other,.int q.span,.int q.weight]:=by
 obtain⟨t,xs,rfl,h1,y1,yK,rfl,rfl,y2,yu,rfl,rfl,y3,uK,rfl,rfl,y4,Es,rfl,rfl,y5,ve,rfl,rfl,h2⟩:=h;rw[show ve=[] from h2] at h1;exact⟨t,Y,h1⟩
def tz (ws:List Str) (lv:Str->Int) (n:Nat):Prop:=(ws=[]->n=0)/\(∀ x∈ws,lv x<n)/\(ws≠[]->∃ x∈ws,lv x + 1=n)
def ArDn (q:Ar) (e:Dn):Prop:=e.num=q.num/\((q.one=e.up/\q.other=e.lo)\/(q.one=e.lo/\q.other=e.up))/\e.wt=q.weight/\0<q.weight/\q.weight<2 ^ 64
def jH (lv:Str->Int) (ds:List Dn):Int:=(ds.map fun q=>(((dOf lv q - 1).toNat:Nat):Int)).sum
def dQ (lv hf:Str->Int) (q:Dn):List Lne:=nZ (cA lv hf q) q.wt
theorem Bi {Q:Int->Prop}{m i:Int} (h0:ns=[]->m=i) (h1:ns≠[]->m∈ns/\∀ x∈ns,x<=m) (k:Q m):(∀ m'∈ns,(∀ x∈ns,x<=m')->Q m')/\(ns=[]->Q i):=by
 refine⟨fun m' hm hx=>?_,fun e=>by rw[<- h0 e];exact k⟩;obtain⟨e1,e2⟩:=h1 (List.ne_nil_of_mem hm);rw[Int.le_antisymm (e2 m' hm) (hx m e1)];exact k
theorem BU (num d:Int):(gX num d).length=(d - 1).toNat:=by
 unfold gX;rw[L9,MU]
theorem rp (lv hf:Str->Int) (q:Dn):(cA lv hf q).length=(dOf lv q - 1).toNat + 2:=by
 unfold cA mL;rw[Mt,Mg,BU];rfl
section
variable {K:PySem.W.Frag}
theorem jT.few {ds:List Dn}{hf:Str->Int} (S:jT K v kd ws ds lv hf){q:Dn} (hq:q∈ds):0<dOf lv q/\dOf lv q<900:=by
 obtain⟨e1,e2,e3,_⟩:=S.ends q hq;have:=S.l0 _ e1;have:=S.l0 _ e2;unfold dOf;omega
theorem jT.ok {ds:List Dn}{hf:Str->Int} (S:jT K v kd ws ds lv hf){q:Dn} (hq:q∈ds):∀ it∈cA lv hf q,it.Ok:=fun it hi=>by
 obtain⟨e1,e2,e3,e4⟩:=S.ends q hq;obtain⟨f0,f1⟩:=S.few hq;unfold cA mL at hi;rcases M5.mp hi with z|z
 ·rw[z]
  exact S.nl _ e1
 ·rcases List.mem_append.mp z with z|z
  ·unfold gX at z
   obtain⟨k,hk,rfl⟩:=List.mem_map.mp z;have:=List.mem_range.mp hk;exact⟨e4,by constructor <;> omega⟩
  ·rw[List.mem_singleton.mp z]
   exact S.nl _ e2
def FP (K:PySem.W.Frag) (a:Adr):Sp:=fun vs H Q E=>∃ p r v d kd ws ds lv hf n,vs=[.ref p,.ref d]/\bB K a.Net H p r v/\H d=some (.dK kd)/\jT K v kd ws ds lv hf/\F2 ArDn v.arr ds/\tz ws lv n/\H a.tb_items_along=some (.tbl oJ nW) /\
 ((20<n\/60<jH lv ds)->∀ H',af H H'->E (.ref a.TooLong) none H') /\
 (n<=20->jH lv ds<=60->∀ t g l rs ys H',af H H'->H' t=some (.tup [.ref g,.ref l])->H g=none->H l=none->g≠l->H' g=some (.lst rs)->WsV a H' rs (eI n (cq lv hf ws ds))->H' l=some (.lst ys)->aM K H' ((ds.flatMap (dQ lv hf)).map cK) ys->Q (.ref t) H')
theorem Hl (T:Tx K mg a):Cal P w K mg base (CXe P w) 7 "rows_of" ["net","levels"] [] (FP K a):=T.d_rows_of.cal fun f fd F=>by
 have eB:=HI (P:=P) (w:=w) (base:=base) T;have cT:=HM (P:=P) (w:=w) (base:=base) T;have cW:=FN (P:=P) (w:=w) (base:=base) T;have cR:=HR (P:=P) (w:=w) (base:=base) T;have m_Net_arrows:=xy (P:=P) (w:=w) (base:=base) T;refine F.okX mO (fun vs H Q E h=>?_) (fun aw A outer s H vs Q E hr h=>?_)
 ·obtain⟨p,r,v,d,kd,ws,ds,lv,hf,n,rfl,_⟩:=h
  rfl
 ·obtain⟨p,r,v,d,kd,ws,ds,lv,hf,n,rfl,N,hd,S,fa,⟨c0,c1,c2⟩,jE,kE,k⟩:=h
  have wl:=S.wl;have dl:=S.dl;refine⟨_,(ao (aU (i:=2) mO.nd Y (.inl Y) (IA Y T.n_max (ag (eX (N:=["level"]) (cap:=[none]) Y (cH (osc:=aA rf) (XN:=["net","levels","count","arrows","ways","lines","arrow","way"]) Y Y (by decide +kernel)) (cw (bD eB (hr.mono (by decide)) rfl (ag (pv 0) (ag (pv 1) aj)))) (fun cl C s H fp aa=>(aD (i:=0) (show(["level"]:List Str).Nodup by decide +kernel) rfl (.inl rfl))) (fun cl C s H fp aa=>dM) (fun cl C s H fp aa=>(aG dZ (pv 0) am))) aj)))
   (ao (bG (bw oz (pv 2) (kH rfl T.k_MOST_ROWS) (br _)) (aq (jS fS T.x_TooLong rfl T.g_TooLong)) bO)
   (ao (aU (i:=3) mO.nd Y (.inl Y) (cy (pv 0) T.c_Net m_Net_arrows (hr.mono (by decide))))
   (ao (oH (i:=4) mO.nd Y Y (N:=["arrow","net","levels"]) (cap:=[none,some 0,some 1]) Y (cH (osc:=aA rf) (XN:=["net","levels","count","arrows","ways","lines","arrow","way"]) Y Y (by decide +kernel)) (cw (pv 3)) (fun cl C s H fp aa=>(aD (i:=0) (show(["arrow","net","levels"]:List Str).Nodup by decide +kernel) rfl (.inl rfl))) (fun cl C s H fp aa=>dM) (fun cl C s H fp aa=>(bD cT (hr.mono (by decide)) rfl (ag (pv 1) (ag (pv 2) (ag (pv 0) aj))))) (hsw:=Y))
   (ao (bG (bw oz (bu Aq rfl T.n_sum B1 (ag (eX (N:=["way"]) (cap:=[none]) Y (cH (osc:=aA rf) (XN:=["net","levels","count","arrows","ways","lines","arrow","way"]) Y Y (by decide +kernel)) (cw (pv 4)) (fun cl C s H fp aa=>(aD (i:=0) (show(["way"]:List Str).Nodup by decide +kernel) rfl (.inl rfl))) (fun cl C s H fp aa=>dM) (fun cl C s H fp aa=>(aG mU (bu (CJ (K:=K) Y) Y T.n_len cQ (ag (pv 0) aj)) am))) aj)) (kH Y T.k_MOST_SMALL) (br _)) (aq (jS fS T.x_TooLong Y T.g_TooLong)) bO)
   (ao (aU (i:=5) mO.nd Y (.inl Y) (bH aj))
   (ao (cP PassesOwn.leaving rfl (sZ rfl T.n_zip (ag (pv 3) (ag (pv 4) aj))) (gR rfl (aQ (aD (i:=6) mO.nd Y (.inl Y)) (aQ (aD (i:=7) mO.nd Y (.inl Y)) fU))) (aq (ck (dL PySem.F.plainAttrs_list PySem.F.slot_list_extend PySem.F.type_list_extend Hs (pv 5) (ag (bD cW (hr.mono (by decide)) rfl (ag (pv 7) (ag (aF cB (pv 6) am (fun _ _=>Y)) aj))) aj)))))
   (aq (aO (gk (ag (bD cR (hr.mono (by decide)) rfl (ag (pv 0) (ag (pv 1) (ag (pv 2) (ag (pv 4) aj))))) (ag (pv 5) aj)))))))))))),?_⟩
  refine⟨_,Y,_,Y,p,r,v,d,kd,ws,ds,lv,hf,Y,N,hd,S,fun l H1 s1 nl hl=>?_⟩;refine⟨l,Y,⟨_,SqL.of hl⟩,fun D hD=>?_⟩;refine gA (K:=K) (a:=l) (xs:=(ws.map lv).map V.int) (fun j τ G=>∃ v1,τ=[v1]/\af H1 G/\G D=some (.lst (((ws.take j).map fun x=>lv x + 1).map V.int))) ⟨none,Y,af.new hD,ah⟩ ?_ ?_ ?_
  ·rintro j τ G _ ⟨_,rfl,sg,_⟩
   exact SqL.of (sg _ _ hl)
  ·rintro j y τ G hy ⟨v1,rfl,sg,hG⟩
   obtain⟨x,hx,rfl⟩:∃ x,ws[j]?=some x/\y=.int (lv x):=by
    rw[Mm,Mm] at hy;cases e:ws[j]? with
    | none=>rw[e] at hy;cases hy
    | some x=>rw[e] at hy;cases hy;exact⟨x,Y,Y⟩
   have hj:j<ws.length:=(List.getElem?_eq_some_iff.mp hx).1;dsimp only[aV,cJ];rw[if_pos rfl];refine⟨_,Y,_,_,Y,Y,_,hG,by rw[L9,L9,Ml,Mh];omega,_,Y,bY hD sg,?_⟩;rw[ah,bP hx,Mf,Mf];rfl
  rintro τ H2 ⟨v1,rfl,s2,h2⟩
  rw[L9,L9,Mu] at h2;refine⟨D,_,Y,SqL.of h2,?_⟩;refine and_comm.mp (Bi (m:=((n:Nat):Int)) (fun e=>?_) (fun e=>?_) ?_)
  ·rw[c0 (List.map_eq_nil_iff.mp e)]
   rfl
  ·obtain⟨x,hx,ex⟩:=c2 fun z=>e (by rw[z];rfl)
   refine⟨List.mem_map.mpr ⟨x,hx,ex⟩,fun y hy=>?_⟩;obtain⟨z,hz,rfl⟩:=List.mem_map.mp hy;have:=c1 z hz;omega
  have t2:=s1.trans s2;refine⟨_,Y,_,_,Y,Y,_,Y,?_⟩;refine bE (fun cc=>?_) (fun cc=>?_)
  ·have:=MP cc
   exact⟨by show 0<=sizeLine;decide,kE (.inl (by have:((n:Nat):Int) > 20:=this;omega)) H2 t2⟩
  have rP:n<=20:=by
   have:¬ ((n:Nat):Int) > 20:=MZ cc;omega
  have N2:=N.same t2;obtain⟨dx,hp⟩:=N2.ex;have al:v.arr.length=ds.length:=fa.len;refine⟨_,Y,p,dx,_,Y,hp,by rfl,p,r,v,Y,N2,by rw[L9];omega,fun ar H3 uA s3 Li rJ ux _=>?_⟩;have t3:=t2.trans s3;have vP:uA.length=ds.length:=by rw[<- ux.length,L9,al]
  refine⟨_,Y,ar,Y,⟨_,SqL.of rJ⟩,fun W hW=>?_⟩;refine gA (K:=K) (a:=ar) (xs:=uA) (fun j τ G=>∃ v1 ys,τ=[v1,some (.ref p),some (.ref d)]/\af H3 G/\G W=some (.lst ys)/\F2 (fun v ac=>WAt a G v ac/\v≠.ref W) ys ((ds.take j).map (cA lv hf))) ⟨none,[],Y,af.new hW,ah,trivial⟩ ?_ ?_ ?_
  ·rintro j τ G _ ⟨_,_,rfl,sg,_⟩
   exact SqL.of (sg _ _ rJ)
  ·rintro j y τ G hy ⟨v1,ys,rfl,sg,hG,fw⟩
   obtain⟨q,hq,dq⟩:=nB ux hy;obtain⟨e,he,en,eo,ew,_⟩:=fa.get hq;obtain⟨t,rfl,ht⟩:=un_a5 (sg.dt dq);have me:=Me he;obtain⟨m1,m2,lt,lo⟩:=S.ends e me;obtain⟨f0,f1⟩:=S.few me;have hj:j<ds.length:=(List.getElem?_eq_some_iff.mp he).1;have tg:=t3.trans sg;have yl:ys.length<=40:=by
    rw[fw.len,L9,Ml];omega
   dsimp only[aV,cJ];rw[if_pos rfl];refine⟨_,Y,_,Y,_,Y,p,r,v,d,kd,t,q.num,q.one,q.other,q.span,q.weight,e.up,e.lo,hf e.up,hf e.lo,lv e.up,lv e.lo,Y,N.same tg,tg _ _ hd,ht,eo,fun z=>?_,S.hv _ m1,S.hv _ m2,S.kv _ m1,S.kv _ m2,lt,?_,tg _ _ jE,fun x xs G4 s4 nx hx ix=>?_⟩
   ·rw[z] at lt
    omega
   ·unfold dOf at f1
    omega
   have xW:x≠W:=fun z=>by rw[z,hG] at nx;cases nx
   refine⟨ys,s4 _ _ hG,by rw[Mh];omega,_,_,Y,bY hW (sg.trans s4),ah,?_⟩;rw[bP he,Mf];refine(fw.mono fun v ac ⟨⟨r',pI,ev,hr',iT⟩,nv⟩=>⟨⟨r',pI,ev,?_,qN (mZ iT s4) (s4 _ _ hG)⟩,nv⟩).snoc ⟨⟨x,xs,Y,?_,?_⟩,fun z=>xW (by cases z;rfl)⟩
   ·rw[ak xW]
    exact hx
   ·rw[show cA lv hf e=mL e.up (hf e.up) e.lo (hf e.lo) q.num (lv e.lo - lv e.up) by unfold cA dOf;rw[en]]
    exact qN ix (s4 _ _ hG)
   ·rw[ak (fun z=>nv (by rw[ev,z]))]
    exact s4 _ _ hr'
  rintro τ H4 ⟨v1,ys,rfl,s4,qf,fw⟩
  rw[vP,Mu] at fw;have uD:WsV a H4 ys (ds.map (cA lv hf)):=fw.mono fun _ _ h=>h.1
  have yl:ys.length=ds.length:=by rw[uD.len,L9]
  have t4:=t3.trans s4;refine⟨_,Y,W,Y,⟨_,SqL.of qf⟩,fun D5 xX=>?_⟩;refine gA (K:=K) (a:=W) (xs:=ys) (fun j τ G=>∃ v1,τ=[v1]/\af H4 G/\G D5=some (.lst (((ds.take j).map fun q=>(((dOf lv q - 1).toNat:Nat):Int)).map V.int))) ⟨none,Y,af.new xX,ah⟩ ?_ ?_ ?_
  ·rintro j τ G _ ⟨_,rfl,sg,_⟩
   exact SqL.of (sg _ _ qf)
  ·rintro j y τ G hy ⟨v1,rfl,sg,hG⟩
   obtain⟨ac,bU,r1,xs,rfl,h1,fc⟩:=uD.get hy;rw[Mm] at bU;obtain⟨q,hq,rfl⟩:∃ q,ds[j]?=some q/\cA lv hf q=ac:=by
    cases e:ds[j]? with
    | none=>rw[e] at bU;cases bU
    | some q=>rw[e] at bU;cases bU;exact⟨q,Y,Y⟩
   have hj:j<ds.length:=(List.getElem?_eq_some_iff.mp hq).1;dsimp only[aV,cJ];rw[if_pos rfl];refine⟨_,Y,r1,_,Y,.inl (SqL.of (sg _ _ h1)),_,_,Y,Y,_,hG,by rw[L9,L9,Ml,Mh];omega,_,Y,bY xX sg,?_⟩;rw[ah,bP hq,Mf,Mf];have e2:((xs.length:Nat):Int) - 2=(((dOf lv q - 1).toNat:Nat):Int):=by
    rw[fc.len,rp];omega
   dsimp only;rw[e2];rfl
  rintro τ H5 ⟨v1,rfl,s5,h5⟩
  rw[yl,Mu] at h5;refine⟨D5,_,Y,SqL.of h5,_,_,Y,Y,_,Y,?_⟩;have t5:=t4.trans s5;refine bE (fun cc=>?_) (fun cc=>?_)
  ·exact⟨by show 0<=sizeLine;decide,kE (.inr (MP cc)) H5 t5⟩
  have ud:jH lv ds<=60:=by
   have:¬ (jH lv ds > 60):=MZ cc;omega
  refine⟨(by show 0<=sizeLine;decide),fun g ng=>?_⟩;have yi:=m7 uD s5;refine⟨_,Y,_,Y,ar,W,Y,⟨_,SqL.of (af.new (o:=.lst []) ng _ _ ((s4.trans s5) _ _ rJ))⟩,⟨_,SqL.of (af.new (o:=.lst []) ng _ _ (s5 _ _ qf))⟩,wx (K:=K) (l1:=ar) (l2:=W) (xs:=uA) (ys:=ys) (by rw[vP,yl]) (fun j σ G=>∃ v6 v7 ls,σ=[some (.ref p),some (.ref d),some (.int ((n:Nat):Int)),some (.ref ar),some (.ref W),some (.ref g),v6,v7]/\af H5 G/\G g=some (.lst ls)/\aM K G (((ds.take j).flatMap (dQ lv hf)).map cK) ls/\ls.length<=j * 1000)
   ⟨none,none,[],rfl,af.new ng,ah,rfl,Md _⟩ ?_ ?_ ?_⟩
  ·rintro j σ G _ ⟨_,_,_,rfl,sg,_⟩
   exact⟨SqL.of (sg _ _ ((s4.trans s5) _ _ rJ)),SqL.of (sg _ _ (s5 _ _ qf))⟩
  ·rintro j x y t σ G hx hy nt ⟨v6,v7,ls,rfl,sg,hg,dg,lg⟩
   obtain⟨q,hq,dq⟩:=nB ux hx;obtain⟨e,he,en,eo,ew,w0,w9⟩:=fa.get hq;obtain⟨t1,rfl,jw⟩:=un_a5 ((s4.trans (s5.trans sg)).dt dq);obtain⟨ac,bU,r1,xs,rfl,h1,fc⟩:=yi.get hy;rw[Mm,he] at bU;obtain rfl:cA lv hf e=ac:=Option.some.inj bU;have me:=Me he;obtain⟨f0,f1⟩:=S.few me;have hj:j<ds.length:=(List.getElem?_eq_some_iff.mp he).1;have s6:af G (upd G t (.tup [.ref t1,.ref r1])):=af.new nt;have ht:SqT K (upd G t (.tup [.ref t1,.ref r1])) t [.ref t1,.ref r1]:=SqT.of ah;generalize upd G t (.tup [.ref t1,.ref r1])=G1 at s6 ht ⊢;have dB:=sg.trans s6;refine⟨t,_,Y,ht,Y,_,_,Y,_,_,Y,Y,?_⟩;refine⟨_,Y,.inl ⟨Y,_,SqL.of (s6 _ _ hg)⟩,_,Y,_,Y,t1,_,_,_,Y,Y,(Tk.of s6).sqT jw,Y,r1,xs,cA lv hf e,q.weight,Y,dB _ _ h1,mZ fc dB,S.ok me,by rw[rp];omega,by rw[rp];omega,w0,w9,fun b zs G2 s7 nb hb db=>?_⟩;have bg:b≠g:=fun z=>by rw[z,s6 _ _ hg] at nb;cases nb
   have zl:zs.length<=1000:=by
    rw[<- db.length,L9];unfold nZ;rw[L9,Op,rp];omega
   refine⟨g,b,ls,zs,Y,Y,s7 _ _ (s6 _ _ hg),hb,by rw[Mh];omega,_,_,_,Y,bY ng (dB.trans s7),ah,?_,by rw[Mg];omega⟩;have tk:Tk G2 (upd G2 g (.lst (ls++zs))):=Tk.upd (s7 _ _ (s6 _ _ hg)) rfl;rw[bP he,NT,O4,Mf];refine Dts.app (tk.dts (dX (fun _=>Y) _) ((s6.trans s7).dts dg)) (tk.dts (dX (fun _=>Y) _) ?_);unfold dQ;rw[ew];exact db
  rintro σ G ⟨v6,v7,ls,rfl,sg,hg,dg,_⟩
  rw[vP,Mu] at dg;have t6:=t5.trans sg;refine⟨_,Y,_,Y,_,Y,_,Y,p,r,v,d,kd,n,W,ys,ws,ds,lv,hf,Y,N.same t6,t6 _ _ hd,S,c1,by omega,sg _ _ (s5 _ _ qf),m7 yi sg,fun g2 rs G2 s7 vt qw fr=>?_⟩;have gg:g2≠g:=fun z=>by rw[z,hg] at vt;cases vt
  refine⟨_,Y,(by show 2<=sizeLine;decide),fun t nt=>?_⟩;have s8:=af.new (H:=G2) (o:=.tup [.ref g2,.ref g]) nt;exact k rP ud t g2 g rs ls _ (t6.trans (s7.trans s8)) ah (ji t6 vt) (ji t5 ng) gg (s8 _ _ qw) (m7 fr s8) ((s7.trans s8) _ _ hg) ((s7.trans s8).dts dg)
end
def oq (s:Str):Bool:=!(Builtin.Str.occurrences s (Str.ofString ".") 0 s.length 1).isEmpty
def labT (i k:Nat):Bool:=(Txt.partition (dO i k) (Str.ofString ".")).1 == Str.ofString (toString (i:Int)) && (Txt.partition (dO i k) (Str.ofString ".")).2.2 == Str.ofString (toString (k:Int)) && oq (dO i k)
theorem HY:(List.range 13).all (fun i=>(List.range 21).all fun k=>labT i k)=true:=by decide +kernel
theorem lab_at {k:Nat} (hi:i<13) (hk:k<21):(Txt.partition (dO i k) (Str.ofString ".")).1=Str.ofString (toString (i:Int))/\(Txt.partition (dO i k) (Str.ofString ".")).2.2=Str.ofString (toString (k:Int))/\oq (dO i k)=true:=by
 have h:=Nm.mp (Nm.mp HY i (List.mem_range.mpr hi)) k (List.mem_range.mpr hk);unfold labT at h;rw[Mz,Mz,beq_iff_eq,beq_iff_eq] at h;exact⟨h.1.1,h.1.2,h.2⟩
def It.Gd:It->Prop
 | .own n _=>oq n=false
 | .small i k=>∃ i' k':Nat,i=i'/\k=k'/\i'<13/\k'<21
def m8 (K:PySem.W.Frag) (H:Hp) (u:V) (p:Str×Int):Prop:=∃ s,u=.ref s/\SqT K H s [.str p.1,.int p.2]
def mW (K:PySem.W.Frag) (H:Hp) (v:V) (r:jd):Prop:=∃ t zs,v=.ref t/\H t=some (.lst zs)/\F2 (m8 K H) zs r
theorem mW.same {K:PySem.W.Frag}{v:V}{r:jd} (h:mW K H v r) (s:af H H'):mW K H' v r:=let ⟨t,zs,e,h1,h2⟩:=h;⟨t,zs,e,s _ _ h1,h2.mono fun _ _ ⟨q,e,z⟩=>⟨q,e,(Tk.of s).sqT z⟩⟩
section
variable {K:PySem.W.Frag}
def JO (K:PySem.W.Frag) (a:Adr):Sp:=fun vs H Q _=>∃ p q z xs ys rows,vs=[.ref p,.ref q,z]/\H p=some (.lst xs)/\WsV a H xs rows/\H q=some (.lst ys)/\F2 (mW K H) ys (rows.map duI)/\(∀ r∈rows,∀ it∈r,it.Ok/\it.Gd)/\∀ H',af H H'->Q (.bl true) H'
theorem G9 (T:Tx K mg a):Cal P w K mg base CX0 2 "_law_items_right" ["_law_rows","_law_due_here","_law_arrows_here"] [] (JO K a):=T.d__law_items_right.cal fun f fd F=>by
 have m_Own_label:=tR (P:=P) (w:=w) (base:=base) T;have m_Small_label:=sF (P:=P) (w:=w) (base:=base) T;have m_Own_half:=AG (P:=P) (w:=w) (base:=base) T;have m_Small_half:=Cp (P:=P) (w:=w) (base:=base) T;have m_Own_drawn:=KZ (P:=P) (w:=w) (base:=base) T;have m_Small_drawn:=KC (P:=P) (w:=w) (base:=base) T;refine F.ok kY (fun vs H Q E h=>?_) (fun aw A outer s H vs Q E hr h=>?_)
 ·obtain⟨p,q,z,xs,ys,rows,rfl,_⟩:=h
  rfl
 ·obtain⟨p,q,z,xs,ys,rows,rfl,hp,hx,hq,hy,ok,k⟩:=h
  have xl:=hx.len;have yl:=hy.len;rw[L9] at yl;refine⟨_,(ao (bG (PW.pt (eJ (gS (fL (bu jc Y T.n_isinstance jb (ag (pv 0) (ag (qA Y T.n_list wT) aj))))) (gH (bw iE (bu eG Y T.n_len cQ (ag (pv 0) aj)) (bu eG Y T.n_len cQ (ag (pv 1) aj)) (br _))))) (aq (aO gY)) bO)
   (ao (cP PassesOwn.never rfl (sZ rfl T.n_zip (ag (pv 0) (ag (pv 1) aj))) (gR rfl (aQ (aD (i:=3) kY.nd Y (.inl Y)) (aQ (aD (i:=4) kY.nd Y (.inl Y)) fU))) (ao (bG (PW.pt (eJ (gS (fL (bu jc Y T.n_isinstance jb (ag (pv 3) (ag (qA Y T.n_list wT) aj))))) (gH (bw iE (bu eG Y T.n_len cQ (ag (pv 3) aj)) (bu eG Y T.n_len cQ (ag (pv 4) aj)) (br _))))) (aq (aO gY)) bO)
   (aq (cP PassesOwn.never rfl (sZ rfl T.n_zip (ag (pv 3) (ag (pv 4) aj))) (gR rfl (aQ (aD (i:=5) kY.nd Y (.inl Y)) (aQ (aD (i:=6) kY.nd Y (.inl Y)) fU))) (ao (bG (PW.pt (eJ (bw iE (jK (cy (pv 5) T.c_Own m_Own_label (hr.mono (by decide))) (cy (pv 5) T.c_Small m_Small_label (hr.mono (by decide)))) (aF cB (pv 6) am (fun _ _=>Y)) (br _)) (gH (bw iE (jK (cy (pv 5) T.c_Own m_Own_half (hr.mono (by decide))) (cy (pv 5) T.c_Small m_Small_half (hr.mono (by decide)))) (aF cB (pv 6) am (fun _ _=>Y)) (br _))))) (aq (aO gY)) bO)
   (aq (bG (bw Bu lw (aF cB (pv 6) am (fun _ _=>Y)) (by with_unfolding_all rfl)) (ao (At (dL PySem.F.plainAttrs_str PySem.F.slot_str_partition PySem.F.type_str_partition KY (aF cB (pv 6) am (fun _ _=>Y)) (ag lw aj)) (gR Y (aQ (aD (i:=7) kY.nd Y (.inl Y)) (aQ (aD (i:=8) kY.nd Y (.inl Y)) (aQ (aD (i:=9) kY.nd Y (.inl Y)) fU)))))
   (ao (bG (PW.pt (eJ (gS (fL (bu jc rfl T.n_isinstance jb (ag (pv 5) (ag (nY rfl T.g_Small) aj))))) (eJ (fL (bu jc rfl T.n_isinstance jb (ag (pv 5) (ag (nY rfl T.g_Own) aj)))) (gH (bw iE (jK (cy (pv 5) T.c_Own m_Own_drawn (hr.mono (by decide))) (cy (pv 5) T.c_Small m_Small_drawn (hr.mono (by decide)))) lw (br _)))))) (aq (aO gY)) bO)
   (aq (bG (PW.pt (eJ (bw iE (cO (pv 5) rfl) (iC AC rfl T.n_int qF (ag (pv 7) aj)) (br _)) (gH (bw iE (cO (pv 5) rfl) (iC AC rfl T.n_int qF (ag (pv 9) aj)) (br _))))) (aq (aO gY)) bO)))) (aq (bG (PW.pt (eJ (gS (fL (bu jc rfl T.n_isinstance jb (ag (pv 5) (ag (nY rfl T.g_Own) aj))))) (eJ (fL (bu jc rfl T.n_isinstance jb (ag (pv 5) (ag (nY rfl T.g_Small) aj)))) (gH (bw iE (jK (cy (pv 5) T.c_Own m_Own_drawn (hr.mono (by decide))) (cy (pv 5) T.c_Small m_Small_drawn (hr.mono (by decide)))) (aF cB (pv 6) am (fun _ _=>Y)) (br _)))))) (aq (aO gY)) (aq (bG (PW.pt (eJ (bw iE (cO (pv 5) Y) (aF cB (pv 6) am (fun _ _=>Y)) (br _)) (gH (bw iE (cO (pv 5) Y) (aF cB (pv 6) am (fun _ _=>Y)) (br _))))) (aq (aO gY)) bO)))))))))))
   (aq (aO gY)))),?_⟩
  refine⟨_,Y,_,_,_,_,_,Y,Y,.lst hp,T.kb_list_list,_,Y,cg Y ?_⟩;refine⟨_,Y,p,_,Y,.inl (SqL.of hp),_,Y,q,_,Y,.inl (SqL.of hq),Y,_,Y,cg (by rw[xl,yl];simp[eqV]) ?_⟩;refine⟨_,Y,_,Y,p,q,Y,⟨_,SqL.of hp⟩,⟨_,SqL.of hq⟩,wx (K:=K) (l1:=p) (l2:=q) (xs:=xs) (ys:=ys) (by rw[xl,yl]) (fun j σ G=>∃ v3 v4 v5 v6 v7 v8 v9,σ=[some (.ref p),some (.ref q),some z,v3,v4,v5,v6,v7,v8,v9]/\af H G) ⟨none,none,none,none,none,none,none,rfl,af.refl _⟩ ?_ ?_ ?_⟩
  ·rintro j σ G _ ⟨_,_,_,_,_,_,_,rfl,sg⟩
   exact⟨SqL.of (sg _ _ hp),SqL.of (sg _ _ hq)⟩
  ·rintro j x y t σ G h1 h2 nt ⟨v3,v4,v5,v6,v7,v8,v9,rfl,sg⟩
   obtain⟨ac,ei,r1,us,rfl,pG,hu⟩:=hx.get h1;obtain⟨dr,ed,r2,zs,rfl,zu,hz⟩:=hy.get h2;rw[Mm,ei] at ed;obtain rfl:duI ac=dr:=Option.some.inj ed;have uH:=ok ac (Me ei);have ul:=hu.len;have zl:=hz.len;rw[show(duI ac).length=ac.length from L9 ..] at zl;have s1:af G (upd G t (.tup [.ref r1,.ref r2])):=af.new nt;have ht:SqT K (upd G t (.tup [.ref r1,.ref r2])) t [.ref r1,.ref r2]:=SqT.of ah;generalize upd G t (.tup [.ref r1,.ref r2])=G1 at s1 ht ⊢;have dB:=sg.trans s1;have l6:=dB _ _ pG;have p4:=dB _ _ zu;refine⟨t,_,Y,ht,Y,_,_,Y,_,_,Y,Y,?_⟩;refine⟨_,Y,_,_,_,_,_,Y,Y,.lst l6,T.kb_list_list,_,Y,cg Y ?_⟩;refine⟨_,Y,r1,_,Y,.inl (SqL.of l6),_,Y,r2,_,Y,.inl (SqL.of p4),Y,_,Y,cg (by rw[ul,zl];simp[eqV]) ?_⟩;refine⟨_,Y,_,Y,r1,r2,Y,⟨_,SqL.of l6⟩,⟨_,SqL.of p4⟩,wx (K:=K) (l1:=r1) (l2:=r2) (xs:=us) (ys:=zs) (by rw[ul,zl]) (fun j σ G=>∃ v5 v6 v7 v8 v9,σ=[some (.ref p),some (.ref q),some z,some (.ref r1),some (.ref r2),v5,v6,v7,v8,v9]/\af H G) ⟨v5,v6,v7,v8,v9,rfl,dB⟩ ?_ ?_ ?_⟩
   ·rintro j σ G _ ⟨_,_,_,_,_,rfl,sg⟩
    exact⟨SqL.of (sg _ _ pG),SqL.of (sg _ _ zu)⟩
   ·rintro i x y t' σ G2 h3 h4 EX ⟨v5,v6,v7,v8,v9,rfl,bJ⟩
    obtain⟨it,e3,q1,rfl,i1⟩:=hu.get h3;obtain⟨pr,e4,q2,rfl,i2⟩:=hz.get h4;have Fe:(duI ac)[i]?=some (it.label,it.hf):=by unfold duI;rw[Mm,e3];rfl
    rw[Fe] at e4;cases e4
    obtain⟨io,ig⟩:=uH it (Me e3);have s3:af G2 (upd G2 t' (.tup [.ref q1,.ref q2])):=af.new EX;have rD:SqT K (upd G2 t' (.tup [.ref q1,.ref q2])) t' [.ref q1,.ref q2]:=SqT.of ah;generalize upd G2 t' (.tup [.ref q1,.ref q2])=G3 at s3 rD ⊢;have rM:=bJ.trans s3;have j1:=i1.same rM;have j2:=(Tk.of rM).sqT i2;refine⟨t',_,Y,rD,Y,_,_,Y,_,_,Y,Y,?_⟩;refine qy j1 io (fun Q' h=>⟨_,Y,h⟩) ?_;refine⟨_,Y,q2,_,_,_,Y,Y,j2,fN (MX 0),Y,_,Y,cg (by simp[eqV]) ?_⟩;refine Cy j1 io (fun Q' h=>⟨_,Y,h⟩) ?_;refine⟨_,Y,q2,_,_,_,Y,Y,j2,fN (by decide),Y,_,Y,cg (by simp[eqV]) ?_⟩;refine⟨_,Y,q2,_,_,_,Y,Y,j2,fN (MX 0),_,_,Y,Y,_,Y,?_⟩;cases it with
    | own n hh=>
     obtain⟨dx,hd⟩:=j1;have ei:iM a G3 q1 false:=⟨dx,_,hd⟩;refine cg ig ?_;refine⟨_,Y,_,_,_,_,_,Y,Y,ei.ty T,T.kt_Own_Own,_,Y,cg Y ?_⟩;refine⟨_,Y,_,_,_,_,_,Y,Y,ei.ty T,T.kt_Own_Small,_,Y,cg Y ?_⟩;refine Ce (it:=.own n hh) ⟨dx,hd⟩ io (fun Q' h=>⟨_,Y,h⟩) ?_;refine⟨_,Y,q2,_,_,_,Y,Y,j2,fN (MX 0),Y,_,Y,cg (by simp[eqV,It.drawn,It.label]) ?_⟩;refine⟨_,Y,q1,a.Own,dx,_,_,Y,hd,T.c_Own,T.na_Own_name,sU,_,Y,q2,_,_,_,Y,Y,j2,fN (MX 0),Y,_,Y,cg (by simp[eqV,It.label]) ?_⟩;refine⟨_,Y,q1,a.Own,dx,_,_,Y,hd,T.c_Own,T.na_Own_wide,Bo,_,Y,q2,_,_,_,Y,Y,j2,fN (by decide),Y,_,Y,cg (by simp[eqV,It.hf]) ?_⟩;exact⟨_,_,_,_,_,Y,rM⟩
    | small i' k'=>
     obtain⟨ni,nk,rfl,rfl,li,lk⟩:=ig;obtain⟨dx,hd⟩:=j1;obtain⟨pa,pb,pc⟩:=lab_at li lk;have ei:iM a G3 q1 true:=⟨dx,_,hd⟩;refine bE (fun _=>?_) (fun c=>absurd (pc.symm.trans c) (by decide));have ll:(dO ni nk).length<=sizeLine:=by
      have l1:=kJ io.1;have l2:=kJ io.2;unfold dO;rw[PySem.Str.length_append,PySem.Str.length_append,Mh,show(Str.ofString ".").length=1 from rfl];omega
     refine⟨_,Y,q2,_,_,.str (dO ni nk),Y,Y,j2,fN (MX 0),Y,dO ni nk,_,Y,Y,(by decide +kernel),ll,fun t3 n3=>?_⟩;rw[pa,pb];have s4:=af.new (H:=G3) (o:=.tup [.str (Str.ofString (toString (ni:Int))),.str (Txt.partition (dO ni nk) (Str.ofString ".")).2.1,.str (Str.ofString (toString (nk:Int)))]) n3;have h4:SqT K (upd G3 t3 (.tup [.str (Str.ofString (toString (ni:Int))),.str (Txt.partition (dO ni nk) (Str.ofString ".")).2.1,.str (Str.ofString (toString (nk:Int)))])) t3 _:=SqT.of ah;generalize upd G3 t3 (.tup [.str (Str.ofString (toString (ni:Int))),.str (Txt.partition (dO ni nk) (Str.ofString ".")).2.1,.str (Str.ofString (toString (nk:Int)))])=G4 at s4 h4 ⊢;have x8:=ei.mono s4;have uf:=s4 _ _ hd;refine⟨t3,_,Y,h4,Y,_,_,Y,_,_,Y,_,_,Y,Y,?_⟩;refine⟨_,Y,_,_,_,_,_,Y,Y,x8.ty T,T.kt_Small_Small,_,Y,cg Y ?_⟩;refine⟨_,Y,_,_,_,_,_,Y,Y,x8.ty T,T.kt_Small_Own,_,Y,cg Y ?_⟩;refine Ce (it:=.small ni nk) ⟨dx,uf⟩ io (fun Q' h=>⟨_,Y,h⟩) ?_;refine⟨Y,_,Y,cg (by simp[eqV,It.drawn]) ?_⟩;refine⟨_,Y,q1,a.Small,dx,_,_,Y,uf,T.c_Small,T.na_Small_arrow,A2,_,Y,(ni:Int),Y,by omega,OP io.1.2 (by decide),Y,_,Y,cg (by simp[eqV]) ?_⟩;refine⟨_,Y,q1,a.Small,dx,_,_,Y,uf,T.c_Small,T.na_Small_step,wo,_,Y,(nk:Int),Y,by omega,OP io.2.2 (by decide),Y,_,Y,cg (by simp[eqV]) ?_⟩;exact⟨_,_,_,_,_,Y,rM.trans s4⟩
   rintro σ G2 ⟨v5,v6,v7,v8,v9,rfl,bJ⟩
   exact⟨_,_,_,_,_,_,_,Y,bJ⟩
  rintro σ G ⟨v3,v4,v5,v6,v7,v8,v9,rfl,sg⟩
  exact k G sg
end
section
variable {K:PySem.W.Frag}
def spTold (K:PySem.W.Frag) (a:Adr):Sp:=fun vs H Q _=>∃ p r v d kd ws ds lv hf n,vs=[.ref p,.ref d]/\bB K a.Net H p r v/\H d=some (.dK kd)/\jT K v kd ws ds lv hf/\F2 ArDn v.arr ds/\tz ws lv n/\H a.tb_items_along=some (.tbl oJ nW) /\
 ((20<n\/60<jH lv ds)->∀ H',af H H'->Q .non H') /\
 (n<=20->jH lv ds<=60->∀ t g l rs ys H',af H H'->H' t=some (.tup [.ref g,.ref l])->H g=none->H l=none->g≠l->H' g=some (.lst rs)->WsV a H' rs (eI n (cq lv hf ws ds))->H' l=some (.lst ys)->aM K H' ((ds.flatMap (dQ lv hf)).map cK) ys->Q (.ref t) H')
theorem HL (T:Tx K mg a):Cal P w K mg base CX0 8 "_law_told" ["_law_net","_law_levels_here"] [] (spTold K a):=T.d__law_told.cal fun f fd F=>by
 have gn:=Hl (P:=P) (w:=w) (base:=base) T;refine F.ok Ic (fun vs H Q E h=>?_) (fun aw A outer s H vs Q E hr h=>?_)
 ·obtain⟨p,r,v,d,kd,ws,ds,lv,hf,n,rfl,_⟩:=h
  rfl
 ·obtain⟨p,r,v,d,kd,ws,ds,lv,hf,n,rfl,N,hd,S,fa,cn,jE,k1,k2⟩:=h
  refine⟨_,(aq (ps_try ⟨Y,Y⟩ Y (PHs.one Y T.g_TooLong T.xb_TooLong T.xt_TooLong (by decide) (fun a H₀=>(aq (aO pe_non))) PHs.nil) (fun pn E1 R1 bq Ly=>(aq (aO (JY gn bq (hr.mono (by decide)) rfl (ag (pv 0) (ag (pv 1) aj)))))) bO)),?_⟩;refine⟨_,Y,_,Y,p,r,v,d,kd,ws,ds,lv,hf,n,Y,N,hd,S,fa,cn,jE,fun hl H1 s1=>?_,k2⟩;refine⟨a.TooLong,true,Y,T.mr_TooLong_TooLong,lp (fun x ob hx ho gM hf=>?_)⟩;exact k1 hl _ (s1.trans (af.new hx))
theorem BR {H:Hp}:∀ {r:jd}{zs:List V},F2 (m8 K H) zs r->i8 K H (r.map kvD) zs
 | [],[],_=>rfl
 | _::_,_::_,h=>by
  obtain⟨⟨s,rfl,hs⟩,h2⟩:=h;exact⟨s,_,Y,hs,BR h2⟩
 | [],_::_,h=>h.elim
 | _::_,[],h=>h.elim
def sD (ls:List Str):Dt:=.lst (ls.map Dt.str)
theorem wQ {H:Hp}:∀ ls:List Str,aM K H (ls.map Dt.str) (ls.map V.str)
 | []=>rfl
 | s::ls=>⟨_,_,Y,Y,wQ ls⟩
theorem sats {H:Hp}:∀ {mj:List (List Str)}{ys:List V},F2 (SAt H) ys mj->aM K H (mj.map sD) ys
 | [],[],_=>rfl
 | ls::mj,_::_,h=>by
  obtain⟨⟨r,rfl,hr⟩,h2⟩:=h;exact⟨_,_,Y,⟨r,_,Y,SqL.of hr,wQ ls⟩,sats h2⟩
 | [],_::_,h=>h.elim
 | _::_,[],h=>h.elim
theorem xE {n:Nat}:∀ ls:List Str,dP n (ls.map Dt.str)
 | []=>trivial
 | s::ls=>⟨by cases n <;> trivial,xE ls⟩
theorem CI {n:Nat}:∀ mj:List (List Str),dP (n + 1) (mj.map sD)
 | []=>trivial
 | ls::mj=>⟨xE ls,CI mj⟩
theorem GT {k:Key}{v:V}{q:Key×V} (h:q∈dj m k v):q∈m\/q.2=v:=by
 unfold dj at h;split at h
 ·obtain⟨x,hx,e⟩:=List.mem_map.mp h
  by_cases c:x.1=k
  ·rw[if_pos c] at e
   rw[<- e];exact .inr rfl
  ·rw[if_neg c] at e
   rw[<- e];exact .inl hx
 ·rcases List.mem_append.mp h with z|z
  ·exact .inl z
  ·rw[List.mem_singleton.mp z]
   exact .inr rfl
theorem CH {H:Hp}:∀ (rows:List jd) (m:Kvs),oA K H m->oA K H (kR m rows)
 | [],_,h=>h
 | r::rows,m,h=>CH rows _ (by
  have:∀ (r:jd) (m:Kvs),oA K H m->oA K H ((r.map kvD).foldl fJ m):=fun r=>by
   induction r with
   | nil=>exact fun m h=>h
   | cons p r ih=>
    intro m h;refine ih (fJ m (kvD p)) ?_;intro q hq;rcases GT hq with z|z
    ·exact h q z
    ·rw[z]
     exact⟨.int p.2,Y,trivial⟩
  exact this r m h)
def prD (q:Lne):Dt:=jP (q.1,q.2.1)
def spSaid (K:PySem.W.Frag) (a:Adr):Sp:=fun vs H Q _=>∃ t g l rs ys q zs rows b us lns,vs=[.ref t,.ref q,.ref b]/\H t=some (.tup [.ref g,.ref l])/\H g=some (.lst rs)/\WsV a H rs rows/\H l=some (.lst ys)/\aM K H ((lns:List Lne).map cK) ys/\H q=some (.lst zs)/\F2 (mW K H) zs (rows.map duI)/\H b=some (.lst us)/\aM K H (lns.map cK) us /\
 (∀ r∈rows,tO r)/\rows.length<=1000/\((rows.map duI).map List.length).sum<=1000/\lns.length<=100000/\∀ H',af H H'->Q (.bl true) H'
theorem IG (T:Tx K mg a):Cal P w K mg base CX0 3 "_law_said" ["_law_told_here","_law_due_here","_law_lines_here"] [] (spSaid K a):=T.d__law_said.cal fun f fd F=>by
 have fq:=J3 (P:=P) (w:=w) (base:=base) T;have eu:=Kb (P:=P) (w:=w) (base:=base) T;have fD:=Hm (P:=P) (w:=w) (base:=base) T;refine F.ok tE (fun vs H Q E h=>?_) (fun aw A outer s H vs Q E hr h=>?_)
 ·obtain⟨t,g,l,rs,ys,q,zs,rows,b,us,lns,rfl,_⟩:=h
  rfl
 ·obtain⟨t,g,l,rs,ys,q,zs,rows,b,us,lns,rfl,ht,hg,hw,hl,dl,hq,hz,hb,db,ok,n1,n2,n3,k⟩:=h
  have zl:=hz.len;refine⟨_,(ao (aU (i:=3) tE.nd Y (.inl Y) qx)
   (ao (cP PassesOwn.never rfl (cw (pv 1)) (aD (i:=4) tE.nd Y (.inl Y)) (aq (ck (dL PySem.F.plainAttrs_dict PySem.F.slot_dict_update PySem.F.type_dict_update Bw (pv 3) (ag (pv 4) aj)))))
   (ao (aU (i:=5) tE.nd Y (.inl Y) (bD fq (hr.mono (by decide)) rfl (ag (aF cB (pv 0) am (fun _ _=>Y)) aj)))
   (ao (bG (PW.pt (eJ (bw (tN hr.units) (pv 5) (eX (N:=["_law_row"]) (cap:=[none]) Y (cH (osc:=aA tU) (XN:=["_law_told_here","_law_due_here","_law_lines_here","_law_held","_law_row","_law_marks"]) Y Y (by decide +kernel)) (cw (pv 1)) (fun cl C s H fp aa=>(aD (i:=0) (show(["_law_row"]:List Str).Nodup by decide +kernel) rfl (.inl rfl))) (fun cl C s H fp aa=>dM) (fun cl C s H fp aa=>(eX (N:=["_law_pair"]) (cap:=[none]) Y (cH (osc:={ kind:=.function,names:=[(".0",.local),("_law_row",.local)],isGenerator:=false,isCoroutine:=false }) (XN:=["_law_row"]) Y Y (by decide +kernel)) (GW (K:=K) Y (pv 0)) (fun cl C s H fp aa=>(aD (i:=0) (show(["_law_pair"]:List Str).Nodup by decide +kernel) rfl (.inl rfl))) (fun cl C s H fp aa=>dM) (fun cl C s H fp aa=>(aF (mF (K:=K) Y) (pv 0) am (fun _ _=>Y)))))) (br _)) (gH (bw (op_neK hr.units) (bD eu (hr.mono (by decide)) rfl (ag (aF cB (pv 0) am (fun _ _=>Y)) aj)) (pv 3) (br _))))) (aq (aO gY)) bO)
   (ao (ck (sJ PySem.F.plainAttrs_list PySem.F.slot_list_clear PySem.F.type_list_clear xA (pv 5)))
   (aq (aO (mG (zU hr.units) (bD fD (hr.mono (by decide)) rfl (ag (aF cB (pv 0) am (fun _ _=>Y)) aj)) (eX (N:=["_law_upper","_law_lower","_law_weight"]) (cap:=[none,none,none]) Y (cH (osc:=aA tU) (XN:=["_law_told_here","_law_due_here","_law_lines_here","_law_held","_law_row","_law_marks"]) Y Y (by decide +kernel)) (cw (pv 2)) (fun cl C s H fp aa=>(tL (K:=K) (n:=3) Y Y (aQ (aD (i:=0) (show(["_law_upper","_law_lower","_law_weight"]:List Str).Nodup by decide +kernel) rfl (.inl rfl)) (aQ (aD (i:=1) (show(["_law_upper","_law_lower","_law_weight"]:List Str).Nodup by decide +kernel) rfl (.inl rfl)) (aQ (aD (i:=2) (show(["_law_upper","_law_lower","_law_weight"]:List Str).Nodup by decide +kernel) rfl (.inl rfl)) fU))))) (fun cl C s H fp aa=>dM) (fun cl C s H fp aa=>(gk (ag (pv 0) (ag (pv 1) aj))))) (br _))))))))),?_⟩
  refine fun d nd=>⟨_,Y,q,Y,⟨_,SqL.of (af.new (o:=.dK []) nd _ _ hq)⟩,gE (K:=K) (a:=q) (xs:=zs) (fun i σ G=>∃ v4,σ=[some (.ref t),some (.ref q),some (.ref b),some (.ref d),v4,none]/\af H G/\G d=some (.dK (kR [] ((rows.map duI).take i)))) ⟨none,rfl,af.new nd,ah⟩ ?_ ?_ ?_⟩
  ·rintro i σ G _ ⟨_,rfl,sg,_⟩
   exact SqL.of (sg _ _ hq)
  ·rintro i x σ G hx ⟨v4,rfl,sg,hd⟩
   obtain⟨r,er,t1,ps,rfl,h1,h2⟩:=(hz.mono fun _ _ z=>z.same sg).get hx;have dl:=xG ((rows.map duI).take i) [];have sl:=AL ((rows.map duI).map List.length) i;rw[Oz] at dl;have bi:r.length<=1000:=by
    have:=w5 (l:=(rows.map duI).map List.length) (x:=r.length) (Ni (f:=List.length) (Me er));omega
   dsimp only[aV];refine⟨_,Y,.inr (.inr (.inl ⟨Y,.inl ⟨_,hd⟩⟩)),_,Y,d,t1,_,ps,r.map kvD,Y,Y,hd,SqL.of h1,BR h2,?_,by rw[L9];exact bi,_,Y,bY nd sg,?_⟩
   ·have z0:([]:Kvs).length=0:=rfl
    omega
   ·rw[ah,bP er]
    unfold kR;rw[NY];rfl
  rintro σ H1 ⟨v4,rfl,s1,rF⟩
  rw[zl,Mu] at rF;refine⟨_,Y,t,_,_,_,Y,Y,SqT.of (s1 _ _ ht),Y,g,rs,rows,Y,s1 _ _ hg,m7 hw s1,ok,n1,fun m ms H2 s2 nm hm fm=>?_⟩;have t2:=s1.trans s2;refine⟨_,Y,_,Y,q,Y,⟨_,SqL.of (t2 _ _ hq)⟩,fun D hD=>?_⟩;refine gA (K:=K) (a:=q) (xs:=zs) (fun i τ G=>∃ v1 ws,τ=[v1]/\af H2 G/\G D=some (.lst ws)/\F2 (fun v ls=>SAt G v ls/\v≠.ref D) ws ((rows.take i).map fH)) ⟨none,[],Y,af.new hD,ah,trivial⟩ ?_ ?_ ?_
  ·rintro i τ G _ ⟨_,_,rfl,sg,_⟩
   exact SqL.of ((t2.trans sg) _ _ hq)
  ·rintro i x τ G hx ⟨v1,ws,rfl,sg,hG,fw⟩
   obtain⟨r,er,t1,ps,rfl,h1,h2⟩:=(hz.mono fun _ _ z=>z.same (t2.trans sg)).get hx;rw[Mm] at er;obtain⟨ac,ei,rfl⟩:∃ ac,rows[i]?=some ac/\duI ac=r:=by
    cases e:rows[i]? with
    | none=>rw[e] at er;cases er
    | some ac=>rw[e] at er;cases er;exact⟨ac,Y,Y⟩
   have hi:i<rows.length:=(List.getElem?_eq_some_iff.mp ei).1;have pl:=h2.len;have il:=(ok ac (Me ei)).1;have dl:(duI ac).length=ac.length:=L9 ..;dsimp only[aV,cJ];rw[if_pos rfl];refine⟨_,Y,t1,Y,⟨_,SqL.of h1⟩,fun D2 iU=>?_⟩;refine gA (K:=K) (a:=t1) (xs:=ps) (fun j τ G2=>∃ v1,τ=[v1]/\af G G2/\G2 D2=some (.lst ((fH (ac.take j)).map V.str))) ⟨none,rfl,af.new iU,ah⟩ ?_ ?_ ?_
   ·rintro j τ G2 _ ⟨_,rfl,bJ,_⟩
    exact SqL.of (bJ _ _ h1)
   ·rintro j y τ G2 hy ⟨v1,rfl,bJ,rO⟩
    obtain⟨pr,e4,q2,rfl,i2⟩:=h2.get hy;have hj:j<ac.length:=by
     rw[<- dl];exact(List.getElem?_eq_some_iff.mp e4).1
    obtain⟨it,e5⟩:∃ it,ac[j]?=some it:=⟨_,Mj hj⟩;unfold duI at e4;rw[Mm,e5] at e4;cases e4
    dsimp only[aV,cJ];rw[if_pos rfl];refine⟨_,Y,q2,_,_,.str it.label,Y,Y,(Tk.of bJ).sqT i2,fN (MX 0),_,rO,by rw[L9,L9,Ml,Mh];omega,_,Y,bY iU bJ,?_⟩;rw[ah,bP e5];simp[fH]
   rintro τ G2 ⟨v1,rfl,bJ,rO⟩
   rw[pl,dl,Mu] at rO;have DD:D≠D2:=aE hG iU;refine⟨ws,bJ _ _ hG,by rw[fw.len,L9,Ml,Mh];omega,_,_,Y,bY hD (sg.trans bJ),ah,?_⟩;rw[bP ei,Mf];refine(fw.mono fun v ls ⟨⟨r',ev,hr'⟩,nv⟩=>⟨⟨r',ev,?_⟩,nv⟩).snoc ⟨⟨D2,Y,?_⟩,fun z=>DD (by cases z;rfl)⟩
   ·rw[ak (Ne.symm DD)]
    exact rO
   ·rw[ak (fun z=>nv (by rw[ev,z]))]
    exact bJ _ _ hr'
  rintro τ H3 ⟨v1,ws,rfl,s3,h3,fw⟩
  rw[zl,L9,Mu] at fw;have t3:=t2.trans s3;have e0:∀ d:Dt,(if true=true then !eqD d d else eqD d d)=false:=fun d=>by rw[if_pos rfl,mQ];rfl
  refine⟨.lst ((rows.map fH).map sD),.lst ((rows.map fH).map sD),Y,Y,⟨m,_,Y,SqL.of (s3 _ _ hm),sats (fm.mono fun _ _ ⟨r,e,h⟩=>⟨r,e,s3 _ _ h⟩)⟩,⟨D,_,Y,SqL.of h3,sats (fw.mono fun _ _ h=>h.1)⟩,CI _,_,Y,cg (e0 _) ?_⟩;refine⟨_,Y,t,_,_,_,Y,Y,SqT.of (t3 _ _ ht),Y,g,rs,rows,Y,t3 _ _ hg,m7 hw t3,ok,n2,fun d2 H4 s4 LP gI=>?_⟩;have t4:=t3.trans s4;refine⟨_,Y,d2,d,_,Y,Y,gI,(s2.trans (s3.trans s4)) _ _ rF,CH _ _ (fun p hp=>by cases hp),_,rfl,cg rfl ?_⟩;have zk:=(s3.trans s4) _ _ hm;refine⟨_,Y,.inl ⟨Y,_,SqL.of zk⟩,m,_,Y,Y,zk,?_⟩;have t5:af H (upd H4 m (.lst [])):=bY (ji s1 nm) t4;generalize upd H4 m (.lst [])=H5 at t5 ⊢;refine⟨_,Y,t,_,_,_,Y,Y,SqT.of (t5 _ _ ht),Y,l,ys,lns,Y,t5 _ _ hl,t5.dts dl,n3,fun e es H6 s6 ne he de=>?_⟩;have t6:=t5.trans s6;refine⟨_,Y,b,Y,⟨_,SqL.of (t6 _ _ hb)⟩,fun D7 nS=>?_⟩;have Eu:=t6.dts db;have ul:=db.length;rw[L9] at ul;refine gA (K:=K) (a:=b) (xs:=us) (fun i τ G=>∃ v1 v2 v3 vs,τ=[v1,v2,v3]/\af H6 G/\G D7=some (.lst vs)/\aM K G ((lns.take i).map fun q=>jP (q.1,q.2.1)) vs) ⟨none,none,none,[],Y,af.new nS,ah,Y⟩ ?_ ?_ ?_
  ·rintro i τ G _ ⟨_,_,_,_,rfl,sm,_⟩
   exact SqL.of (sm _ _ (t6 _ _ hb))
  ·rintro i x τ G hx ⟨v1,v2,v3,vs,rfl,sm,hy,dy⟩
   obtain⟨q',dA,dq⟩:=nB Eu hx;obtain⟨t',rfl,rD⟩:=un_ln (sm.dt dq);have yl:vs.length<=100000:=by
    rw[<- dy.length,L9,Ml];omega
   refine⟨t',_,Y,rD,Y,_,_,Y,_,_,Y,_,_,Y,Y,?_⟩;dsimp only[cJ];rw[if_pos rfl];refine⟨_,Y,_,Y,(by show 2<=sizeLine;decide),fun z nz=>?_⟩;obtain⟨g1,g2,g3⟩:=grow (K:=K) (d:=jP (q'.1,q'.2.1)) (vs:=[.str q'.1,.str q'.2.1]) nS sm hy dy (dX (fun _=>Y) _) nz fun H' h=>dt_pr h
   refine⟨vs,g1,by rw[Mh];omega,_,_,_,_,Y,g2,ah,?_⟩;rw[bP dA,Mf];exact g3
  rintro τ H7 ⟨v1,v2,v3,vs,rfl,s7,h7,d7⟩
  rw[<- ul,Mu] at d7;have t7:=t6.trans s7;have dp:fK 60 (.lst (lns.map prD)):=tG (n:=59) (f:=prD) (fun q:Lne=>KA (n:=58) ((q.1,q.2.1):Str×Str)) lns;refine⟨.lst (lns.map prD),.lst (lns.map prD),Y,Y,⟨e,_,Y,SqL.of (s7 _ _ he),s7.dts de⟩,⟨D7,_,Y,SqL.of h7,d7⟩,dp,?_⟩;show Q (.bl (if false=true then _ else eqD _ _)) _;rw[if_neg (by decide),mQ];exact k H7 t7
end
theorem cut_n (xs:List V){k:Int} (h0:0<=k) (h1:k<=xs.length):d5 xs none (some k)=xs.take k.toNat:=by
 unfold d5;have h2:HT.sIx xs.length xs.length (some ((k.toNat:Nat):Int))=min k.toNat xs.length:=HT.zfQ _ _ k.toNat;rw[show((k.toNat:Nat):Int)=k by omega] at h2;rw[HT.zic,h2,List.drop_zero,Nat.sub_zero,Nat.min_eq_left (by omega)]
theorem zdS {k:Int} (h0:0<=k) (h1:k<ns.length):∃ z,ns[k.toNat]?=some z/\atI (ns.map V.int) k=some (.int z):=by
 obtain⟨z,hz⟩:=jj (l:=ns) (j:=k.toNat) (by omega);exact⟨z,hz,by rw[B3 h0,Mm,hz];rfl⟩
abbrev q0:List Str:=["a","b","c","d","e","f"]
abbrev q1:List Str:=["ab","a","abc","b","ba","bb"]
abbrev q2:List Str:=["z","y","x","w","v","u"]
variable {L zs:List Int}{l:List Str}
abbrev q3:List Str:=["abcdefgh","abcdefgi","q","point","same","arrow"]
def nm4:List (List Str):=[q0,q1,q2,q3]
structure oG (ws:List Str):Prop where
 lo:1<=ws.length
 hi:ws.length<=6
 nd:ws.Nodup
 is_:∀ x∈ws,d4 x=true
 dt:∀ x∈ws,oq x=false
theorem nm4_ok:∀ xs∈nm4,xs.length=6/\xs.Nodup/\(∀ x∈xs,d4 x=true)/\∀ x∈xs,oq x=false:=by decide +kernel
section
variable {K:PySem.W.Frag}
def F5 (K:PySem.W.Frag):Sp:=fun vs H Q _=>∃ p,∃ ns:List Int,∃ k,vs=[.ref p,.int k]/\SqL K H p (ns.map V.int)/\0<=k/\∀ c,Q (.int c) H
theorem J9 (T:Tx K mg a):Cal P w K mg base CX0 1 "_law_cell_at" ["_law_script","_law_k"] [] (F5 K):=T.d__law_cell_at.cal fun f fd F=>by
 refine F.ok Jb (fun vs H Q E h=>?_) (fun aw A outer s H vs Q E hr h=>?_)
 ·obtain⟨p,ns,k,rfl,_⟩:=h
  rfl
 ·obtain⟨p,ns,k,rfl,hS,h0,q⟩:=h
  refine⟨_,(ao (bG (bw qU (pv 1) (bu eG Y T.n_len cQ (ag (pv 0) aj)) (br _)) (aq (aO (aF bC (pv 0) (pv 1) (fun _ _=>Y)))) bO)
   (aq (aO am))),?_⟩
  refine⟨_,Y,_,Y,p,_,Y,.inl hS,_,_,Y,Y,_,Y,?_⟩;refine bE (fun c=>?_) (fun c=>?_)
  ·have h1:k<ns.length:=by
    have:=MP c
    rwa [L9] at this
   obtain⟨z,_,hz⟩:=zdS h0 h1;exact⟨_,Y,_,Y,p,_,_,_,Y,Y,hS,hz,q z⟩
  ·exact q 0
def GH:Sp:=fun vs H Q _=>∃ c m,vs=[.int c,.int m]/\0<=m/\m<=100/\∀ l xs H',af H H'->H l=none->H' l=some (.lst ((xs:List Int).map V.int))->(xs.length:Int)=m->Q (.ref l) H'
theorem CA (T:Tx K mg a):Cal P w K mg base CX0 1 "_law_stream" ["_law_cell","_law_many"] [] GH:=T.d__law_stream.cal fun f fd F=>by
 refine F.ok og (fun vs H Q E h=>?_) (fun aw A outer s H vs Q E hr h=>?_)
 ·obtain⟨c,m,rfl,_⟩:=h
  rfl
 ·obtain⟨c,m,rfl,m0,m1,k⟩:=h
  refine⟨_,(ao (aU (i:=2) og.nd Y (.inl Y) (bH aj))
   (ao (aU (i:=3) og.nd Y (.inl Y) (aG dz (aG tw (aG dZ (pv 0) am) am) am))
   (ao (cP PassesOwn.never rfl (kQ rfl T.n_range (ag (pv 1) aj)) (aD (i:=4) og.nd Y (.inl Y)) (ao (aU (i:=3) og.nd Y (.inl Y) (aG dz (aG tw (pv 3) (aG dZ (aG dZ (aG lr (pv 3) am) am) (pv 4))) am))
   (ao (ck (dL PySem.F.plainAttrs_list PySem.F.slot_list_append PySem.F.type_list_append gj (pv 2) (ag (pv 3) aj)))
   (aq (aU (i:=3) og.nd Y (.inl Y) (aG dZ (pv 3) am))))))
   (aq (aO (pv 2)))))),?_⟩
  refine⟨(by show 0<=sizeLine;decide),fun g ng=>?_⟩;have s1:af H (upd H g (.lst [])):=af.new ng;have h1:upd H g (.lst []) g=some (.lst []):=ah;generalize upd H g (.lst [])=H1 at s1 h1 ⊢;refine⟨_,Y,_,_,Y,Y,_,_,Y,Y,.inr ⟨by decide,by decide⟩,_,_,Y,Y,(by show(0:Int)<2147483647;decide),?_⟩;have b0:0<=(c + 7919) * 48271 % 2147483647:=MR _ (by decide);have b1:(c + 7919) * 48271 % 2147483647<2147483647:=MK _ (by decide);refine⟨_,Y,_,Y,by omega,by omega,sG (lo:=0) (n:=m.toNat) (fun i σ H'=>∃ v4,∃ z:Int,∃ xs:List Int,σ=[some (.int c),some (.int m),some (.ref g),some (.int z),v4]/\0<=z/\z<=2147483647/\(∀ b o,H1 b=some o->b≠g->H' b=some o)/\H' g=some (.lst (xs.map V.int))/\xs.length=i) ⟨none,_,[],rfl,b0,Po b1,fun b o e _=>e,h1,Y⟩ ?_ ?_⟩
  ·rintro i σ H' hi ⟨v4,z,xs,rfl,z0,z1,o3,h3,xl⟩
   dsimp only[aV];refine⟨_,Y,_,Y,_,_,Y,Y,⟨by decide,by decide⟩,_,_,Y,Y,_,Y,_,_,Y,Y,_,_,Y,Y,.inl ⟨?_,?_⟩,_,_,Y,Y,(by show(0:Int)<2147483647;decide),?_⟩
   ·show -(2 ^ 64)<z
    omega
   ·show z<2 ^ 64
    omega
   generalize z * (z / 1009 + 69621 + (0 + (i:Int)))=y;have y0:0<=y % 2147483647:=MR _ (by decide);have y1:y % 2147483647<2147483647:=MK _ (by decide);refine⟨_,Y,.inl ⟨Y,_,SqL.of h3⟩,_,Y,g,_,_,Y,Y,h3,by rw[L9,Mh];omega,?_⟩;refine⟨_,Y,_,_,Y,Y,?_⟩;refine⟨_,_,xs++[y % 2147483647],Y,by omega,by omega,fun b o e ne=>by rw[ak ne];exact o3 b o e ne,by rw[ah,Mf];rfl,by rw[Mg,xl];rfl⟩
  ·rintro σ H' ⟨v4,z,xs,rfl,_,_,o3,h3,xl⟩
   exact⟨_,Y,k g xs H' (fun b o e=>o3 b o (s1 _ _ e) (aE e ng)) ng h3 (by omega)⟩
def JW:Sp:=fun vs H Q _=>∃ c,vs=[.int c]/\∀ l ws H',af H H'->H l=none->H' l=some (.lst ((ws:List Str).map V.str))->oG ws->Q (.ref l) H'
theorem Gr (T:Tx K mg a):Cal P w K mg base CX0 1 "_law_names" ["_law_cell"] [] JW:=T.d__law_names.cal fun f fd F=>by
 refine F.ok CD (fun vs H Q E h=>?_) (fun aw A outer s H vs Q E hr h=>?_)
 ·obtain⟨c,rfl,_⟩:=h
  rfl
 ·obtain⟨c,rfl,k⟩:=h
  refine'⟨_,ao ?s0 ?r0,?sg⟩
  case s0=>
   rw[IQ (i:=1) (x1:=["a","b","c","d","e","f"]) (x2:=["ab","a","abc","b","ba","bb"]) (x3:=["z","y","x","w","v","u"])];exact trivial
   case h1=>rfl
   case h2=>rfl
   case h3=>rfl
   case hN=>exact CD.nd
   case hi=>rfl
   case hx=>exact Or.inl rfl
   case hs=>rfl
   case hf=>exact .inr rfl
  case r0=>
   refine' ao ?s1 ?r1
   case s1=>exact(ck (dL PySem.F.plainAttrs_list PySem.F.slot_list_append PySem.F.type_list_append gj (pv 1) (ag (bH (rm (xs:=["abcdefgh","abcdefgi","q","point","same","arrow"]) Y)) aj)))
   case r1=>
    exact aq (aO (tK tW (aF bC (pv 1) (aG dz (pv 0) am) (fun _ _=>Y)) AJ (n8 (aG dZ am (aG dz (aG lr (pv 0) am) am)))))
  case sg=>
  refine⟨(by show 6<=sizeLine;decide),fun r0 n0=>⟨(by show 6<=sizeLine;decide),fun r1 n1=>⟨(by show 6<=sizeLine;decide),fun r2 n2=>⟨(by show 3<=sizeLine;decide),fun g ng=>?_⟩⟩⟩⟩;have s1:=af.new (H:=H) (o:=.lst (q0.map V.str)) n0;have s2:=af.new (H:=upd H r0 (.lst (q0.map V.str))) (o:=.lst (q1.map V.str)) n1;have s3:=af.new (H:=upd (upd H r0 (.lst (q0.map V.str))) r1 (.lst (q1.map V.str))) (o:=.lst (q2.map V.str)) n2;have s4:=af.new (H:=upd (upd (upd H r0 (.lst (q0.map V.str))) r1 (.lst (q1.map V.str))) r2 (.lst (q2.map V.str))) (o:=.lst [.ref r0,.ref r1,.ref r2]) ng;have g0:=(s2.trans (s3.trans s4)) r0 _ ah;have g1:=(s3.trans s4) r1 _ ah;have g2:=s4 r2 _ ah;have t4:=s1.trans (s2.trans (s3.trans s4));have hg:upd (upd (upd (upd H r0 (.lst (q0.map V.str))) r1 (.lst (q1.map V.str))) r2 (.lst (q2.map V.str))) g (.lst [.ref r0,.ref r1,.ref r2]) g=some (.lst [.ref r0,.ref r1,.ref r2]):=ah;have Ep:H g=none:=by
   cases e:H g with
   | none=>rfl
   | some o=>
    have:=s3 _ _ (s2 _ _ (s1 _ _ e));rw[show _=none from ng] at this;cases this
  change _ at g0 g1 g2 t4 hg
  refine⟨_,Y,.inl ⟨Y,_,SqL.of hg⟩,(by show 6<=sizeLine;decide),fun r3 n3=>?_⟩;have s5:=af.new (o:=.lst (q3.map V.str)) n3;refine⟨g,_,_,Y,Y,s5 _ _ hg,(by show 3<sizeLine;decide),?_⟩;have t5:af H (upd (upd (upd (upd (upd (upd H r0 (.lst (q0.map V.str))) r1 (.lst (q1.map V.str))) r2 (.lst (q2.map V.str))) g (.lst [.ref r0,.ref r1,.ref r2])) r3 (.lst (q3.map V.str))) g (.lst [.ref r0,.ref r1,.ref r2,.ref r3])):=fun b o e=>by
   rw[ak (aE e Ep)];exact s5 _ _ (t4 _ _ e)
  have ne:∀ {r:Addr}{xs:List Str},(upd (upd (upd (upd H r0 (.lst (q0.map V.str))) r1 (.lst (q1.map V.str))) r2 (.lst (q2.map V.str))) g (.lst [.ref r0,.ref r1,.ref r2])) r=some (.lst (xs.map V.str))->r≠g:=fun e z=>by
   rw[z,hg] at e;have:=Option.some.inj e;injection this with this
   rename_i xs
   cases xs with
   | nil=>cases this
   | cons x xs=>cases this
  have up:∀ {r:Addr}{xs:List Str},(upd (upd (upd (upd H r0 (.lst (q0.map V.str))) r1 (.lst (q1.map V.str))) r2 (.lst (q2.map V.str))) g (.lst [.ref r0,.ref r1,.ref r2])) r=some (.lst (xs.map V.str))->(upd (upd (upd (upd (upd (upd H r0 (.lst (q0.map V.str))) r1 (.lst (q1.map V.str))) r2 (.lst (q2.map V.str))) g (.lst [.ref r0,.ref r1,.ref r2])) r3 (.lst (q3.map V.str))) g (.lst [.ref r0,.ref r1,.ref r2,.ref r3])) r=some (.lst (xs.map V.str)):=fun e=>by
   rw[ak (ne e)];exact s5 _ _ e
  have f0:=up g0;have f1:=up g1;have f2:=up g2;have f3:(upd (upd (upd (upd (upd (upd H r0 (.lst (q0.map V.str))) r1 (.lst (q1.map V.str))) r2 (.lst (q2.map V.str))) g (.lst [.ref r0,.ref r1,.ref r2])) r3 (.lst (q3.map V.str))) g (.lst [.ref r0,.ref r1,.ref r2,.ref r3])) r3=some (.lst (q3.map V.str)):=by
   rw[ak (Ne.symm (aE hg n3))];exact ah
  have fg:(upd (upd (upd (upd (upd (upd H r0 (.lst (q0.map V.str))) r1 (.lst (q1.map V.str))) r2 (.lst (q2.map V.str))) g (.lst [.ref r0,.ref r1,.ref r2])) r3 (.lst (q3.map V.str))) g (.lst [.ref r0,.ref r1,.ref r2,.ref r3])) g=some (.lst [.ref r0,.ref r1,.ref r2,.ref r3]):=ah;generalize Fi:(upd (upd (upd (upd (upd (upd H r0 (.lst (q0.map V.str))) r1 (.lst (q1.map V.str))) r2 (.lst (q2.map V.str))) g (.lst [.ref r0,.ref r1,.ref r2])) r3 (.lst (q3.map V.str))) g (.lst [.ref r0,.ref r1,.ref r2,.ref r3]))=Hf at t5 f0 f1 f2 f3 fg;have c0:0<=c % 4:=MR _ (by decide);have c1:c % 4<4:=MK _ (by decide);have d0:0<=c / 4 % 6:=MR _ (by decide);have d1:c / 4 % 6<6:=MK _ (by decide);obtain⟨rx,xs,ax,hx,mx⟩:∃ rx xs,atI [V.ref r0,V.ref r1,V.ref r2,V.ref r3] (c % 4)=some (V.ref rx)/\Hf rx=some (.lst (xs.map V.str))/\xs∈nm4:=by
   rcases(by omega:c % 4=0\/c % 4=1\/c % 4=2\/c % 4=3) with e|e|e|e
   ·exact⟨r0,q0,by rw[e];rfl,f0,by simp[nm4]⟩
   ·exact⟨r1,q1,by rw[e];rfl,f1,by simp[nm4]⟩
   ·exact⟨r2,q2,by rw[e];rfl,f2,by simp[nm4]⟩
   ·exact⟨r3,q3,by rw[e];rfl,f3,by simp[nm4]⟩
  obtain⟨x6,xn,xi,xd⟩:=nm4_ok xs mx;have uM:d5 (xs.map V.str) none (some (1 + c / 4 % 6))=(xs.take (1 + c / 4 % 6).toNat).map V.str:=by rw[cut_n _ (by omega) (by rw[L9,x6];omega),Oz]
  have ok:oG (xs.take (1 + c / 4 % 6).toNat):=⟨by rw[Ml,x6];omega,by rw[Ml,x6];omega,List.Nodup.sublist (Pt _ _) xn,fun x hx=>xi x (Oo hx),fun x hx=>xd x (Oo hx)⟩;subst Fi;refine⟨_,Y,_,Y,_,_,Y,Y,(by show(0:Int)<4;decide),g,_,_,_,Y,Y,SqL.of fg,ax,_,Y,_,_,Y,Y,⟨by decide,by decide⟩,_,_,Y,Y,(by show(0:Int)<6;decide),_,_,Y,Y,_,Y,rx,_,Y,SqL.of hx,fun m nm=>?_⟩;refine k m _ _ (t5.trans (af.new nm)) ?_ (by rw[ah,uM]) ok;cases e:H m with
  | none=>rfl
  | some o=>
   have z:some o=none:=(t5 _ _ e).symm.trans nm;cases z
end
def heldBy (ks:List Ar) (wl:List Str):List Str:=(ks.filter fun q=>decide (q.one∈wl)).map Ar.other
def nextOf (ks:List Ar) (wl:List Str):List Str:=wl.filter fun x=>decide (x∈heldBy ks wl)
def Up (l:List Str) (x y:Str):Prop:=∃ i j:Nat,i<j/\l[i]?=some x/\l[j]?=some y
theorem xI  (nd:l.Nodup){j:Nat}{x:Str} (h1:l[i]?=some x) (h2:l[j]?=some x):i=j:=
 (N0 (List.getElem?_eq_some_iff.mp h1).1 nd).mp (h1.trans h2.symm)
def qC (ks:List Ar):Prop:=∃ rk:Str->Nat,∀ q∈ks,rk q.one<rk q.other
theorem iL.mono {yw:List Ar}{t:Str} (h:∀ q∈ks,q∈yw) (p:iL ks s t zs):iL yw s t zs:=by
 induction p with
 | nil=>exact .nil
 | snoc p hq e ih=>exact .snoc ih (h _ hq) e
open Classical in
theorem GC  (h:qC ks):qC (bM ks q):=by
 by_cases e:dm ks q.other q.one
 ·rw[mP e];exact h
 ·rw[kT e]
  obtain⟨rk,hr⟩:=h;refine⟨fun x=>if dm ks q.other x then rk x + (rk q.one + 1) else rk x,fun z hz=>?_⟩;rcases List.mem_append.mp hz with y|y
  ·have h1:=hr z y
   by_cases l1:dm ks q.other z.one
   ·have l2:dm ks q.other z.other:=by
     obtain⟨zs,p⟩:=l1;exact⟨_,p.snoc y Y⟩
    simp only[if_pos l1,if_pos l2]
    omega
   ·simp only[if_neg l1]
    split <;> omega
  ·rw[List.mem_singleton.mp y]
   have l0:dm ks q.other q.other:=⟨_,.nil⟩;simp only[if_neg e,if_pos l0]
   omega
theorem zZ:∀ (l ks:List Ar),qC ks->qC (l.foldl bM ks)
 | [],_,h=>h
 | q::l,_,h=>zZ l _ (GC h)
theorem HP (ar:List Ar):qC (fQ ar):=zZ ar [] ⟨fun _=>0,fun q hq=>by cases hq⟩
theorem Au:∀ (l ks:List Ar) (q:Ar),q∈l->q∈l.foldl bM ks\/dm (l.foldl bM ks) q.other q.one
 | x::l,ks,q,h=>by
  show q∈l.foldl bM (bM ks x)\/dm (l.foldl bM (bM ks x)) q.other q.one;rcases M5.mp h with rfl|h
  ·by_cases e:dm ks q.other q.one
   ·obtain⟨zs,p⟩:=e
    exact .inr ⟨zs,p.mono fun z hz=>qI (by rw[mP ⟨zs,p⟩];exact hz)⟩
   ·exact .inl (qI (by rw[kT e];exact Mr _ (List.mem_singleton.mpr Y)))
  ·exact Au l _ q h
structure Ln (ks:List Ar) (ps line wl:List Str):Prop where
 perm:(line++wl).Perm ps
 up:∀ q∈ks,q.other∈line->Up line q.one q.other
theorem AO  (nd:(ar.map Ar.num).Nodup) (hq:q∈ar):q.num∈gC ar↔q∉fQ ar:=by
 have uniq:∀ {x y:Ar},x∈ar->y∈ar->x.num=y.num->x=y:=fun {x y} hx hy e=>by
  obtain⟨i,hi⟩:=List.mem_iff_getElem?.mp hx;obtain⟨j,hj⟩:=List.mem_iff_getElem?.mp hy;have h1:(ar.map Ar.num)[i]?=some x.num:=by rw[Mm,hi];rfl
  have h2:(ar.map Ar.num)[j]?=some y.num:=by rw[Mm,hj];rfl
  rw[e] at h1;have:=(N0 (List.getElem?_eq_some_iff.mp h1).1 nd).mp (h1.trans h2.symm);subst this;rw[hi] at hj;exact Option.some.inj hj
 rw[<- zV nd]
 constructor
 ·intro z hk
  obtain⟨y,hy,e⟩:=List.mem_map.mp z;obtain⟨y1,y2⟩:=List.mem_filter.mp hy;have:=uniq y1 hq e;subst this;rw[CN hk] at y2;cases y2
 ·intro hk
  refine List.mem_map.mpr ⟨q,List.mem_filter.mpr ⟨hq,?_⟩,Y⟩;cases e:inK (fQ ar) q with
  | false=>rfl
  | true=>
   obtain⟨x,hx,en⟩:=BI e;have DP:x∈ar:=(sI hx).resolve_left (by simp);exact absurd (uniq DP hq en ▸ hx) hk
structure Ai where
 num:Nat
 one:Nat
 other:Nat
 wt:Int
 sp:Int
def gL (L:List Int) (i:Nat):Int:=L.getD i 0
def tF (x:Int) (L:List Int) (e:Ai):List Int:=L.set e.other (max (gL L e.other) (gL L e.one + e.sp + x))
theorem gL_set {j:Nat}{v:Int} (h:i<L.length):gL (L.set i v) j=if j=i then v else gL L j:=by
 unfold gL;rw[My,My,List.getElem?_set];by_cases c:i=j
 ·rw[if_pos c,if_pos c.symm,if_pos h]
  rfl
 ·rw[if_neg c,if_neg (Ne.symm c)]
structure ROk (n:Nat) (es:List Ai) (rk:Nat->Nat):Prop where
 lt:∀ e∈es,e.one<n/\e.other<n/\rk e.one<rk e.other
 bd:∀ i,i<n->rk i<n
 sp:∀ e∈es,1<=e.sp/\e.sp<=3
def nX (x:Int) (L:List Int) (e:Ai):Prop:=gL L e.one + e.sp + x<=gL L e.other
structure LOk (n:Nat) (es:List Ai) (rk:Nat->Nat) (x:Int) (L:List Int) (t j:Nat) (B:Int):Prop where
 len:L.length=n
 b0:∀ i,i<n->0<=gL L i
 b9:∀ i,i<n->gL L i<=B
 sat:∀ (i:Nat) e,es[i]?=some e->(rk e.other<t\/(rk e.other<=t/\i<j))->nX x L e
variable {es:List Ai}{n t:Nat}{rk:Nat->Nat}
theorem LOk.step {x B:Int}{j:Nat}{e:Ai} (R:ROk n es rk) (x0:0<=x) (x3:x<=3) (h:LOk n es rk x L t j B) (he:es[j]?=some e):LOk n es rk x (tF x L e) t (j + 1) (B + 6):=by
 have me:=Me he;obtain⟨l1,l2,l3⟩:=R.lt e me;obtain⟨s1,s3⟩:=R.sp e me;have hl:e.other<L.length:=by rw[h.len];exact l2
 have ne:e.one≠e.other:=fun z=>by rw[z] at l3;omega
 have u0:=h.b0 _ l1;have u9:=h.b9 _ l1;have o0:=h.b0 _ l2;have o9:=h.b9 _ l2;have g:∀ i,gL (tF x L e) i=if i=e.other then max (gL L e.other) (gL L e.one + e.sp + x) else gL L i:=fun i=>gL_set hl
 refine⟨by unfold tF;rw[OX];exact h.len,fun i hi=>?_,fun i hi=>?_,fun i q hq c=>?_⟩
 ·rw[g]
  split
  ·omega
  ·exact h.b0 i hi
 ·rw[g]
  split
  ·omega
  ·have:=h.b9 i hi
   omega
 ·have mq:=Me hq
  obtain⟨q1,q2,q3⟩:=R.lt q mq;unfold nX;rw[g,g];by_cases cj:i=j
  ·subst cj
   rw[he] at hq;cases hq
   rw[if_neg ne,if_pos rfl];omega
  ·have c':rk q.other<t\/(rk q.other<=t/\i<j):=by
    rcases c with z|⟨z1,z2⟩
    ·exact .inl z
    ·exact .inr ⟨z1,by omega⟩
   have old:=h.sat i q hq c';unfold nX at old;by_cases ce:rk e.other<t
   ·have se:=h.sat j e he (.inl ce)
    unfold nX at se;have m:max (gL L e.other) (gL L e.one + e.sp + x)=gL L e.other:=by omega
    have s:∀ i,(if i=e.other then gL L e.other else gL L i)=gL L i:=fun i=>by
     split
     ·rename_i z
      rw[z]
     ·rfl
    rw[m,s,s];exact old
   ·have nu:q.one≠e.other:=fun z=>by
     rw[z] at q3;rcases c' with y|⟨y,_⟩ <;> omega
    rw[if_neg nu];split
    ·rename_i z
     rw[z] at old;omega
    ·exact old
theorem LOk.turn {x B:Int} (h:LOk n es rk x L t es.length B):LOk n es rk x L (t + 1) 0 B:=⟨h.len,h.b0,h.b9,fun i e he c=>h.sat i e he (by
 have hi:i<es.length:=(List.getElem?_eq_some_iff.mp he).1;rcases c with z|⟨_,z⟩
 ·exact .inr ⟨by omega,hi⟩
 ·omega)⟩
theorem LOk.done {x B:Int} (R:ROk n es rk) (h:LOk n es rk x L n 0 B):∀ e∈es,nX x L e:=fun e me=>by
 obtain⟨i,hi⟩:=List.mem_iff_getElem?.mp me;exact h.sat i e hi (.inl (R.bd _ (R.lt e me).2.1))
theorem KQ  (rk:Str->Nat):∃ r':Nat->Nat,(∀ i,i<ws.length->r' i<ws.length)/\∀ (i j:Nat) x y,ws[i]?=some x->ws[j]?=some y->rk x<rk y->r' i<r' j:=by
 refine⟨fun i=>ws.countP fun z=>decide (rk z<rk (ws.getD i "")),fun i hi=>?_,fun i j x y hx hy lt=>?_⟩
 ·have hm:ws.getD i ""∈ws:=by
   rw[My,Mj hi];exact Nv hi
  have h1:ws.countP (fun z=>decide (rk z<rk (ws.getD i "")))<=ws.length:=List.countP_le_length;rcases OO (ws.countP fun z=>decide (rk z<rk (ws.getD i ""))) ws.length with z|z
  ·exact z
  ·have:=List.countP_eq_length.mp (Nat.le_antisymm h1 z) _ hm
   simp at this
 ·have ex:ws.getD i ""=x:=by rw[My,hx];rfl
  have ey:ws.getD j ""=y:=by rw[My,hy];rfl
  show ws.countP (fun z=>decide (rk z<rk (ws.getD i "")))<ws.countP (fun z=>decide (rk z<rk (ws.getD j "")));rw[ex,ey];have key:∀ l:List Str,x∈l->l.countP (fun z=>decide (rk z<rk x))<l.countP (fun z=>decide (rk z<rk y)):=fun l=>by
   induction l with
   | nil=>intro h;cases h
   | cons z l ih=>
    intro h;rw[List.countP_cons,List.countP_cons];have mono:l.countP (fun z=>decide (rk z<rk x))<=l.countP (fun z=>decide (rk z<rk y)):=List.countP_mono_left fun u _ hu=>by
     have:=MP hu;exact MH (by omega)
    rcases M5.mp h with e|e
    ·subst e
     rw[if_neg (by simp),if_pos (by simpa using lt)];omega
    ·have:=ih e
     by_cases c:rk z<rk x
     ·rw[if_pos (by simpa using c),if_pos (by simp;omega)]
      omega
     ·rw[if_neg (by simpa using c)]
      split <;> omega
  exact key ws (Me hx)
theorem GR {rk:Str->Nat} (h:∀ q∈ks,rk q.one<rk q.other){t:Str} (p:iL ks s t zs):rk s<rk t\/s=t:=by
 induction p with
 | nil=>exact .inr rfl
 | snoc p hq e ih=>
  have:=h _ hq;rw[e] at this;rcases ih with z|z
  ·exact .inl (by omega)
  ·exact .inl (by rw[z];exact this)
theorem ranks  (nd:(ar.map Ar.num).Nodup) (ne:∀ q∈ar,q.one≠q.other):∃ rk:Str->Nat,∀ q∈ar,(q.num∈gC ar->rk q.other<rk q.one)/\(q.num∉gC ar->rk q.one<rk q.other):=by
 obtain⟨rk,hr⟩:=HP ar;refine⟨rk,fun q hq=>⟨fun ht=>?_,fun hn=>?_⟩⟩
 ·have nk:=(AO nd hq).mp ht
  rcases Au ar [] q hq with z|⟨zs,p⟩
  ·exact absurd z nk
  ·rcases GR hr p with z|z
   ·exact z
   ·exact absurd z.symm (ne q hq)
 ·refine hr q ?_
  by_cases c:q∈fQ ar
  ·exact c
  ·exact absurd ((AO nd hq).mpr c) hn
def a5V (z:Ai):List V:=[.int z.num,.int z.one,.int z.other,.int z.wt,.int z.sp]
def A5At (K:PySem.W.Frag) (H:Hp) (v:V) (z:Ai):Prop:=∃ t,v=.ref t/\SqT K H t (a5V z)
abbrev A5s (K:PySem.W.Frag) (H:Hp) (ys:List V) (zs:List Ai):Prop:=F2 (A5At K H) ys zs
theorem i7 {K:PySem.W.Frag}{zs:List Ai} (h:A5s K H ys zs) (s:Tk H H'):A5s K H' ys zs:=h.mono fun _ _ ⟨t,e,z⟩=>⟨t,e,s.sqT z⟩
theorem gL_at  (h:i<L.length):atI (L.map V.int) ((i:Nat):Int)=some (.int (gL L i)):=by
 rw[fN (by omega),MA,Mm,Mj h];unfold gL;rw[My,Mj h];rfl
theorem map_set (L:List Int) (i:Nat) (v:Int):(L.map V.int).set i (.int v)=(L.set i v).map V.int:=by
 rw[List.map_set]
section
variable {K:PySem.W.Frag}
def GN (K:PySem.W.Frag):Sp:=fun vs H Q _=>∃ nm dn x ws ys zs xs rk,vs=[.ref nm,.ref dn,.ref x]/\H nm=some (.lst ((ws:List Str).map V.str))/\H dn=some (.lst ys)/\A5s K H ys zs/\H x=some (.lst ((xs:List Int).map V.int))/\xs.length=14/\ws.length<=6/\zs.length<=12/\ROk ws.length zs rk /\
 ∀ l L H',af H H'->H l=none->H' l=some (.lst ((L:List Int).map V.int))->L.length=ws.length->(∀ i,i<ws.length->0<=gL L i/\gL L i<900)->(∀ e∈zs,gL L e.one<gL L e.other)->Q (.ref l) H'
theorem JK (T:Tx K mg a):Cal P w K mg base CX0 1 "_law_levels" ["_law_names_here","_law_down_here","_law_xs"] [] (GN K):=T.d__law_levels.cal fun f fd F=>by
 refine F.ok kZ (fun vs H Q E h=>?_) (fun aw A outer s H vs Q E hr h=>?_)
 ·obtain⟨nm,dn,x,ws,ys,zs,xs,rk,rfl,_⟩:=h
  rfl
 ·obtain⟨nm,dn,x,ws,ys,zs,xs,rk,rfl,cG,gO,hz,hx,xl,wl,zl,R,k⟩:=h
  have yl:=hz.len;obtain⟨x6,_,a6⟩:=K42.zdS (ns:=xs) (k:=6) (by decide) (by rw[xl];decide);obtain⟨x7,_,a7⟩:=K42.zdS (ns:=xs) (k:=7) (by decide) (by rw[xl];decide);have m3:∀ z:Int,0<=z % 3/\z % 3<3:=fun z=>⟨MR _ (by decide),MK _ (by decide)⟩
  obtain⟨md,amd,md0,md9⟩:∃ md:Int,atI [V.int 3,V.int 6,V.int 24] (x6 % 3)=some (.int md)/\0<md/\md<=24:=by
   obtain⟨h0,h1⟩:=m3 x6;rcases(by omega:x6 % 3=0\/x6 % 3=1\/x6 % 3=2) with e|e|e <;> rw[e]
   ·exact⟨3,Y,by decide,by decide⟩
   ·exact⟨6,Y,by decide,by decide⟩
   ·exact⟨24,Y,by decide,by decide⟩
  obtain⟨me,ame,me0,me9⟩:∃ me:Int,atI [V.int 1,V.int 1,V.int 4] (x6 / 3 % 3)=some (.int me)/\0<me/\me<=4:=by
   obtain⟨h0,h1⟩:=m3 (x6 / 3);rcases(by omega:x6 / 3 % 3=0\/x6 / 3 % 3=1\/x6 / 3 % 3=2) with e|e|e <;> rw[e]
   ·exact⟨1,Y,by decide,by decide⟩
   ·exact⟨1,Y,by decide,by decide⟩
   ·exact⟨4,Y,by decide,by decide⟩
  have e0:0<=x7 % me:=MR _ (by omega);have e9:x7 % me<=3:=by have:=MK x7 me0;omega
  refine⟨_,(ao (oH (i:=3) kZ.nd Y Y (N:=["_law_k","_law_xs"]) (cap:=[none,some 2]) Y (cH (osc:=aA wq) (XN:=["_law_names_here","_law_down_here","_law_xs","_law_levels_here","_law_turn","_law_number","_law_upper","_law_lower","_law_weight","_law_span"]) Y Y (by decide +kernel)) (kQ rfl T.n_range (ag (bu eG rfl T.n_len cQ (ag (pv 0) aj)) aj)) (fun cl C s H fp aa=>(aD (i:=0) (show(["_law_k","_law_xs"]:List Str).Nodup by decide +kernel) rfl (.inl rfl))) (fun cl C s H fp aa=>dM) (fun cl C s H fp aa=>(aG dz (aF (kI (K:=K) Y) (pv 1) (pv 0) (fun _ _=>Y)) (aF (kI (K:=K) Y) (bH (ag am (ag am (ag am aj)))) (aG dz (aF (kI (K:=K) Y) (pv 1) am (fun _ _=>Y)) am) (fun _ _=>Y)))) (hsw:=Y))
   (ao (cP PassesOwn.never rfl (kQ rfl T.n_range (ag (bu eG rfl T.n_len cQ (ag (pv 0) aj)) aj)) (aD (i:=4) kZ.nd Y (.inl Y)) (aq (cP PassesOwn.never Y (cw (pv 1)) (gR Y (aQ (aD (i:=5) kZ.nd Y (.inl Y)) (aQ (aD (i:=6) kZ.nd Y (.inl Y)) (aQ (aD (i:=7) kZ.nd Y (.inl Y)) (aQ (aD (i:=8) kZ.nd Y (.inl Y)) (aQ (aD (i:=9) kZ.nd Y (.inl Y)) fU)))))) (aq (At (bu Ct Y T.n_max sL (ag (aF bC (pv 3) (pv 7) (fun _ _=>Y)) (ag (aG dZ (aG dZ (aF bC (pv 3) (pv 6) (fun _ _=>Y)) (pv 9)) (aG dz (aF bC (pv 2) am (fun _ _=>Y)) (aF bC (bH (ag am (ag am (ag am aj)))) (aG dz (aG lr (aF bC (pv 2) am (fun _ _=>Y)) am) am) (fun _ _=>Y)))) aj))) (pg_sub (pv 3) (pv 7) HJ))))))
   (aq (aO (pv 3))))),?_⟩
  refine⟨_,Y,nm,_,Y,.inl (SqL.of cG),_,Y,by omega,by rw[L9];omega,fun D nD=>?_⟩;refine ow (lo:=0) (n:=(((ws.map V.str).length:Nat):Int).toNat) (fun i τ G=>∃ v1,∃ L:List Int,τ=[v1,some (.ref x)]/\af H G/\G D=some (.lst (L.map V.int))/\L.length=i/\∀ z∈L,0<=z/\z<=24) ⟨none,[],rfl,af.new nD,ah,rfl,fun z hz=>by cases hz⟩ ?_ ?_
  ·rintro i τ G hi ⟨v1,L,rfl,sg,hG,ll,lb⟩
   rw[MA,L9] at hi;obtain⟨xi,_,ai⟩:=K42.zdS (ns:=xs) (k:=0 + (i:Int)) (by omega) (by rw[xl];omega);dsimp only[aV,cJ];rw[if_pos rfl];refine⟨_,Y,_,Y,x,_,_,_,Y,Y,SqL.of (sg _ _ hx),ai,(by show 3<=sizeLine;decide),fun q nq=>?_⟩;have s1:af G (upd G q (.lst [.int 3,.int 6,.int 24])):=af.new nq;have h1:upd G q (.lst [.int 3,.int 6,.int 24]) q=some (.lst [.int 3,.int 6,.int 24]):=ah;generalize upd G q (.lst [.int 3,.int 6,.int 24])=G1 at s1 h1 ⊢;refine⟨_,Y,x,_,_,_,Y,Y,SqL.of ((sg.trans s1) _ _ hx),a6,_,_,Y,Y,(by show(0:Int)<3;decide),q,_,_,_,Y,Y,SqL.of h1,amd,_,_,Y,Y,md0,_,s1 _ _ hG,by rw[L9,ll,Mh];omega,_,L++[xi % md],Y,bY nD (sg.trans s1),by rw[ah,Mf];rfl,by rw[Mg,ll];rfl,fun z hz=>?_⟩;rcases List.mem_append.mp hz with y|y
   ·exact lb z y
   ·rw[List.mem_singleton.mp y]
    have:=MR xi (b:=md) (by omega);have:=MK xi md0;omega
  rintro τ H1 ⟨v1,L0,rfl,s1,h1,xJ,DU⟩
  rw[MA,L9] at xJ;have b0:∀ i,i<ws.length->0<=gL L0 i/\gL L0 i<=24:=fun i hi=>by
   refine DU _ ?_;unfold gL;rw[My,Mj (by omega)];exact Nv (by omega)
  have k0:LOk ws.length zs rk (x7 % me) L0 0 0 24:=⟨xJ,fun i hi=>(b0 i hi).1,fun i hi=>(b0 i hi).2,fun i e he c=>by rcases c with z|⟨_,z⟩ <;> omega⟩;refine⟨_,Y,nm,_,Y,.inl (SqL.of (s1 _ _ cG)),_,Y,by omega,by rw[L9];omega,sG (lo:=0) (n:=(((ws.map V.str).length:Nat):Int).toNat) (fun t σ G=>∃ v4 v5 v6 v7 v8 v9,∃ L:List Int,σ=[some (.ref nm),some (.ref dn),some (.ref x),some (.ref D),v4,v5,v6,v7,v8,v9]/\af H G/\G D=some (.lst (L.map V.int))/\LOk ws.length zs rk (x7 % me) L t 0 (24 + 72 * t)) ⟨none,none,none,none,none,none,L0,rfl,s1,h1,by simpa using k0⟩ ?_ ?_⟩
  ·rintro t σ G ht ⟨v4,v5,v6,v7,v8,v9,L,rfl,sg,hG,kL⟩
   rw[MA,L9] at ht;dsimp only[aV];refine⟨_,Y,dn,Y,⟨_,SqL.of (sg _ _ gO)⟩,gE (K:=K) (a:=dn) (xs:=ys) (fun j σ G=>∃ v5 v6 v7 v8 v9,∃ L:List Int,σ=[some (.ref nm),some (.ref dn),some (.ref x),some (.ref D),some (.int (0 + (t:Int))),v5,v6,v7,v8,v9]/\af H G/\G D=some (.lst (L.map V.int))/\LOk ws.length zs rk (x7 % me) L t j (24 + 72 * t + 6 * j)) ⟨v5,v6,v7,v8,v9,L,rfl,sg,hG,by simpa using kL⟩ ?_ ?_ ?_⟩
   ·rintro j σ G _ ⟨_,_,_,_,_,_,rfl,sg,_⟩
    exact SqL.of (sg _ _ gO)
   ·rintro j y σ G hy ⟨v5,v6,v7,v8,v9,L,rfl,sg,hG,kL⟩
    obtain⟨e,he,t1,rfl,jw⟩:=hz.get hy;have hj:j<zs.length:=(List.getElem?_eq_some_iff.mp he).1;obtain⟨l1,l2,l3⟩:=R.lt e (Me he);have lL:=kL.len;refine⟨t1,_,Y,(Tk.of sg).sqT jw,Y,_,_,Y,_,_,Y,_,_,Y,_,_,Y,_,_,Y,Y,?_⟩;refine⟨_,Y,_,Y,D,_,_,_,Y,Y,SqL.of hG,gL_at (by omega),_,Y,_,Y,D,_,_,_,Y,Y,SqL.of hG,gL_at (by omega),_,Y,_,_,Y,Y,_,Y,x,_,_,_,Y,Y,SqL.of (sg _ _ hx),a7,(by show 3<=sizeLine;decide),fun q nq=>?_⟩;have s2:af G (upd G q (.lst [.int 1,.int 1,.int 4])):=af.new nq;have h2:upd G q (.lst [.int 1,.int 1,.int 4]) q=some (.lst [.int 1,.int 1,.int 4]):=ah;generalize upd G q (.lst [.int 1,.int 1,.int 4])=G1 at s2 h2 ⊢;refine⟨_,Y,x,_,_,_,Y,Y,SqL.of ((sg.trans s2) _ _ hx),a6,_,_,Y,Y,⟨by decide,by decide⟩,_,_,Y,Y,(by show(0:Int)<3;decide),q,_,_,_,Y,Y,SqL.of h2,ame,_,_,Y,Y,me0,_,_,Y,Y,?_⟩;refine⟨_,_,Y,?_⟩;have em:(if gL L e.one + e.sp + x7 % me > gL L e.other then gL L e.one + e.sp + x7 % me else gL L e.other)=max (gL L e.other) (gL L e.one + e.sp + x7 % me):=by
     split <;> omega
    rw[em];have st:=kL.step R e0 e9 he;have D2:=s2 _ _ hG;refine⟨_,Y,_,Y,D,_,_,_,Y,Y,D2,BZ (by omega) (by rw[L9];omega),?_⟩;refine⟨_,_,_,_,_,tF (x7 % me) L e,Y,bY nD (sg.trans s2),?_,?_⟩
    ·rw[ah,map_set]
     rfl
    ·have e6:24 + 72 * (t:Int) + 6 * ((j + 1:Nat):Int)=24 + 72 * (t:Int) + 6 * (j:Int) + 6:=by push_cast;omega
     rw[e6];exact st
   ·rintro σ G ⟨v5,v6,v7,v8,v9,L,rfl,sg,hG,kL⟩
    refine⟨_,v5,v6,v7,v8,v9,L,Y,sg,hG,?_⟩;rw[yl] at kL;have:=kL.turn;refine⟨this.len,this.b0,fun i hi=>?_,this.sat⟩;have:=this.b9 i hi
    push_cast
    omega
  ·rintro σ G ⟨v4,v5,v6,v7,v8,v9,L,rfl,sg,hG,kL⟩
   rw[MA,L9] at kL;refine⟨_,Y,k D L G sg nD hG kL.len (fun i hi=>⟨kL.b0 i hi,?_⟩) fun e me=>?_⟩
   ·have:=kL.b9 i hi
    omega
   ·have:=kL.done R e me
    have:=(R.sp e me).1;unfold nX at *;omega
end
def aH (ws:List Str) (z:Ai):Dn:=⟨z.num,ws.getD z.one "",ws.getD z.other "",z.wt⟩
theorem wK (p q:Pl) (i:Nat):bN (p++q) i=bN p i++bN q i:=by
 unfold bN;rw[NL,Mf]
theorem A5 (lv hf:Str->Int) (i:Nat):∀ ws:List Str,bN (ws.map (kO lv hf)) i=(ws.filter fun x=>lv x == (i:Int)).map fun x=>.own x (hf x)
 | []=>rfl
 | x::ws=>by
  have ih:=A5 lv hf i ws;unfold bN at ih ⊢;rw[MG,MD,MD];show(if (lv x == (i:Int))=true then _ else _:Pl).map (·.2)=_;split
  ·rw[MG,MG,ih]
   rfl
  ·exact ih
def smR (lv:Str->Int) (i:Nat) (q:Dn):List It:=if lv q.up<(i:Int)/\(i:Int)<lv q.lo then[.small q.num ((i:Int) - lv q.up)] else[]
theorem Ky (lv:Str->Int) (i:Nat) (q:Dn):bN (eU lv q) i=smR lv i q:=by
 have key:∀ m:Nat,bN ((List.range m).map (smP lv q)) i=if lv q.up<(i:Int)/\(i:Int)<=lv q.up + m then[.small q.num ((i:Int) - lv q.up)] else[]:=fun m=>by
  induction m with
  | zero=>
   rw[if_neg (by omega)];rfl
  | succ m ih=>
   rw[Nz,Mf,wK,ih];have e1:bN (List.map (smP lv q) [m]) i=if lv q.up + ((m:Int) + 1)=(i:Int) then[.small q.num ((m:Int) + 1)] else[]:=by
    unfold bN smP;simp only[MG,Oi,MD,OY,beq_iff_eq]
    split <;> rfl
   rw[e1];by_cases c:lv q.up + ((m:Int) + 1)=(i:Int)
   ·rw[if_neg (by omega),if_pos c,if_pos (by push_cast;omega),List.nil_append,show(i:Int) - lv q.up=(m:Int) + 1 by omega]
   ·rw[if_neg c,Nj]
    by_cases d:lv q.up<(i:Int)/\(i:Int)<=lv q.up + m
    ·rw[if_pos d,if_pos (by push_cast;omega)]
    ·rw[if_neg d,if_neg (by push_cast;omega)]
 unfold eU;rw[key];unfold smR;have e:(lv q.up<(i:Int)/\(i:Int)<=lv q.up + ((dOf lv q - 1).toNat:Nat))↔(lv q.up<(i:Int)/\(i:Int)<lv q.lo):=by
  unfold dOf;omega
 by_cases c:lv q.up<(i:Int)/\(i:Int)<lv q.lo
 ·rw[if_pos c,if_pos (e.mpr c)]
 ·rw[if_neg c,if_neg (fun z=>c (e.mp z))]
theorem BA (lv:Str->Int) (i:Nat):∀ ds:List Dn,bN (ds.flatMap (eU lv)) i=ds.flatMap (smR lv i)
 | []=>rfl
 | q::ds=>by rw[NC,wK,BA lv i ds,Ky,NC]
theorem Go (lv hf:Str->Int) (ws:List Str) (ds:List Dn) (i:Nat):bN (cq lv hf ws ds) i=((ws.filter fun x=>lv x == (i:Int)).map fun x=>.own x (hf x))++ds.flatMap (smR lv i):=by
 unfold cq;rw[wK,A5,BA]
def i6 (lv hf:Str->Int) (i:Nat) (ws:List Str):jd:=(ws.filter fun x=>lv x == (i:Int)).map fun x=>(x,hf x)
theorem IJ (lv hf:Str->Int) (ws:List Str) (ds:List Dn) (i:Nat):duI (bN (cq lv hf ws ds) i)=i6 lv hf i ws++duI (ds.flatMap (smR lv i)):=by
 rw[Go];unfold duI i6;rw[Mf,Nw];rfl
theorem dY  (h:i<ws.length):ws[i]?=some (ws.getD i ""):=by
 rw[My,Mj h];rfl
theorem m9 {x:Str} (h:ws[i]?=some x):atI (ws.map V.str) ((i:Nat):Int)=some (.str x):=by
 rw[fN (by omega),MA,Mm,h];rfl
variable {n:Str}{r:Rec}{zs:List Ai}
theorem jJ {f:Str->Int}{x:Str} (h:ws[i]?=some x):atI ((ws.map f).map V.int) ((i:Nat):Int)=some (.int (f x)):=by
 rw[fN (by omega),MA,Mm,Mm,h];rfl
section
variable {K:PySem.W.Frag}
theorem Am {B G:Hp}{us:List V}{r:jd}{p:Str×Int} (nD:B D=none) (sg:af B G) (hG:G D=some (.lst us)) (f:F2 (m8 K G) us r) (nz:G z=none) :
  (upd G z (.tup [.str p.1,.int p.2])) D=some (.lst us)/\af B (upd (upd G z (.tup [.str p.1,.int p.2])) D (.lst (us++[.ref z])))/\F2 (m8 K (upd (upd G z (.tup [.str p.1,.int p.2])) D (.lst (us++[.ref z])))) (us++[.ref z]) (r++[p]):=by
 have s3:af G (upd G z (.tup [.str p.1,.int p.2])):=af.new nz;have hz:SqT K (upd G z (.tup [.str p.1,.int p.2])) z [.str p.1,.int p.2]:=SqT.of ah;have gy:=s3 _ _ hG;generalize upd G z (.tup [.str p.1,.int p.2])=H3 at s3 hz gy ⊢;have tk:Tk H3 (upd H3 D (.lst (us++[.ref z]))):=Tk.upd gy rfl;exact⟨gy,bY nD (sg.trans s3),(f.mono fun _ _ ⟨q,e,h⟩=>⟨q,e,tk.sqT ((Tk.of s3).sqT h)⟩).snoc ⟨z,Y,tk.sqT hz⟩⟩
structure DueIn (ws:List Str) (zs:List Ai) (lv:Str->Int) (n:Nat):Prop where
 cn:tz ws lv n
 n9:n<=900
 wl:ws.length<=20
 zl:zs.length<=40
 l0:∀ x∈ws,0<=lv x
 e:∀ z∈zs,z.one<ws.length/\z.other<ws.length/\z.num<13
def spDue (K:PySem.W.Frag):Sp:=fun vs H Q _=>∃ nm hl la dn ws ys zs hf lv n,vs=[.ref nm,.ref hl,.ref la,.ref dn]/\H nm=some (.lst ((ws:List Str).map V.str))/\H hl=some (.lst ((ws.map hf).map V.int))/\H la=some (.lst ((ws.map lv).map V.int))/\H dn=some (.lst ys)/\A5s K H ys zs/\DueIn ws zs lv n /\
 ∀ g rs H',af H H'->H g=none->H' g=some (.lst rs)->F2 (mW K H') rs ((eI n (cq lv hf ws (zs.map (aH ws)))).map duI)->Q (.ref g) H'
theorem ok_due (T:Tx K mg a):Cal P w K mg base CX0 1 "_law_due" ["_law_names_here","_law_halves","_law_levels_here","_law_down_here"] [] (spDue K):=T.d__law_due.cal fun f fd F=>by
 refine F.ok jM (fun vs H Q E h=>?_) (fun aw A outer s H vs Q E hr h=>?_)
 ·obtain⟨nm,hl,la,dn,ws,ys,zs,hf,lv,n,rfl,_⟩:=h
  rfl
 ·obtain⟨nm,hl,la,dn,ws,ys,zs,hf,lv,n,rfl,cG,Dz,gb,gO,hz,I,k⟩:=h
  obtain⟨⟨c0,c1,c2⟩,n9,wl,zl,l0,ze⟩:=I;have yl:=hz.len;refine⟨_,(ao (aU (i:=4) jM.nd Y (.inl Y) (bH aj))
   (ao (cP PassesOwn.never rfl (kQ rfl T.n_range (ag (aG dZ (JL rfl T.n_max (ag (pv 2) aj) (pe_un Cj am)) am) aj)) (aD (i:=5) jM.nd Y (.inr Y)) (ao (oH (i:=6) jM.nd Y Y (N:=["_law_k","_law_names_here","_law_halves","_law_level","_law_levels_here"]) (cap:=[none,some 0,some 1,some 5,some 2]) Y (cH (osc:=aA xm) (XN:=["_law_names_here","_law_halves","_law_levels_here","_law_down_here","_law_rows","_law_level","_law_row","_law_number","_law_upper","_law_lower","_law_weight","_law_span"]) Y Y (by decide +kernel)) (kQ rfl T.n_range (ag (bu eG rfl T.n_len cQ (ag (pv 0) aj)) aj)) (fun cl C s H fp aa=>(aD (i:=0) (show(["_law_k","_law_names_here","_law_halves","_law_level","_law_levels_here"]:List Str).Nodup by decide +kernel) rfl (.inl rfl))) (fun cl C s H fp aa=>wd (bw rz (aF (kI (K:=K) Y) (pv 4) (pv 0) (fun _ _=>Y)) (pv 3) (br _))) (fun cl C s H fp aa=>(gk (ag (aF (kI (K:=K) Y) (pv 1) (pv 0) (fun _ _=>Y)) (ag (aF (kI (K:=K) Y) (pv 2) (pv 0) (fun _ _=>Y)) aj)))) (hsw:=Y))
   (ao (cP PassesOwn.never rfl (cw (pv 3)) (gR rfl (aQ (aD (i:=7) jM.nd Y (.inl Y)) (aQ (aD (i:=8) jM.nd Y (.inl Y)) (aQ (aD (i:=9) jM.nd Y (.inl Y)) (aQ (aD (i:=10) jM.nd Y (.inl Y)) (aQ (aD (i:=11) jM.nd Y (.inl Y)) fU)))))) (aq (bG (PW.pt (wW (bw qU (aF bC (pv 2) (pv 8) (fun _ _=>Y)) (pv 5) (br _)) (wb (bw qU (pv 5) (aF bC (pv 2) (pv 9) (fun _ _=>Y)) (br _))))) (aq (ck (dL PySem.F.plainAttrs_list PySem.F.slot_list_append PySem.F.type_list_append gj (pv 6) (ag (gk (ag (aG oj (aG oj (iC oK Y T.n_str mS (ag (pv 7) aj)) lw) (iC oK Y T.n_str mS (ag (aG mU (pv 5) (aF bC (pv 2) (pv 8) (fun _ _=>Y))) aj))) (ag am aj))) aj)))) bO)))
   (aq (ck (dL PySem.F.plainAttrs_list PySem.F.slot_list_append PySem.F.type_list_append gj (pv 4) (ag (pv 6) aj)))))))
   (aq (aO (pv 4))))),?_⟩
  refine⟨(by show 0<=sizeLine;decide),fun g ng=>?_⟩;have s1:af H (upd H g (.lst [])):=af.new ng;have h1:upd H g (.lst []) g=some (.lst []):=ah;generalize upd H g (.lst [])=H1 at s1 h1 ⊢;refine⟨_,Y,_,Y,la,ws.map lv,_,Y,Y,SqL.of (s1 _ _ gb),?_⟩;refine and_comm.mp (Bi (m:=(n:Int) - 1) (fun e=>?_) (fun e=>?_) ?_)
  ·rw[c0 (List.map_eq_nil_iff.mp e)]
   rfl
  ·obtain⟨x,hx,ex⟩:=c2 fun z=>e (by rw[z];rfl)
   refine⟨List.mem_map.mpr ⟨x,hx,by omega⟩,fun y hy=>?_⟩;obtain⟨z,hz,rfl⟩:=List.mem_map.mp hy;have:=c1 z hz;omega
  refine⟨_,_,Y,Y,_,Y,by omega,by omega,sG (lo:=0) (n:=((n:Int) - 1 + 1).toNat) (fun i σ G=>∃ v5 v6 v7 v8 v9 cN ej us,σ=[some (.ref nm),some (.ref hl),some (.ref la),some (.ref dn),some (.ref g),v5,v6,v7,v8,v9,cN,ej]/\af H G/\G g=some (.lst us)/\F2 (fun v r=>mW K G v r/\v≠.ref g) us ((List.range i).map fun i=>duI (bN (cq lv hf ws (zs.map (aH ws))) i))) ⟨none,none,none,none,none,none,none,[],Y,s1,h1,trivial⟩ ?_ ?_⟩
  ·rintro i σ G hi ⟨v5,v6,v7,v8,v9,cN,ej,us,rfl,sg,hg,fu⟩
   have iT:i<n:=by omega
   have ul:us.length=i:=by rw[fu.len,L9,MU]
   dsimp only[aV];refine⟨_,Y,nm,_,Y,.inl (SqL.of (sg _ _ cG)),_,Y,by omega,by rw[L9];omega,fun D nD=>?_⟩;have LW:H D=none:=ji sg nD;have gD:g≠D:=aE hg nD;refine ow (lo:=0) (n:=(((ws.map V.str).length:Nat):Int).toNat) (fun j τ G1=>∃ v1 ps,τ=[v1,some (.ref nm),some (.ref hl),some (.int (0 + (i:Int))),some (.ref la)]/\af G G1/\G1 D=some (.lst ps)/\F2 (m8 K G1) ps (i6 lv hf i (ws.take j))) ⟨none,[],rfl,af.new nD,ah,trivial⟩ ?_ ?_
   ·rintro j τ G1 hj ⟨v1,ps,rfl,dB,hD,fp⟩
    rw[MA,L9] at hj;have t1:=sg.trans dB;have hx:=dY (ws:=ws) (i:=j) hj;have pl:ps.length<=20:=by
     rw[fp.len];unfold i6;rw[L9];have:=Nr (fun x=>lv x == (i:Int)) (ws.take j);rw[Ml] at this;omega
    have e0:(0:Int) + (j:Int)=((j:Nat):Int):=by omega
    dsimp only[aV,cJ];rw[e0];refine⟨_,Y,_,Y,la,_,_,_,Y,Y,SqL.of (t1 _ _ gb),jJ hx,_,Y,Y,_,Y,?_⟩;have er:∀ b:Bool,(lv (ws.getD j "") == (i:Int))=b->i6 lv hf i (ws.take (j + 1))=i6 lv hf i (ws.take j)++if b=true then[(ws.getD j "",hf (ws.getD j ""))] else[]:=fun b hb=>by
     unfold i6;rw[bP hx,NL,Mf,MD,hb,OY];cases b <;> rfl
    have eb:decide (V.int (lv (ws.getD j ""))=V.int (0 + (i:Int)))=(lv (ws.getD j "") == (i:Int)):=by
     rw[show(0:Int) + (i:Int)=(i:Int) by omega];generalize lv (ws.getD j "")=u;by_cases c:u=(i:Int)
     ·rw[c]
      simp
     ·rw[ME (fun z=>c (by cases z;rfl)),beq_eq_false_iff_ne.mpr c]
    refine bE (fun c=>?_) (fun c=>?_)
    ·have hb:(lv (ws.getD j "") == (i:Int))=true:=by rw[<- eb];exact c
     refine⟨_,Y,_,Y,nm,_,_,_,Y,Y,SqL.of (t1 _ _ cG),m9 hx,_,Y,_,Y,hl,_,_,_,Y,Y,SqL.of (t1 _ _ Dz),jJ hx,(by show 2<=sizeLine;decide),fun z nz=>?_⟩;obtain⟨g1,g2,g3⟩:=Am (K:=K) (p:=(ws.getD j "",hf (ws.getD j ""))) nD dB hD fp nz;refine⟨ps,g1,by rw[Mh];omega,_,_,Y,g2,ah,?_⟩;rw[er true hb,if_pos rfl];exact g3
    ·have hb:(lv (ws.getD j "") == (i:Int))=false:=by rw[<- eb];exact c
     refine⟨_,ps,Y,dB,hD,?_⟩;rw[er false hb,if_neg (by decide),Nj];exact fp
   rintro τ G1 ⟨v1,ps,rfl,dB,hD,fp⟩
   rw[MA,L9,Mu] at fp;refine⟨_,Y,dn,Y,⟨_,SqL.of ((sg.trans dB) _ _ gO)⟩,gE (K:=K) (a:=dn) (xs:=ys) (fun j σ G2=>∃ v7 v8 v9 cN ej ps,σ=[some (.ref nm),some (.ref hl),some (.ref la),some (.ref dn),some (.ref g),some (.int (0 + (i:Int))),some (.ref D),v7,v8,v9,cN,ej]/\af G G2/\G2 D=some (.lst ps)/\F2 (m8 K G2) ps (i6 lv hf i ws++duI (((zs.take j).map (aH ws)).flatMap (smR lv i)))) ⟨v7,v8,v9,cN,ej,ps,rfl,dB,hD,by rw[NV,Oi,List.flatMap_nil];show F2 _ _ (_++[]);rw[Nj];exact fp⟩ ?_ ?_ ?_⟩
   ·rintro j σ G2 _ ⟨_,_,_,_,_,_,rfl,bJ,_⟩
    exact SqL.of ((sg.trans bJ) _ _ gO)
   ·rintro j y σ G2 hy ⟨v7,v8,v9,cN,ej,ps,rfl,bJ,iU,fp⟩
    obtain⟨z,ez,t1,rfl,jw⟩:=hz.get hy;have hj:j<zs.length:=(List.getElem?_eq_some_iff.mp ez).1;obtain⟨z1,z2,z3⟩:=ze z (Me ez);have t2:=sg.trans bJ;have hu:=dY z1;have lV:=dY z2;have mu:=Me hu;have ml:=Me lV;have u0:=l0 _ mu;have q9:=c1 _ ml;have zN:((zs.take (j + 1)).map (aH ws)).flatMap (smR lv i)=((zs.take j).map (aH ws)).flatMap (smR lv i)++smR lv i (aH ws z):=by
     rw[bP ez,Mf,NT];simp
    have FI:∀ l:List Dn,(l.flatMap (smR lv i)).length<=l.length:=fun l=>by
     induction l with
     | nil=>exact Md _
     | cons q l ih=>
      rw[NC,Mg,Mt];have:(smR lv i q).length<=1:=by unfold smR;split <;> simp
      omega
    have pl:ps.length<=60:=by
     rw[fp.len,Mg];unfold i6 duI;rw[L9,L9];have y1:=Nr (fun x=>lv x == (i:Int)) ws;have y2:=FI ((zs.take j).map (aH ws));rw[L9,Ml] at y2;omega
    have same:smR lv i (aH ws z)=[]->F2 (m8 K G2) ps (i6 lv hf i ws++duI (((zs.take (j + 1)).map (aH ws)).flatMap (smR lv i))):=fun e=>by
     rw[zN,e,Nj];exact fp
    refine⟨t1,_,Y,(Tk.of t2).sqT jw,Y,_,_,Y,_,_,Y,_,_,Y,_,_,Y,_,_,Y,Y,?_⟩;refine⟨_,Y,_,Y,la,_,_,_,Y,Y,SqL.of (t2 _ _ gb),jJ hu,_,Y,_,_,Y,Y,_,Y,?_⟩;refine bE (fun ca=>?_) (fun ca=>?_)
    ·have sw:=MP ca
     refine⟨_,Y,_,Y,_,Y,la,_,_,_,Y,Y,SqL.of (t2 _ _ gb),jJ lV,_,_,Y,Y,_,Y,?_⟩;refine bE (fun cb=>?_) (fun cb=>?_)
     ·have lX:=MP cb
      have lo1:Lo (z.num:Int):=by constructor <;> omega
      have qa:Lo (0 + (i:Int) - lv (ws.getD z.one "")):=by constructor <;> omega
      have l1:=kJ lo1;have l2:=kJ qa;have l3:(Str.ofString (toString (z.num:Int))++Str.ofString ".").length=(Str.ofString (toString (z.num:Int))).length + 1:=by rw[PySem.Str.length_append];rfl
      refine⟨_,Y,.inl ⟨Y,_,SqL.of iU⟩,_,Y,_,Y,om lo1,_,_,Y,Y,?_,?_⟩
      ·show(Str.ofString (toString (z.num:Int))).length + 1<=sizeLine
       rw[Mh];omega
      refine⟨_,Y,_,Y,_,Y,la,_,_,_,Y,Y,SqL.of (t2 _ _ gb),jJ hu,_,_,Y,Y,_,Y,om qa,_,_,Y,Y,?_,?_⟩
      ·rw[l3,Mh]
       omega
      refine⟨(by show 2<=sizeLine;decide),fun q nq=>?_⟩;obtain⟨g1,g2,g3⟩:=Am (K:=K) (p:=(dO z.num (0 + (i:Int) - lv (ws.getD z.one "")),0)) nD bJ iU fp nq;refine⟨D,ps,_,Y,Y,g1,by rw[Mh];omega,_,_,_,_,_,_,Y,g2,ah,?_⟩;have es:smR lv i (aH ws z)=[.small z.num (0 + (i:Int) - lv (ws.getD z.one ""))]:=by
       rw[show(0:Int) + (i:Int)=(i:Int) by omega];exact if_pos ⟨by show lv (ws.getD z.one "")<_;omega,by show _<lv (ws.getD z.other "");omega⟩
      rw[zN,es];unfold duI at g3 ⊢;rw[Mf,<- MT];exact g3
     ·have lX:=MZ cb
      exact⟨_,_,_,_,_,ps,Y,bJ,iU,same (if_neg fun⟨_,z⟩=>lX (by rw[show(0:Int) + (i:Int)=(i:Int) by omega];exact z))⟩
    ·have sw:=MZ ca
     exact⟨_,_,_,_,_,ps,Y,bJ,iU,same (if_neg fun⟨z,_⟩=>sw (by rw[show(0:Int) + (i:Int)=(i:Int) by omega];exact z))⟩
   rintro σ G2 ⟨v7,v8,v9,cN,ej,ps,rfl,bJ,iU,fp⟩
   rw[yl,Mu,<- IJ] at fp;have qw:=bJ _ _ hg;refine⟨_,Y,.inl ⟨Y,_,SqL.of qw⟩,_,Y,g,us,_,Y,Y,qw,by rw[ul,Mh];omega,?_⟩;have tk:Tk G2 (upd G2 g (.lst (us++[.ref D]))):=Tk.upd qw rfl;refine⟨_,_,_,_,_,_,_,us++[.ref D],Y,bY ng (sg.trans bJ),ah,?_⟩;rw[Nz,Mf];refine(fu.mono fun v r ⟨⟨t,Dj,e,h1,h2⟩,nv⟩=>⟨⟨t,Dj,e,?_,h2.mono fun _ _ ⟨q,e,z⟩=>⟨q,e,tk.sqT ((Tk.of bJ).sqT z)⟩⟩,nv⟩).snoc ⟨⟨D,ps,Y,?_,fp.mono fun _ _ ⟨q,e,z⟩=>⟨q,e,tk.sqT z⟩⟩,fun z=>gD (by cases z;rfl)⟩
   ·rw[ak (Ne.symm gD)]
    exact iU
   ·rw[ak (fun z=>nv (by rw[e,z]))]
    exact bJ _ _ h1
  rintro σ G ⟨v5,v6,v7,v8,v9,cN,ej,us,rfl,sg,hg,fu⟩
  refine⟨_,Y,k g us G sg ng hg ?_⟩;unfold eI;rw[Nw];rw[show((n:Int) - 1 + 1).toNat=n by omega] at fu;exact fu.mono fun _ _ h=>h.1
end
def mid (num d:Int):List Str:=(List.range (d - 1).toNat).map fun k:Nat=>dO num ((k:Int) + 1)
theorem IZ (lv hf:Str->Int) (q:Dn):fH (cA lv hf q)=[q.up]++mid q.num (dOf lv q)++[q.lo]:=by
 unfold fH cA mL gX mid;rw[MG,Mf,Nw];rfl
theorem Bl {hf:Str->Int}{q:Dn} (hd:0<dOf lv q){k:Nat} (hk:(k:Int)<=dOf lv q):∃ it,(cA lv hf q)[k]?=some it/\it.sm=decide (0<k/\(k:Int)<dOf lv q):=by
 unfold cA mL;cases k with
 | zero=>exact⟨_,Y,by simp[It.sm]⟩
 | succ k=>
  rw[NE];have sl:=BU q.num (dOf lv q);by_cases c:k<(gX q.num (dOf lv q)).length
  ·rw[MB c]
   unfold gX at c ⊢;rw[L9,MU] at c;rw[Mm,Ou c];refine⟨_,Y,?_⟩;show true=_;rw[MH]
   push_cast
   omega
  ·rw[Mx (by omega),show k - (gX q.num (dOf lv q)).length=0 by omega]
   refine⟨_,Y,?_⟩;show false=_;rw[ME]
   push_cast at hk ⊢
   omega
theorem Ib {hf:Str->Int}{q:Dn} (hd:0<dOf lv q){k:Nat} (hk:(k:Int)<dOf lv q):∃ x y,(fH (cA lv hf q))[k]?=some x/\(fH (cA lv hf q))[k + 1]?=some y/\(dQ lv hf q)[k]?=some (x,y,q.wt * lu (cnt (decide (0<k/\(k:Int)<dOf lv q)) + cnt (decide (0<k + 1/\((k + 1:Nat):Int)<dOf lv q)))):=by
 obtain⟨i1,e1,s1⟩:=Bl (hf:=hf) hd (k:=k) (by omega);obtain⟨i2,e2,s2⟩:=Bl (hf:=hf) hd (k:=k + 1) (by push_cast;omega);refine⟨i1.label,i2.label,by rw[Mm,e1];rfl,by rw[Mm,e2];rfl,?_⟩;unfold dQ nZ;have ez:((cA lv hf q).zip ((cA lv hf q).drop 1))[k]?=some (i1,i2):=by
  rw[OI];exact⟨e1,by rw[List.getElem?_drop,Nat.add_comm];exact e2⟩
 rw[Mm,ez,<- s1,<- s2];rfl
theorem A1 {hf:Str->Int}{q:Dn} (hd:0<dOf lv q):(dQ lv hf q).length=(dOf lv q).toNat:=by
 unfold dQ nZ;rw[L9,Op,Nl,rp];omega
section
variable {K:PySem.W.Frag}
def Gq (K:PySem.W.Frag):Sp:=fun vs H Q _=>∃ nm la dn ws ys zs lv,∃ hf:Str->Int,vs=[.ref nm,.ref la,.ref dn]/\H nm=some (.lst ((ws:List Str).map V.str))/\H la=some (.lst ((ws.map lv).map V.int))/\H dn=some (.lst ys)/\A5s K H ys zs/\ws.length<=20/\zs.length<=40/\(∀ x∈ws,0<=lv x/\lv x<900) /\
 (∀ z∈zs,z.one<ws.length/\z.other<ws.length/\z.num<13/\0<z.wt/\z.wt<2 ^ 64/\0<dOf lv (aH ws z))/\∀ g ls H',af H H'->H g=none->H' g=some (.lst ls)->aM K H' (((zs.map (aH ws)).flatMap (dQ lv hf)).map cK) ls->Q (.ref g) H'
theorem F9 (T:Tx K mg a):Cal P w K mg base CX0 1 "_law_lines" ["_law_names_here","_law_levels_here","_law_down_here"] [] (Gq K):=T.d__law_lines.cal fun f fd F=>by
 refine F.ok iD (fun vs H Q E h=>?_) (fun aw A outer s H vs Q E hr h=>?_)
 ·obtain⟨nm,la,dn,ws,ys,zs,lv,hf,rfl,_⟩:=h
  rfl
 ·obtain⟨nm,la,dn,ws,ys,zs,lv,hf,rfl,cG,gb,gO,hz,wl,zl,l0,ze,k⟩:=h
  have yl:=hz.len;refine⟨_,(ao (aU (i:=3) iD.nd Y (.inl Y) (bH aj))
   (ao (cP PassesOwn.never rfl (cw (pv 2)) (gR rfl (aQ (aD (i:=4) iD.nd Y (.inr Y)) (aQ (aD (i:=5) iD.nd Y (.inl Y)) (aQ (aD (i:=6) iD.nd Y (.inl Y)) (aQ (aD (i:=7) iD.nd Y (.inl Y)) (aQ (aD (i:=8) iD.nd Y (.inl Y)) fU)))))) (ao (aU (i:=9) iD.nd Y (.inl Y) (aG mU (aF bC (pv 1) (pv 6) (fun _ _=>Y)) (aF bC (pv 1) (pv 5) (fun _ _=>Y))))
   (ao (aU (i:=10) iD.nd Y (.inl Y) (aG rA (aG rA (bH (ag (aF bC (pv 0) (pv 5) (fun _ _=>Y)) aj)) (eX (N:=["_law_step","_law_number"]) (cap:=[none,some 4]) Y (cH (osc:=aA xF) (XN:=["_law_names_here","_law_levels_here","_law_down_here","_law_lines_here","_law_number","_law_upper","_law_lower","_law_weight","_law_span","_law_deep","_law_marks","_law_k","_law_small"]) Y Y (by decide +kernel)) (Al rfl T.n_range (ag am (ag (pv 9) aj))) (fun cl C s H fp aa=>(aD (i:=0) (show(["_law_step","_law_number"]:List Str).Nodup by decide +kernel) rfl (.inl rfl))) (fun cl C s H fp aa=>dM) (fun cl C s H fp aa=>(aG oj (aG oj (iC oK Y T.n_str mS (ag (pv 1) aj)) lw) (iC oK Y T.n_str mS (ag (pv 0) aj)))))) (bH (ag (aF bC (pv 0) (pv 6) (fun _ _=>Y)) aj))))
   (aq (cP PassesOwn.never rfl (kQ rfl T.n_range (ag (pv 9) aj)) (aD (i:=11) iD.nd Y (.inl Y)) (ao (aU (i:=12) iD.nd Y (.inl Y) (aG dZ (iC Ay Y T.n_int qF (ag (mG oz (pv 11) am (br _)) aj)) (iC Ay Y T.n_int qF (ag (mG qU (pv 11) (aG mU (pv 9) am) (br _)) aj))))
   (aq (ck (dL PySem.F.plainAttrs_list PySem.F.slot_list_append PySem.F.type_list_append gj (pv 3) (ag (gk (ag (aF bC (pv 10) (pv 11) (fun _ _=>Y)) (ag (aF bC (pv 10) (aG dZ (pv 11) am) (fun _ _=>Y)) (ag (aG tw (pv 7) (aF bC (bH (ag am (ag am (ag am aj)))) (pv 12) (fun _ _=>Y))) aj)))) aj))))))))))
   (aq (aO (pv 3))))),?_⟩
  refine⟨(by show 0<=sizeLine;decide),fun g ng=>?_⟩;have s1:af H (upd H g (.lst [])):=af.new ng;have h1:upd H g (.lst []) g=some (.lst []):=ah;generalize upd H g (.lst [])=H1 at s1 h1 ⊢;refine⟨_,Y,dn,Y,⟨_,SqL.of (s1 _ _ gO)⟩,gE (K:=K) (a:=dn) (xs:=ys) (fun j σ G=>∃ v4 v5 v6 v7 v8 v9 cN ej kz ls,σ=[some (.ref nm),some (.ref la),some (.ref dn),some (.ref g),v4,v5,v6,v7,v8,v9,cN,ej,kz]/\af H G/\G g=some (.lst ls)/\aM K G ((((zs.take j).map (aH ws)).flatMap (dQ lv hf)).map cK) ls/\ls.length<=j * 1000) ⟨none,none,none,none,none,none,none,none,none,[],rfl,s1,h1,rfl,Md _⟩ ?_ ?_ ?_⟩
  ·rintro j σ G _ ⟨_,_,_,_,_,_,_,_,_,_,rfl,sg,_⟩
   exact SqL.of (sg _ _ gO)
  ·rintro j y σ G hy ⟨v4,v5,v6,v7,v8,v9,cN,ej,kz,ls,rfl,sg,hg,dg,lg⟩
   obtain⟨z,ez,t1,rfl,jw⟩:=hz.get hy;have hj:j<zs.length:=(List.getElem?_eq_some_iff.mp ez).1;obtain⟨z1,z2,z3,w0,w9,dp⟩:=ze z (Me ez);have hu:=dY z1;have lV:=dY z2;have u0:=l0 _ (Me hu);have o0:=l0 _ (Me lV);have ed:lv (ws.getD z.other "") - lv (ws.getD z.one "")=dOf lv (aH ws z):=rfl;have d9:dOf lv (aH ws z)<900:=by omega
   have lo1:Lo (z.num:Int):=by constructor <;> omega
   refine⟨t1,_,Y,(Tk.of sg).sqT jw,Y,_,_,Y,_,_,Y,_,_,Y,_,_,Y,_,_,Y,Y,?_⟩;refine⟨_,Y,_,Y,la,_,_,_,Y,Y,SqL.of (sg _ _ gb),jJ lV,_,Y,_,Y,la,_,_,_,Y,Y,SqL.of (sg _ _ gb),jJ hu,_,_,Y,Y,?_⟩;dsimp only[aV];rw[ed];refine⟨_,Y,_,Y,nm,_,_,_,Y,Y,SqL.of (sg _ _ cG),m9 hu,(by show 1<=sizeLine;decide),fun q1 n1=>?_⟩;have s2:af G (upd G q1 (.lst [.str (ws.getD z.one "")])):=af.new n1;have h2:upd G q1 (.lst [.str (ws.getD z.one "")]) q1=some (.lst [.str (ws.getD z.one "")]):=ah;generalize upd G q1 (.lst [.str (ws.getD z.one "")])=G1 at s2 h2 ⊢;refine⟨_,Y,1,_,Y,⟨by decide,by decide,by omega,by omega⟩,fun D nD=>?_⟩;refine ow (lo:=1) (n:=(dOf lv (aH ws z) - 1).toNat) (fun i τ G2=>∃ v1,τ=[v1,some (.int (z.num:Int))]/\af G1 G2/\G2 D=some (.lst (((List.range i).map fun k:Nat=>dO z.num ((k:Int) + 1)).map V.str))) ⟨none,Y,af.new nD,ah⟩ ?_ ?_
   ·rintro i τ G2 hi ⟨v1,rfl,bJ,hD⟩
    have qa:Lo (1 + (i:Int)):=by constructor <;> omega
    have l1:=kJ lo1;have l2:=kJ qa;have l3:(Str.ofString (toString (z.num:Int))++Str.ofString ".").length=(Str.ofString (toString (z.num:Int))).length + 1:=by rw[PySem.Str.length_append];rfl
    dsimp only[aV,cJ];rw[if_pos rfl];refine⟨_,Y,_,Y,om lo1,_,_,Y,Y,?_,?_⟩
    ·show(Str.ofString (toString (z.num:Int))).length + 1<=sizeLine
     rw[Mh];omega
    refine⟨_,Y,_,Y,om qa,_,_,Y,Y,by rw[l3,Mh];omega,_,hD,by rw[L9,L9,MU,Mh];omega,_,Y,bY nD bJ,?_⟩;rw[ah,Nz,Mf,Mf,show(1:Int) + (i:Int)=(i:Int) + 1 by omega];rfl
   rintro τ G2 ⟨v1,rfl,bJ,hD⟩
   have vM:G2 D=some (.lst ((mid z.num (dOf lv (aH ws z))).map V.str)):=hD;have ml:(mid (z.num:Int) (dOf lv (aH ws z))).length<900:=by
    unfold mid;rw[L9,MU];omega
   refine⟨q1,D,_,_,Y,Y,bJ _ _ h2,vM,by rw[L9,Mh];show 1 + _<=_;omega,fun q2 n2=>?_⟩;have s3:=af.new (H:=G2) (o:=.lst ([.str (ws.getD z.one "")]++(mid z.num (dOf lv (aH ws z))).map V.str)) n2;have h3:upd G2 q2 (.lst ([.str (ws.getD z.one "")]++(mid z.num (dOf lv (aH ws z))).map V.str)) q2=some (.lst ([.str (ws.getD z.one "")]++(mid z.num (dOf lv (aH ws z))).map V.str)):=ah;generalize upd G2 q2 (.lst ([.str (ws.getD z.one "")]++(mid z.num (dOf lv (aH ws z))).map V.str))=G3 at s3 h3 ⊢;have t3:=sg.trans (s2.trans (bJ.trans s3));refine⟨_,Y,_,Y,nm,_,_,_,Y,Y,SqL.of (t3 _ _ cG),m9 lV,(by show 1<=sizeLine;decide),fun q3 n3=>?_⟩;have s4:=af.new (H:=G3) (o:=.lst [.str (ws.getD z.other "")]) n3;have h4:upd G3 q3 (.lst [.str (ws.getD z.other "")]) q3=some (.lst [.str (ws.getD z.other "")]):=ah;generalize upd G3 q3 (.lst [.str (ws.getD z.other "")])=G4 at s4 h4 ⊢;refine⟨q2,q3,_,_,Y,Y,s4 _ _ h3,h4,by rw[Mg,L9,Mh];show 1 + _ + 1<=_;omega,fun m yW=>?_⟩;have s5:=af.new (H:=G4) (o:=.lst ([.str (ws.getD z.one "")]++(mid z.num (dOf lv (aH ws z))).map V.str++[.str (ws.getD z.other "")])) yW;have h5:upd G4 m (.lst ([.str (ws.getD z.one "")]++(mid z.num (dOf lv (aH ws z))).map V.str++[.str (ws.getD z.other "")])) m=some (.lst ((fH (cA lv hf (aH ws z))).map V.str)):=by
    rw[ah,IZ,Mf,Mf];rfl
   generalize upd G4 m (.lst ([.str (ws.getD z.one "")]++(mid z.num (dOf lv (aH ws z))).map V.str++[.str (ws.getD z.other "")]))=G5 at s5 h5 ⊢;have t5:=s2.trans (bJ.trans (s3.trans (s4.trans s5)));have FK:=t5 _ _ hg;have DC:m≠g:=fun e=>by
    have:=(s2.trans (bJ.trans (s3.trans s4))) _ _ hg;rw[<- e,yW] at this;cases this
   have DY:=t5.dts dg;have t6:=sg.trans t5;refine⟨_,Y,_,Y,by omega,by omega,sG (lo:=0) (n:=(dOf lv (aH ws z)).toNat) (fun i σ G6=>∃ ej kz ly,σ=[some (.ref nm),some (.ref la),some (.ref dn),some (.ref g),some (.int (z.num:Int)),some (.int (z.one:Int)),some (.int (z.other:Int)),some (.int z.wt),some (.int z.sp),some (.int (dOf lv (aH ws z))),some (.ref m),ej,kz]/\af H G6/\G6 m=some (.lst ((fH (cA lv hf (aH ws z))).map V.str))/\G6 g=some (.lst ly)/\aM K G6 ((((zs.take j).map (aH ws)).flatMap (dQ lv hf)++(dQ lv hf (aH ws z)).take i).map cK) ly/\ly.length<=j * 1000 + i) ⟨ej,kz,ls,rfl,t6,h5,FK,by rw[NV,Nj];exact DY,lg⟩ ?_ ?_⟩
   ·rintro i σ G6 hi ⟨ej,kz,ly,rfl,vZ,pJ,sk,rX,Ed⟩
    obtain⟨x,y,ex,ey,el⟩:=Ib (lv:=lv) (hf:=hf) (q:=aH ws z) dp (k:=i) (by omega);have e0:(0:Int) + (i:Int)=((i:Nat):Int):=by omega
    have e1:(0:Int) + (i:Int) + 1=((i + 1:Nat):Int):=by push_cast;omega
    have ef:(if decide ((0:Int) + (i:Int) > 0)=true then(1:Int) else 0) + (if decide ((0:Int) + (i:Int)<dOf lv (aH ws z) - 1)=true then(1:Int) else 0)=((cnt (decide (0<i/\(i:Int)<dOf lv (aH ws z))) + cnt (decide (0<i + 1/\((i + 1:Nat):Int)<dOf lv (aH ws z))):Nat):Int):=by
     have a1:(if decide ((0:Int) + (i:Int) > 0)=true then(1:Int) else 0)=((cnt (decide (0<i/\(i:Int)<dOf lv (aH ws z))):Nat):Int):=by
      by_cases c:0<i
      ·rw[MH (by omega),MH ⟨c,by omega⟩]
       rfl
      ·rw[ME (by omega),ME (fun z=>c z.1)]
       rfl
     have a2:(if decide ((0:Int) + (i:Int)<dOf lv (aH ws z) - 1)=true then(1:Int) else 0)=((cnt (decide (0<i + 1/\((i + 1:Nat):Int)<dOf lv (aH ws z))):Nat):Int):=by
      by_cases c:(0:Int) + (i:Int)<dOf lv (aH ws z) - 1
      ·rw[MH c,MH ⟨by omega,by push_cast;omega⟩]
       rfl
      ·rw[ME c,ME (fun z=>c (by have:=z.2;push_cast at this;omega))]
       rfl
     rw[a1,a2]
     push_cast
     rfl
    have c2:cnt (decide (0<i/\(i:Int)<dOf lv (aH ws z))) + cnt (decide (0<i + 1/\((i + 1:Nat):Int)<dOf lv (aH ws z)))<=2:=by
     have:=rj (decide (0<i/\(i:Int)<dOf lv (aH ws z)));have:=rj (decide (0<i + 1/\((i + 1:Nat):Int)<dOf lv (aH ws z)));omega
    generalize cnt (decide (0<i/\(i:Int)<dOf lv (aH ws z))) + cnt (decide (0<i + 1/\((i + 1:Nat):Int)<dOf lv (aH ws z)))=N at ef c2 el;have Df:(dQ lv hf (aH ws z))[i]?=some (x,y,z.wt * lu N):=el;clear el;dsimp only[aV];refine⟨_,Y,_,_,Y,Y,.inr ⟨_,Y,_,Y,_,Y,_,_,Y,Y,_,_,Y,Y,.inr ⟨_,Y,_,_,Y,Y,?_⟩⟩⟩;dsimp only[aV];rw[ef];refine⟨_,Y,.inl ⟨Y,_,SqL.of sk⟩,_,Y,_,Y,m,_,_,_,Y,Y,SqL.of pJ,by rw[e0];exact m9 ex,_,Y,_,Y,_,_,Y,Y,m,_,_,_,Y,Y,SqL.of pJ,by rw[e1];exact m9 ey,_,Y,(by show 3<=sizeLine;decide),fun q4 n4=>?_⟩;have s7:=af.new (H:=G6) (o:=.lst [.int 1,.int 2,.int 8]) n4;have h7:upd G6 q4 (.lst [.int 1,.int 2,.int 8]) q4=some (.lst [.int 1,.int 2,.int 8]):=ah;generalize upd G6 q4 (.lst [.int 1,.int 2,.int 8])=G7 at s7 h7 ⊢;refine⟨_,Y,q4,_,_,_,Y,Y,SqL.of h7,AB c2,_,_,Y,Y,.inl ⟨by omega,w9⟩,(by show 3<=sizeLine;decide),fun q5 n5=>?_⟩;obtain⟨g1,g2,g3⟩:=grow (K:=K) (d:=cK (x,y,z.wt * lu N)) (vs:=[.str x,.str y,.int (z.wt * lu N)]) ng (vZ.trans s7) (s7 _ _ sk) (s7.dts rX) (dX (fun _=>Y) _) n5 fun H' h=>dt_ln h
    refine⟨g,ly,_,Y,Y,g1,by rw[Mh];omega,_,_,_,Y,g2,?_,ah,?_,by rw[Mg];show _ + 1<=_;omega⟩
    ·rw[ak DC,ak (aE (s7 _ _ pJ) n5)]
     exact s7 _ _ pJ
    ·rw[bP Df,<- MT,Mf]
     exact g3
   ·rintro σ G6 ⟨ej,kz,ly,rfl,vZ,pJ,sk,rX,Ed⟩
    refine⟨_,_,_,_,_,_,_,_,_,ly,Y,vZ,sk,?_,by omega⟩;rw[bP ez,Mf,NT];rw[M8 (l:=dQ lv hf (aH ws z)) (by rw[A1 dp];exact Md _)] at rX;rw[show List.flatMap (dQ lv hf) (List.map (aH ws) [z])=dQ lv hf (aH ws z) by simp];exact rX
  rintro σ G ⟨v4,v5,v6,v7,v8,v9,cN,ej,kz,ls,rfl,sg,hg,dg,_⟩
  rw[yl,Mu] at dg;exact⟨_,Y,k g ls G sg ng hg dg⟩
end
def plh (hf:Str->Int) (l:List Str):Kvs:=l.map fun n=>(Sum.inr n,.int (hf n))
theorem Kv (hf:Str->Int) (l:List Str):gP (plh hf l)=l.map V.str:=by
 unfold gP plh;rw[Nw];rfl
theorem xk (hf:Str->Int) (h:n∈l):bc (plh hf l) (Sum.inr n)=some (.int (hf n)):=by
 induction l with
 | nil=>cases h
 | cons x l ih=>
  show bc ((Sum.inr x,V.int (hf x))::plh hf l) (Sum.inr n)=_;by_cases e:x=n
  ·subst e
   exact gB (p:=(Sum.inr x,V.int (hf x))) rfl
  ·rw[eW (p:=(Sum.inr x,V.int (hf x))) (fun z=>e (Sum.inr.inj z))]
   rcases M5.mp h with z|z
   ·exact absurd z.symm e
   ·exact ih z
theorem Aj (hf:Str->Int) (h:n∉l):bc (plh hf l) (Sum.inr n)=none:=by
 induction l with
 | nil=>rfl
 | cons x l ih=>
  show bc ((Sum.inr x,V.int (hf x))::plh hf l) (Sum.inr n)=_;rw[eW (p:=(Sum.inr x,V.int (hf x))) (fun z=>h (by rw[Sum.inr.inj z];exact Ms))];exact ih fun z=>h (Mo _ z)
theorem BW {hf:Str->Int}:plh hf (l++[n])=plh hf l++[(Sum.inr n,.int (hf n))]:=by
 unfold plh;rw[Mf];rfl
theorem Kc {hf:Str->Int} (h:ws[i]?=some n) (nd:ws.Nodup) (is_:d4 n=true) (hl:ws.length<=12) (h0:0<=hf n) (h5:hf n<=50):jg (plh hf (ws.take i)) n (hf n)=none:=by
 have hi:=(List.getElem?_eq_some_iff.mp h).1;have h1:¬ has (plh hf (ws.take i)) n=true:=by
  unfold has;rw[Aj]
  ·decide
  intro z';obtain⟨j,hj⟩:=List.mem_iff_getElem?.mp z';have vX:j<i:=by
   have:=(List.getElem?_eq_some_iff.mp hj).1;rw[Ml] at this;omega
  rw[Pq,if_pos vX] at hj;have:=(N0 (by omega) nd).mp (hj.trans h.symm);omega
 have h2:¬ 20<=(plh hf (ws.take i)).length:=by
  unfold plh;rw[L9,Ml];omega
 simp only[jg,if_neg (show ¬ d4 n=false by rw[is_];decide),if_neg h1,if_neg (show ¬ (hf n<0\/50<hf n) by omega),if_neg h2]
theorem xr  (h:d4 n=true):n.length<=1000:=by
 simp only[d4,Mz,NZ] at h
 omega
def eY (ws:List Str) (z:Ai):Ar:=⟨z.num,ws.getD z.one "",ws.getD z.other "",z.sp,z.wt⟩
structure AiOk (ws:List Str) (z:Ai):Prop where
 o1:z.one<ws.length
 o2:z.other<ws.length
 ne:z.one≠z.other
 w1:1<=z.wt
 w2:z.wt<=1000000
 s1:1<=z.sp
 s2:z.sp<=3
structure NtZ (hf:Str->Int) (ws:List Str) (v:cI) (zs:List Ai) (i:Nat):Prop where
 kv:v.kvs=plh hf ws
 ar:v.arr=zs.map (eY ws)
 nn:∃ m:Nat,v.nn=m/\m<=i/\∀ z∈zs,z.num<m
 rs:zs.Pairwise fun x y=>x.num<y.num
 len:zs.length<=i
 ok:∀ z∈zs,AiOk ws z
def xo (H:Hp) (x:Addr) (r:Rec):Prop:=∀ b o,H b=some o->b≠x/\b≠r.dh/\b≠r.da/\b≠r.ls/\b≠r.lm
theorem xo.kp {Ha Hb:Hp}{x:Addr} (f:xo H x r) (s:af H Ha) (k:Kp x r Ha Hb):af H Hb:=fun b o e=>by
 obtain⟨q1,q2,q3,q4,q5⟩:=f b o e;exact k b o (s b o e) q1 q2 q3 q4 q5
theorem qY {K:PySem.W.Frag} (N:bB K C H p r v) (ny:H y=none):y≠p/\y≠r.dh/\y≠r.da/\y≠r.ls/\y≠r.lm:=by
 obtain⟨⟨dx,e1⟩,e2,⟨bV,e3,_⟩,⟨xs,e4,_⟩,⟨ys,e5,_⟩,_⟩:=N;exact⟨Ne.symm (aE e1 ny),Ne.symm (aE e2 ny),Ne.symm (aE e3 ny),Ne.symm (aE e4 ny),Ne.symm (aE e5 ny)⟩
theorem at2 {x y m:Int} (h0:0<=m) (h1:m<2):∃ u,atI [V.int x,V.int y] m=some (V.int u)/\(u=x\/u=y):=by
 rcases(by omega:m=0\/m=1) with e|e
 ·exact⟨x,by rw[e];rfl,.inl rfl⟩
 ·exact⟨y,by rw[e];rfl,.inr rfl⟩
theorem cut_le (ns:List Int) (i j:Nat):∃ ms:List Int,d5 (ns.map V.int) (some i) (some j)=ms.map V.int/\ms.length<=j - i:=by
 obtain⟨ms,e,_⟩:=Iz ns (some i) (some j);refine⟨ms,e,?_⟩;have l:ms.length=(d5 (ns.map V.int) (some i) (some j)).length:=by rw[e,L9]
 have e1:HT.sIx (ns.map V.int).length 0 (some (i:Int))=min i (ns.map V.int).length:=HT.zfQ _ _ i;have e2:HT.sIx (ns.map V.int).length (ns.map V.int).length (some (j:Int))=min j (ns.map V.int).length:=HT.zfQ _ _ j;rw[l];unfold d5;rw[e1,e2,Ml,Nl];omega
section
variable {K:PySem.W.Frag}
theorem GJ (l:List Int):(l.map V.int).all gW=true:=by
 induction l with
 | nil=>rfl
 | cons x l ih=>exact ih
theorem Bb (n:Int) (l:List Int):inV (.int n) (l.map V.int)=decide (n∈l):=by
 induction l with
 | nil=>rfl
 | cons x l ih=>
  show(eqV (.int x) (.int n) || inV (.int n) (l.map V.int))=_;rw[ih];by_cases h:x=n
  ·subst h
   simp[eqV]
  ·simp[eqV,h,Ne.symm h]
def dnZ (tn:List Int) (z:Ai):Ai:=if (z.num:Int)∈tn then⟨z.num,z.other,z.one,z.wt,z.sp⟩ else z
def spDown (K:PySem.W.Frag):Sp:=fun vs H Q _=>∃ l ys zs ab tn,vs=[.ref l,.ref ab]/\H l=some (.lst ys)/\A5s K H ys zs/\zs.length<=1000/\H ab=some (.lst ((tn:List Int).map V.int))/\∀ g us H',af H H'->H g=none->H' g=some (.lst us)->A5s K H' us (zs.map (dnZ tn))->Q (.ref g) H'
theorem Jy (T:Tx K mg a):Cal P w K mg base CX0 1 "_law_down" ["_law_arrows_here","_law_about"] [] (spDown K):=T.d__law_down.cal fun f fd F=>by
 refine F.ok nj (fun vs H Q E h=>?_) (fun aw A outer s H vs Q E hr h=>?_)
 ·obtain⟨l,ys,zs,ab,tn,rfl,_⟩:=h
  rfl
 ·obtain⟨l,ys,zs,ab,tn,rfl,hl,hz,z9,kj,k⟩:=h
  have yl:=hz.len;refine⟨_,(ao (aU (i:=2) nj.nd Y (.inl Y) (bH aj))
   (ao (cP PassesOwn.never rfl (cw (pv 0)) (gR rfl (aQ (aD (i:=3) nj.nd Y (.inl Y)) (aQ (aD (i:=4) nj.nd Y (.inl Y)) (aQ (aD (i:=5) nj.nd Y (.inl Y)) (aQ (aD (i:=6) nj.nd Y (.inl Y)) (aQ (aD (i:=7) nj.nd Y (.inl Y)) fU)))))) (aq (bG (bw Gn (pv 3) (pv 1) (by with_unfolding_all rfl)) (aq (ck (dL PySem.F.plainAttrs_list PySem.F.slot_list_append PySem.F.type_list_append gj (pv 2) (ag (gk (ag (pv 3) (ag (pv 5) (ag (pv 4) (ag (pv 6) (ag (pv 7) aj)))))) aj)))) (aq (ck (dL PySem.F.plainAttrs_list PySem.F.slot_list_append PySem.F.type_list_append gj (pv 2) (ag (gk (ag (pv 3) (ag (pv 4) (ag (pv 5) (ag (pv 6) (ag (pv 7) aj)))))) aj)))))))
   (aq (aO (pv 2))))),?_⟩
  refine⟨(by show 0<=sizeLine;decide),fun g ng=>?_⟩;refine⟨_,Y,l,Y,⟨_,SqL.of (af.new (o:=.lst []) ng _ _ hl)⟩,gE (K:=K) (a:=l) (xs:=ys) (fun j σ G=>∃ v3 v4 v5 v6 v7 us,σ=[some (.ref l),some (.ref ab),some (.ref g),v3,v4,v5,v6,v7]/\af H G/\G g=some (.lst us)/\A5s K G us ((zs.take j).map (dnZ tn))) ⟨none,none,none,none,none,[],rfl,af.new ng,ah,trivial⟩ ?_ ?_ ?_⟩
  ·rintro j σ G _ ⟨_,_,_,_,_,_,rfl,sg,_⟩
   exact SqL.of (sg _ _ hl)
  ·rintro j y σ G hy ⟨v3,v4,v5,v6,v7,us,rfl,sg,hg,fu⟩
   obtain⟨z,ez,t1,rfl,jw⟩:=hz.get hy;have hj:j<zs.length:=(List.getElem?_eq_some_iff.mp ez).1;have ul:us.length<=1000:=by
    rw[fu.len,L9,Ml];omega
   have put:∀ (q:Addr) (z':Ai),G q=none->dnZ tn z=z'->(upd G q (.tup (a5V z'))) g=some (.lst us)/\af H (upd (upd G q (.tup (a5V z'))) g (.lst (us++[.ref q])))/\A5s K (upd (upd G q (.tup (a5V z'))) g (.lst (us++[.ref q]))) (us++[.ref q]) ((zs.take (j + 1)).map (dnZ tn)):=fun q z' nq Eg=>by
    have s3:af G (upd G q (.tup (a5V z'))):=af.new nq;have hq:SqT K (upd G q (.tup (a5V z'))) q (a5V z'):=SqT.of ah;have nN:=s3 _ _ hg;generalize upd G q (.tup (a5V z'))=G3 at s3 hq nN ⊢;have tk:Tk G3 (upd G3 g (.lst (us++[.ref q]))):=Tk.upd nN rfl;rw[bP ez,Mf];exact⟨nN,bY ng (sg.trans s3),(i7 fu ((Tk.of s3).trans tk)).snoc ⟨q,Y,by rw[Eg];exact tk.sqT hq⟩⟩
   refine⟨t1,_,Y,(Tk.of sg).sqT jw,Y,_,_,Y,_,_,Y,_,_,Y,_,_,Y,_,_,Y,Y,?_⟩;refine⟨_,Y,_,Y,_,_,Y,.inl (SqL.of (sg _ _ kj)),Y,GJ _,_,Y,?_⟩;refine bE (fun c=>?_) (fun c=>?_)
   ·have c':(z.num:Int)∈tn:=MP ((Bb _ _).symm.trans c)
    refine⟨_,Y,.inl ⟨Y,_,SqL.of hg⟩,_,Y,_,Y,_,Y,_,Y,_,Y,(by show 5<=sizeLine;decide),fun q nq=>?_⟩;obtain⟨g1,g2,g3⟩:=put q ⟨z.num,z.other,z.one,z.wt,z.sp⟩ nq (if_pos c');exact⟨g,us,_,Y,Y,g1,by rw[Mh];omega,_,_,_,_,_,_,Y,g2,ah,g3⟩
   ·have c':(z.num:Int)∉tn:=MZ ((Bb _ _).symm.trans c)
    refine⟨_,Y,.inl ⟨Y,_,SqL.of hg⟩,_,Y,_,Y,_,Y,_,Y,_,Y,(by show 5<=sizeLine;decide),fun q nq=>?_⟩;obtain⟨g1,g2,g3⟩:=put q z nq (if_neg c');exact⟨g,us,_,Y,Y,g1,by rw[Mh];omega,_,_,_,_,_,_,Y,g2,ah,g3⟩
  rintro σ G ⟨v3,v4,v5,v6,v7,us,rfl,sg,hg,fu⟩
  rw[yl,Mu] at fu;exact⟨_,Y,k g us G sg ng hg fu⟩
def Gg (K:PySem.W.Frag) (a:Adr):Sp:=fun vs H Q _=>∃ p r v nm sc ws,∃ ns:List Int,∃ hf,vs=[.ref p,.ref nm,.ref sc]/\bB K a.Net H p r v/\NtZ hf ws v [] 0/\H nm=some (.lst ((ws:List Str).map V.str))/\nm≠r.ls/\nm≠r.lm/\oG ws/\SqL K H sc (ns.map V.int) /\
 ∀ g ys zs v' H',Kp p r H H'->H g=none->H' g=some (.lst ys)->A5s K H' ys zs->bB K a.Net H' p r v'->NtZ hf ws v' zs 12->Q (.ref g) H'
theorem AH  (N:bB K C H p r v) (hg:H g=some (.lst xs)) (n1:g≠r.ls) (n2:g≠r.lm):bB K C (upd H g o) p r v:=by
 have tk:Tk H (upd H g o):=Tk.upd hg rfl;obtain⟨⟨dx,h1⟩,h2,⟨bV,h3,h4⟩,⟨ys,h5,h6⟩,⟨zs,h7,h8⟩,m1,m2⟩:=N;exact⟨⟨dx,by rw[ak (cz h1 hg (by intro z;cases z))];exact h1⟩,by rw[ak (cz h2 hg (by intro z;cases z))];exact h2,⟨bV,by rw[ak (cz h3 hg (by intro z;cases z))];exact h3,tk.arr h4⟩,⟨ys,by rw[ak (Ne.symm n1)];exact h5,tk.dts (dX (fun _=>Y) _) h6⟩,⟨zs,by rw[ak (Ne.symm n2)];exact h7,tk.dts (dX (fun _=>Y) _) h8⟩,m1,m2⟩
theorem NtZ.put {hf:Str->Int}{m:Nat}{z:Ai} (h:NtZ hf ws v zs i) (hm:v.nn=(m:Nat)) (hz:z.num=m) (ok:AiOk ws z):NtZ hf ws { v with arr:=v.arr++[eY ws z],nn:=v.nn + 1 } (zs++[z]) (i + 1):=by
 obtain⟨m',e1,e2,e3⟩:=h.nn;have em:m'=m:=by rw[hm] at e1;omega
 subst em;refine⟨h.kv,by show v.arr++_=_;rw[h.ar,Mf];rfl,⟨m' + 1,by show v.nn + 1=_;rw[hm];push_cast;rfl,by omega,fun x hx=>?_⟩,?_,by rw[Mg];show _ + 1<=_;have:=h.len;omega,fun x hx=>?_⟩
 ·rcases List.mem_append.mp hx with y|y
  ·have:=e3 x y
   omega
  ·rw[List.mem_singleton.mp y,hz]
   omega
 ·refine List.pairwise_append.mpr ⟨h.rs,OU _ _,fun x hx y hy=>?_⟩
  rw[List.mem_singleton.mp hy,hz];exact e3 x hx
 ·rcases List.mem_append.mp hx with y|y
  ·exact h.ok x y
  ·rw[List.mem_singleton.mp y]
   exact ok
theorem NtZ.up {hf:Str->Int} (h:NtZ hf ws v zs i):NtZ hf ws v zs (i + 1):=by
 obtain⟨m,e1,e2,e3⟩:=h.nn;exact⟨h.kv,h.ar,⟨m,e1,by omega,e3⟩,h.rs,OC h.len,h.ok⟩
theorem KE (T:Tx K mg a):Cal P w K mg base CX0 6 "_law_arrows" ["_law_net","_law_names_here","_law_script"] [] (Gg K a):=T.d__law_arrows.cal fun f fd F=>by
 have a9:=CA (P:=P) (w:=w) (base:=base) T;have m_Net_put_arrow:=JV (P:=P) (w:=w) (base:=base) T;refine F.ok jQ (fun vs H Q E h=>?_) (fun aw A outer s H vs Q E hr h=>?_)
 ·obtain⟨p,r,v,nm,sc,ws,ns,hf,rfl,_⟩:=h
  rfl
 ·obtain⟨p,r,v,nm,sc,ws,ns,hf,rfl,N,Z0,cG,Da,yJ,ok,hS,k⟩:=h
  have Lq:=ok.lo;have yM:=ok.hi;have jr:((ws.map V.str).length:Int)=(ws.length:Int):=by rw[L9]
  refine⟨_,(ao (aU (i:=3) jQ.nd Y (.inl Y) (bH aj))
   (ao (cP PassesOwn.never rfl (cw (tK tW (pv 2) (n8 am) (n8 am))) (aD (i:=4) jQ.nd Y (.inl Y)) (ao (aU (i:=5) jQ.nd Y (.inl Y) (bD a9 (hr.mono (by decide)) rfl (ag (pv 4) (ag am aj))))
   (ao (aU (i:=6) jQ.nd Y (.inl Y) (aG dz (aF bC (pv 5) am (fun _ _=>Y)) (bu eG Y T.n_len cQ (ag (pv 1) aj))))
   (ao (aU (i:=7) jQ.nd Y (.inl Y) (aG dz (aG dZ (aG dZ (pv 6) am) (aG dz (aF bC (pv 5) am (fun _ _=>Y)) (bu Ct Y T.n_max sL (ag am (ag (aG mU (bu eG Y T.n_len cQ (ag (pv 1) aj)) am) aj))))) (bu eG Y T.n_len cQ (ag (pv 1) aj))))
   (aq (bG (bw iE (pv 6) (pv 7) (br _)) (ao (aU (i:=8) jQ.nd Y (.inl Y) (aG dZ am (aG dz (aF bC (pv 5) am (fun _ _=>Y)) (aF bC (bH (ag am (ag (aG op_pow am am) aj))) (aG dz (aF bC (pv 5) am (fun _ _=>Y)) am) (fun _ _=>Y)))))
   (ao (aU (i:=9) jQ.nd Y (.inl Y) (aG dZ am (aG dz (aG lr (aF bC (pv 5) am (fun _ _=>Y)) am) am)))
   (ao (aU (i:=10) jQ.nd Y (.inl Y) (kK (pv 0) T.c_Net m_Net_put_arrow sS (hr.mono (by decide)) (ag (aF bC (pv 1) (pv 6) (fun _ _=>Y)) (ag (aF bC (pv 1) (pv 7) (fun _ _=>Y)) (ag (pv 9) (ag (pv 8) aj))))))
   (aq (ck (dL PySem.F.plainAttrs_list PySem.F.slot_list_append PySem.F.type_list_append gj (pv 3) (ag (gk (ag (pv 10) (ag (pv 6) (ag (pv 7) (ag (pv 8) (ag (pv 9) aj)))))) aj))))))) bO))))))
   (aq (aO (pv 3))))),?_⟩
  refine⟨(by show 0<=sizeLine;decide),fun g ng=>?_⟩;obtain⟨g1,g2,g3,g4,g5⟩:=qY N ng;have s1:af H (upd H g (.lst [])):=af.new ng;have h1:upd H g (.lst []) g=some (.lst []):=ah;generalize upd H g (.lst [])=H1 at s1 h1 ⊢;obtain⟨cs,dH,cl⟩:=cut_le ns 2 14;refine⟨_,Y,_,Y,_,Y,sc,_,Y,s1.sqL hS,fun y ny=>?_⟩;rw[show d5 (ns.map V.int) (some 2) (some 14)=cs.map V.int from dH];obtain⟨y1,y2,y3,y4,y5⟩:=qY (N.same s1) ny;have yg:y≠g:=Ne.symm (aE h1 ny);have s2:af H1 (upd H1 y (.lst (cs.map V.int))):=af.new ny;have h2:upd H1 y (.lst (cs.map V.int)) y=some (.lst (cs.map V.int)):=ah;generalize upd H1 y (.lst (cs.map V.int))=H2 at s2 h2 ⊢;refine⟨y,Y,⟨_,SqL.of h2⟩,gE (K:=K) (a:=y) (xs:=cs.map V.int) (fun i σ G=>∃ v4 v5 v6 v7 v8 v9 cN ys zs v,σ=[some (.ref p),some (.ref nm),some (.ref sc),some (.ref g),v4,v5,v6,v7,v8,v9,cN]/\Kp p r H G/\G g=some (.lst ys)/\A5s K G ys zs/\G y=some (.lst (cs.map V.int))/\G nm=some (.lst (ws.map V.str))/\bB K a.Net G p r v/\NtZ hf ws v zs i)
   ⟨none,none,none,none,none,none,none,[],[],v,rfl,Kp.of (s1.trans s2),s2 _ _ h1,trivial,h2,(s1.trans s2) _ _ cG,N.same (s1.trans s2),Z0⟩ ?_ ?_ ?_⟩
  ·rintro i σ G _ ⟨_,_,_,_,_,_,_,_,_,_,rfl,_,_,_,hy,_⟩
   exact SqL.of hy
  ·rintro i cx σ G hx ⟨v4,v5,v6,v7,v8,v9,cN,ys,zs,v,rfl,kp,hg,fa,hy,hn,NG,Z⟩
   obtain⟨c,hc,rfl⟩:∃ c,cs[i]?=some c/\cx=.int c:=by
    rw[Mm] at hx;cases e:cs[i]? with
    | none=>rw[e] at hx;cases hx
    | some c=>rw[e] at hx;cases hx;exact⟨c,Y,Y⟩
   have hi:=(List.getElem?_eq_some_iff.mp hc).1;dsimp only[aV];refine⟨_,Y,c,4,Y,by decide,by decide,fun xl xs G1 sx CT gc x4=>?_⟩;have x4:xs.length=4:=by omega
   have oU:=sx _ _ hn;obtain⟨z0,_,Ec⟩:=K42.zdS (ns:=xs) (k:=0) (by decide) (by rw[x4];decide);obtain⟨z1,_,Eh⟩:=K42.zdS (ns:=xs) (k:=1) (by decide) (by rw[x4];decide);obtain⟨z2,_,ET⟩:=K42.zdS (ns:=xs) (k:=2) (by decide) (by rw[x4];decide);obtain⟨z3,_,yt⟩:=K42.zdS (ns:=xs) (k:=3) (by decide) (by rw[x4];decide);refine⟨_,Y,xl,_,_,_,Y,Y,SqL.of gc,Ec,_,Y,nm,_,Y,.inl (SqL.of oU),_,_,Y,Y,(by rw[jr];omega),?_⟩;refine⟨_,Y,_,_,Y,Y,_,Y,xl,_,_,_,Y,Y,SqL.of gc,Eh,_,Y,nm,_,Y,.inl (SqL.of oU),_,_,Y,Y,_,_,Y,_,_,Y,Y,(by rw[jr];split <;> omega),_,_,Y,Y,_,Y,nm,_,Y,.inl (SqL.of oU),_,_,Y,Y,(by rw[jr];omega),?_⟩;dsimp only[aV];rw[jr];have o0:0<=z0 % (ws.length:Int):=MR _ (by omega);have o1:z0 % (ws.length:Int)<ws.length:=MK _ (by omega);generalize (z0 % (ws.length:Int) + 1 + z1 % (if (ws.length:Int) - 1 > 1 then(ws.length:Int) - 1 else 1))=u;have t0:0<=u % (ws.length:Int):=MR _ (by omega);have t1:u % (ws.length:Int)<ws.length:=MK _ (by omega);obtain⟨n1,en1⟩:∃ n1:Nat,z0 % (ws.length:Int)=n1:=⟨(z0 % (ws.length:Int)).toNat,by omega⟩;obtain⟨n2,en2⟩:∃ n2:Nat,u % (ws.length:Int)=n2:=⟨(u % (ws.length:Int)).toNat,by omega⟩;rw[en1] at o0 o1 ⊢;rw[en2] at t0 t1 ⊢;have l1:n1<ws.length:=by omega
   have l2:n2<ws.length:=by omega
   by_cases ne:n1=n2
   ·subst ne
    refine⟨_,Y,_,Y,Y,_,Y,cg (by simp) ?_⟩;exact⟨_,_,_,_,_,_,_,ys,zs,v,Y,kp.trans (Kp.of sx),sx _ _ hg,i7 fa (Tk.of sx),sx _ _ hy,oU,NG.same sx,Z.up⟩
   refine⟨_,Y,_,Y,Y,_,Y,Ak (by simp;omega) ?_⟩;have t6:(10:Int) ^ Int.toNat 6=1000000:=by decide
   refine⟨_,Y,xl,_,_,_,Y,Y,SqL.of gc,ET,_,_,Y,Y,⟨by decide,by decide,by decide⟩,(by show 2<=sizeLine;decide),fun q2 vR=>?_⟩;have s3:=af.new (H:=G1) (o:=.lst [.int 9,.int (10 ^ Int.toNat 6)]) vR;have h3:upd G1 q2 (.lst [.int 9,.int (10 ^ Int.toNat 6)]) q2=some (.lst [.int 9,.int (10 ^ Int.toNat 6)]):=ah;generalize upd G1 q2 (.lst [.int 9,.int (10 ^ Int.toNat 6)])=G2 at s3 h3 ⊢;obtain⟨m2,ER,Do⟩:=at2 (x:=9) (y:=10 ^ Int.toNat 6) (m:=z3 % 2) (MR _ (by decide)) (MK _ (by decide));rw[t6] at Do;refine⟨_,Y,xl,_,_,_,Y,Y,SqL.of (s3 _ _ gc),yt,_,_,Y,Y,(by show(0:Int)<2;decide),q2,_,_,_,Y,Y,SqL.of h3,ER,_,_,Y,Y,(by omega),_,_,Y,Y,?_⟩;have FA:0<=z2 % m2:=MR _ (by omega);have Fz:z2 % m2<m2:=MK _ (by omega);dsimp only[aV];generalize z2 % m2=wt at FA Fz ⊢;have DJ:0<=z3 / 2 % 3:=MR _ (by decide);have Fn:z3 / 2 % 3<3:=MK _ (by decide);refine⟨_,Y,xl,_,_,_,Y,Y,SqL.of (s3 _ _ gc),yt,_,_,Y,Y,⟨by decide,by decide⟩,_,_,Y,Y,(by show(0:Int)<3;decide),_,_,Y,Y,?_⟩;dsimp only[aV];generalize z3 / 2 % 3=sp at DJ Fn ⊢;have pR:=sx.trans s3;have N2:=NG.same pR;obtain⟨dx,hp⟩:=N2.ex;have iz:=s3 _ _ oU;obtain⟨m,em,K8,Eb⟩:=Z.nn;have hu:=dY l1;have ht:=dY l2;have mu:=Me hu;have mt:=Me ht;have vo:ws.getD n1 ""≠ws.getD n2 "":=fun e=>by
    rw[e] at hu;have:=(N0 l1 ok.nd).mp (hu.trans ht.symm);exact ne this
   have zl:=Z.len;have al:v.arr.length=zs.length:=by rw[Z.ar,L9]
   have ae:mV v (ws.getD n1 "") (ws.getD n2 "") (1 + sp) (1 + wt)=none:=by
    have hh:∀ {x:Str},x∈ws->has v.kvs x=true:=fun hx=>by unfold has;rw[Z.kv,xk hf hx];rfl
    have h2:two v.kvs (ws.getD n1 "") (ws.getD n2 "")=none:=by
     simp only[two]
     rw[if_neg (by rw[hh mu];decide),if_neg (by rw[hh mt];decide),if_neg vo]
    rw[Cc h2,if_neg (by omega),if_neg (by omega)]
   refine⟨_,Y,p,dx,_,Y,hp,by rfl,_,Y,_,Y,nm,_,_,_,Y,Y,SqL.of iz,m9 hu,_,Y,_,Y,nm,_,_,_,Y,Y,SqL.of iz,m9 ht,_,Y,_,Y,p,r,v,_,_,_,_,Y,N2,by omega,?_,fun _ G3 qc N3=>?_,fun er he=>?_⟩
   ·rw[Z.ar]
    intro q hq;obtain⟨z,hz,rfl⟩:=List.mem_map.mp hq;rw[em];have:=Eb z hz;show((z.num:Nat):Int)<_;omega
   ·have nN:=qc _ _ (pR _ _ hg) g1 g2 g3 g4 g5
    have gy:=qc _ _ (pR _ _ hy) y1 y2 y3 y4 y5;have Eo:=Kp.lst qc N2 iz Da yJ;have C2:=i7 (i7 fa (Tk.of pR)) (qc.tk N2);have ul:ys.length<=40:=by rw[fa.len];omega
    refine⟨_,Y,.inl ⟨Y,_,SqL.of nN⟩,_,Y,_,Y,_,Y,_,Y,_,Y,(by show 5<=sizeLine;decide),fun q nq=>?_⟩;have s4:=af.new (H:=G3) (o:=.tup [.int v.nn,.int (n1:Int),.int (n2:Int),.int (1 + wt),.int (1 + sp)]) nq;have h4:SqT K (upd G3 q (.tup [.int v.nn,.int (n1:Int),.int (n2:Int),.int (1 + wt),.int (1 + sp)])) q (a5V ⟨m,n1,n2,1 + wt,1 + sp⟩):=by
     have:=SqT.of (K:=K) (H:=upd G3 q (.tup [.int v.nn,.int (n1:Int),.int (n2:Int),.int (1 + wt),.int (1 + sp)])) (a:=q) ah;rw[em] at this ⊢;exact this
    generalize upd G3 q (.tup [.int v.nn,.int (n1:Int),.int (n2:Int),.int (1 + wt),.int (1 + sp)])=G4 at s4 h4 ⊢;have uh:=s4 _ _ nN;have tk:Tk G4 (upd G4 g (.lst (ys++[.ref q]))):=Tk.upd uh rfl;refine⟨g,ys,_,Y,Y,uh,by rw[Mh];omega,_,_,_,_,_,_,_,ys++[.ref q],zs++[⟨m,n1,n2,1 + wt,1 + sp⟩],_,Y,?_,ah,(i7 C2 ((Tk.of s4).trans tk)).snoc ⟨q,Y,tk.sqT h4⟩,by rw[ak yg];exact s4 _ _ gy,?_,AH (N3.same s4) uh g4 g5,?_⟩
    ·intro b o e q1 q2 q3 q4 q5
     rw[ak (aE e ng)];exact s4 _ _ (qc _ _ (pR _ _ (kp b o e q1 q2 q3 q4 q5)) q1 q2 q3 q4 q5)
    ·rw[ak (aE cG ng)]
     exact s4 _ _ Eo
    ·have:=Z.put (z:=⟨m,n1,n2,1 + wt,1 + sp⟩) em Y ⟨l1,l2,ne,by show 1<=1 + wt;omega,by show 1 + wt<=1000000;omega,by show 1<=1 + sp;omega,by show 1 + sp<=3;omega⟩
     rw[show eY ws ⟨m,n1,n2,1 + wt,1 + sp⟩=⟨v.nn,ws.getD n1 "",ws.getD n2 "",1 + sp,1 + wt⟩ by unfold eY;rw[em]] at this;exact this
   ·rw[ae] at he
    cases he
  rintro σ G ⟨v4,v5,v6,v7,v8,v9,cN,ys,zs,v',rfl,kp,hg,fa,hy,hn,NG,Z⟩
  rw[L9] at Z;have Em:NtZ hf ws v' zs 12:=by
   obtain⟨m,e1,e2,e3⟩:=Z.nn;have:=Z.len;exact⟨Z.kv,Z.ar,⟨m,e1,by omega,e3⟩,Z.rs,by omega,Z.ok⟩
  exact⟨_,Y,k g ys zs v' G kp ng hg fa NG Em⟩
end
variable {n:Nat}{od:Option Addr}{z:Ai}
theorem Cm {ws:List Str}:∀ {zs:List Ai}{k:Nat}{z:Ai},zs.Pairwise (fun x y=>x.num<y.num)->zs[k]?=some z->fG (zs.map (eY ws)) (z.num:Int)=(zs.eraseIdx k).map (eY ws)
 | [],_,_,_,h=>by simp at h
 | y::zs,0,z,hp,h=>by
  obtain rfl:y=z:=Option.some.inj h;obtain⟨h1,_⟩:=List.pairwise_cons.mp hp;show fG (eY ws y::zs.map (eY ws)) _=zs.map (eY ws);unfold fG;rw[MD,if_neg (by show ¬ decide (((y.num:Nat):Int)≠((y.num:Nat):Int))=true;simp),List.filter_eq_self.mpr fun q hq=>?_];obtain⟨u,hu,rfl⟩:=List.mem_map.mp hq;have:=h1 u hu;exact MH (by show((u.num:Nat):Int)≠_;omega)
 | y::zs,k + 1,z,hp,h=>by
  have h':zs[k]?=some z:=by simpa using h
  obtain⟨h1,h2⟩:=List.pairwise_cons.mp hp;have ih:=Cm (ws:=ws) h2 h';have:=h1 z (Me h');show fG (eY ws y::zs.map (eY ws)) _=eY ws y::(zs.eraseIdx k).map (eY ws);unfold fG at ih ⊢;rw[MD,if_pos (MH (by show((y.num:Nat):Int)≠_;omega)),ih]
theorem NtZ.pop {hf:Str->Int}{k:Nat} (h:NtZ hf ws v zs i) (hk:zs[k]?=some z):NtZ hf ws { v with arr:=fG v.arr (z.num:Int) } (zs.eraseIdx k) i:=by
 obtain⟨m,e1,e2,e3⟩:=h.nn;have sub:∀ x∈zs.eraseIdx k,x∈zs:=fun x hx=>List.mem_of_mem_eraseIdx hx
 exact⟨h.kv,by show fG v.arr _=_;rw[h.ar];exact Cm h.rs hk,⟨m,e1,e2,fun x hx=>e3 x (sub x hx)⟩,h.rs.sublist (List.eraseIdx_sublist _ _),MN (List.length_eraseIdx_le _ _) h.len,fun x hx=>h.ok x (sub x hx)⟩
theorem NtZ.has {hf:Str->Int} (h:NtZ hf ws v zs i) (hz:z∈zs):m6 v.arr (z.num:Int)=true:=by
 rw[h.ar];exact List.any_eq_true.mpr ⟨eY ws z,Ni hz,MH Y⟩
theorem NtZ.nd {hf:Str->Int} (h:NtZ hf ws v zs i):(v.arr.map Ar.num).Nodup:=by
 rw[h.ar,Nw,List.nodup_iff_pairwise_ne,Pz];exact h.rs.imp fun {x y} z=>by
  show((x.num:Nat):Int)≠((y.num:Nat):Int);omega
theorem get_ne  (nd:ws.Nodup){j:Nat} (hi:i<ws.length) (hj:j<ws.length) (ne:i≠j):ws.getD i ""≠ws.getD j "":=fun e=>by
 have h1:=dY hi;rw[e] at h1;exact ne (xI nd h1 (dY hj))
theorem NtZ.rok {hf:Str->Int} (h:NtZ hf ws v zs i) (nd:ws.Nodup):∃ rk,ROk ws.length (zs.map (dnZ (gC v.arr))) rk:=by
 obtain⟨rk,hr⟩:=ranks h.nd (by
  rw[h.ar];intro q hq;obtain⟨z,hz,rfl⟩:=List.mem_map.mp hq;exact get_ne nd (h.ok z hz).o1 (h.ok z hz).o2 (h.ok z hz).ne)
 obtain⟨r',b,m⟩:=KQ (ws:=ws) rk;refine⟨r',fun e he=>?_,b,fun e he=>?_⟩
 ·obtain⟨z,hz,rfl⟩:=List.mem_map.mp he
  have o:=h.ok z hz;have hq:eY ws z∈v.arr:=by rw[h.ar];exact Ni hz
  obtain⟨q1,q2⟩:=hr _ hq;unfold dnZ;by_cases c:(z.num:Int)∈gC v.arr
  ·rw[if_pos c]
   exact⟨o.o2,o.o1,m _ _ _ _ (dY o.o2) (dY o.o1) (q1 c)⟩
  ·rw[if_neg c]
   exact⟨o.o1,o.o2,m _ _ _ _ (dY o.o1) (dY o.o2) (q2 c)⟩
 ·obtain⟨z,hz,rfl⟩:=List.mem_map.mp he
  have o:=h.ok z hz;unfold dnZ;split
  ·exact⟨o.s1,o.s2⟩
  ·exact⟨o.s1,o.s2⟩
theorem BM (tn:List Int) (z:Ai):(dnZ tn z).num=z.num/\(dnZ tn z).wt=z.wt/\(dnZ tn z).sp=z.sp/\(((dnZ tn z).one=z.one/\(dnZ tn z).other=z.other)\/((dnZ tn z).one=z.other/\(dnZ tn z).other=z.one)):=by
 unfold dnZ;split
 ·exact⟨Y,Y,Y,.inr ⟨Y,Y⟩⟩
 ·exact⟨Y,Y,Y,.inl ⟨Y,Y⟩⟩
theorem ar_dn {ws:List Str}{tn:List Int}:∀ {zs:List Ai},(∀ z∈zs,AiOk ws z)->F2 ArDn (zs.map (eY ws)) ((zs.map (dnZ tn)).map (aH ws))
 | [],_=>trivial
 | z::zs,h=>by
  obtain⟨e1,e2,_,e4⟩:=BM tn z;have o:=h z Ms;refine⟨⟨?_,?_,e2,?_,?_⟩,ar_dn fun y hy=>h y (Mo _ hy)⟩
  ·show((dnZ tn z).num:Int)=(z.num:Int)
   rw[e1]
  ·rcases e4 with⟨a,b⟩|⟨a,b⟩
   ·exact .inl ⟨by show ws.getD z.one ""=ws.getD (dnZ tn z).one "";rw[a],by show ws.getD z.other ""=ws.getD (dnZ tn z).other "";rw[b]⟩
   ·exact .inr ⟨by show ws.getD z.one ""=ws.getD (dnZ tn z).other "";rw[b],by show ws.getD z.other ""=ws.getD (dnZ tn z).one "";rw[a]⟩
  ·have:=o.w1
   show 0<z.wt;omega
  ·have:=o.w2
   show z.wt<2 ^ 64;omega
theorem B9 (lv:Str->Int):∀ ws:List Str,(∀ x∈ws,0<=lv x/\lv x<900)->∃ n:Nat,tz ws lv n/\n<=900
 | [],_=>⟨0,⟨fun _=>Y,(fun x hx=>by cases hx),fun h=>absurd Y h⟩,MW _⟩
 | y::ws,h=>by
  obtain⟨n,⟨c0,c1,c2⟩,n9⟩:=B9 lv ws fun x hx=>h x (Mo _ hx)
  obtain⟨y0,y9⟩:=h y Ms;by_cases c:lv y + 1<=(n:Int)
  ·refine⟨n,⟨(fun e=>by cases e),fun x hx=>?_,fun _=>?_⟩,n9⟩
   ·rcases M5.mp hx with z|z
    ·rw[z];omega
    ·exact c1 x z
   ·obtain⟨x,hx,e⟩:=c2 fun z=>by
     have:=c0 z;omega
    exact⟨x,Mo _ hx,e⟩
  ·refine⟨(lv y + 1).toNat,⟨(fun e=>by cases e),fun x hx=>?_,fun _=>⟨y,Ms,by omega⟩⟩,by omega⟩
   rcases M5.mp hx with z|z
   ·rw[z];omega
   ·have:=c1 x z
    omega
theorem Ao (n:Nat):∀ pl:Pl,(∀ p∈pl,0<=p.1/\p.1<n)->((eI n pl).map List.length).sum=pl.length
 | [],_=>by
  have:∀ m,(((List.range m).map (bN [])).map List.length).sum=0:=fun m=>by
   induction m with
   | zero=>rfl
   | succ m ih=>rw[Nz,Mf,Mf,OZ,ih];rfl
  exact this n
 | p::pl,h=>by
  have ih:=Ao n pl fun q hq=>h q (Mo _ hq)
  obtain⟨p0,p9⟩:=h p Ms;have key:∀ m:Nat,(((List.range m).map (bN (p::pl))).map List.length).sum=(((List.range m).map (bN pl)).map List.length).sum + if p.1<(m:Int) then 1 else 0:=fun m=>by
   induction m with
   | zero=>rw[if_neg (by omega)];rfl
   | succ m ih=>
    rw[Nz,Mf,Mf,Mf,Mf,OZ,OZ,ih];have e:(bN (p::pl) m).length=(bN pl m).length + if p.1=(m:Int) then 1 else 0:=by
     unfold bN;rw[MD];by_cases c:p.1=(m:Int)
     ·rw[if_pos (by simpa using c),if_pos c]
      rfl
     ·rw[if_neg (by simpa using c),if_neg c]
      rfl
    have e1:∀ l:Pl,((([m]:List Nat).map (bN l)).map List.length).sum=(bN l m).length:=fun l=>by simp
    rw[e1,e1,e];by_cases c:p.1=(m:Int)
    ·rw[if_pos c,if_neg (show ¬ p.1<(m:Int) by omega),if_pos (by push_cast;omega)]
     omega
    ·rw[if_neg c]
     by_cases d:p.1<(m:Int)
     ·rw[if_pos d,if_pos (by push_cast;omega)]
      omega
     ·rw[if_neg d,if_neg (by push_cast;omega)]
      omega
  unfold eI at ih ⊢;rw[key n,ih,if_pos p9,Mt]
theorem J6 (lv hf:Str->Int) (ws:List Str):∀ ds:List Dn,((cq lv hf ws ds).length:Int)=ws.length + jH lv ds:=fun ds=>by
 unfold cq jH;rw[Mg,L9];have:((ds.flatMap (eU lv)).length:Int)=(ds.map fun q=>(((dOf lv q - 1).toNat:Nat):Int)).sum:=by
  induction ds with
  | nil=>rfl
  | cons q ds ih=>
   rw[NC,Mg,MG,NF,<- ih];have:(eU lv q).length=(dOf lv q - 1).toNat:=by unfold eU;rw[L9,MU]
   rw[this]
   push_cast
   rfl
 push_cast
 rw[this]
theorem Ju {hf:Str->Int}{ds:List Dn} (h0:∀ x∈ws,0<=lv x/\lv x<n) (hd:∀ q∈ds,q.up∈ws/\q.lo∈ws):∀ p∈cq lv hf ws ds,0<=p.1/\p.1<n:=fun p hp=>by
 unfold cq at hp;rcases List.mem_append.mp hp with z|z
 ·obtain⟨x,hx,rfl⟩:=List.mem_map.mp z
  exact h0 x hx
 ·obtain⟨q,hq,hm⟩:=List.mem_flatMap.mp z
  unfold eU at hm;obtain⟨k,hk,rfl⟩:=List.mem_map.mp hm;have:=List.mem_range.mp hk;obtain⟨e1,e2⟩:=hd q hq;have:=h0 _ e1;have:=h0 _ e2;unfold dOf at *;show 0<=lv q.up + ((k:Int) + 1)/\lv q.up + ((k:Int) + 1)<n;omega
def dW (ws:List Str) (L:List Int) (x:Str):Int:=L.getD (ws.idxOf x) 0
theorem B5  (nd:ws.Nodup) (hl:L.length=ws.length):ws.map (dW ws L)=L:=by
 apply OE;intro i;rw[Mm];cases e:ws[i]? with
 | none=>
  have:ws.length<=i:=List.getElem?_eq_none_iff.mp e;rw[List.getElem?_eq_none_iff.mpr (by omega)];rfl
 | some x=>
  have hi:=(List.getElem?_eq_some_iff.mp e).1;have mx:=Me e;have h1:ws.idxOf x<ws.length:=List.idxOf_lt_length_iff.mpr mx;have h2:ws[ws.idxOf x]?=some x:=by rw[Mj h1,List.getElem_idxOf h1]
  have h3:=xI nd h2 e;show some (dW ws L x)=_;unfold dW;rw[h3,My,Mj (by omega)];rfl
def NmE (ws:List Str):Prop:=ws=[]\/oG ws
theorem NmE.nd {ws:List Str} (h:NmE ws):ws.Nodup:=by
 rcases h with rfl|h
 ·exact NO
 ·exact h.nd
theorem NmE.hi {ws:List Str} (h:NmE ws):ws.length<=6:=by
 rcases h with rfl|h
 ·exact MW _
 ·exact h.hi
theorem NmE.is_ {ws:List Str} (h:NmE ws):∀ x∈ws,d4 x=true/\oq x=false:=by
 rcases h with rfl|h
 ·exact fun x hx=>by cases hx
 ·exact fun x hx=>⟨h.is_ x hx,h.dt x hx⟩
section
variable {K:PySem.W.Frag}
def a5D (z:Ai):Dt:=.tup [.int z.num,.int z.one,.int z.other,.int z.wt,.int z.sp]
theorem AV {H:Hp}:∀ {ys:List V}{zs:List Ai},A5s K H ys zs->aM K H (zs.map a5D) ys
 | [],[],_=>rfl
 | _::_,z::_,h=>by
  obtain⟨⟨t,rfl,ht⟩,h2⟩:=h;exact⟨_,_,Y,⟨t,_,Y,ht,_,_,Y,Y,_,_,Y,Y,_,_,Y,Y,_,_,Y,Y,_,_,Y,Y,Y⟩,AV h2⟩
 | [],_::_,h=>h.elim
 | _::_,[],h=>h.elim
theorem IV  (z:Ai):fK (n + 1) (a5D z):=by cases n <;> exact⟨trivial,trivial,trivial,trivial,trivial,trivial⟩
theorem Ht  (e:zs=[]):(if true=true then !eqD (.lst (zs.map a5D)) (.lst []) else eqD (.lst (zs.map a5D)) (.lst []))=false:=by
 rw[e];rfl
theorem F2.erase {α β:Type}{R:α->β->Prop}:∀ {l:List α}{m:List β} (_:F2 R l m) (k:Nat),F2 R (l.eraseIdx k) (m.eraseIdx k)
 | [],[],h,_=>h
 | _::_,_::_,h,0=>h.2
 | _::_,_::_,h,k + 1=>⟨h.1,F2.erase h.2 k⟩
 | [],_::_,h,_=>h.elim
 | _::_,[],h,_=>h.elim
theorem sumN (l:List Nat):(l.map fun n:Nat=>(n:Int)).sum=((l.sum:Nat):Int):=by
 induction l with
 | nil=>rfl
 | cons x l ih=>rw[MG,NF,NF,ih];push_cast;rfl
theorem Kk  (e:ws=[]):(if true=true then !eqD (.lst (ws.map Dt.str)) (.lst []) else eqD (.lst (ws.map Dt.str)) (.lst []))=false:=by
 rw[e];rfl
def spLaw (K:PySem.W.Frag) (t:Adr):Sp:=fun vs H Q _=>∃ (p:Addr) (ns:List Int),vs=[.ref p]/\SqL K H p (ns.map V.int)/\ns.length<=63/\H t.tb_items_along=some (.tbl oJ nW)/\∀ H',Q (.bl true) H'
theorem ok_law (T:Tx K mg a) (f:Addr) (fd:FuncData) (F:dR K "law" "law" mK f fd):bX P w K mg base CX0 9 f fd ["_law_script"] (spLaw K a):=by
 have bx:=J9 (P:=P) (w:=w) (base:=base) T;have dF:=Gr (P:=P) (w:=w) (base:=base) T;have a9:=CA (P:=P) (w:=w) (base:=base) T;have i_Net:=Ip (P:=P) (w:=w) (base:=base) T;have m_Net_put_point:=ok_put (P:=P) (w:=w) (base:=base) T;have m_Net_take_arrow:=Ho (P:=P) (w:=w) (base:=base) T;have c5:=KE (P:=P) (w:=w) (base:=base) T;have ie:=Gc (P:=P) (w:=w) (base:=base) T;have eh:=Jy (P:=P) (w:=w) (base:=base) T;have c6:=JK (P:=P) (w:=w) (base:=base) T;have fA:=ok_due (P:=P) (w:=w) (base:=base) T;have dC:=F9 (P:=P) (w:=w) (base:=base) T;have ci:=HL (P:=P) (w:=w) (base:=base) T;have aR:=G9 (P:=P) (w:=w) (base:=base) T;have d8:=IG (P:=P) (w:=w) (base:=base) T;refine F.ok di (fun vs H Q E h=>?_) (fun aw A outer s H vs Q E hr h=>?_)
 ·obtain⟨p,ns,rfl,_⟩:=h
  rfl
 ·obtain⟨p,ns,rfl,hS,La,jE,k⟩:=h
  refine⟨_,(ao (aU (i:=1) di.nd Y (.inr Y) (aG dz (bD bx (hr.mono (by decide)) rfl (ag (pv 0) (ag am aj))) am))
   (ao (aU (i:=2) di.nd Y (.inl Y) (bD dF (hr.mono (by decide)) rfl (ag (pv 1) aj)))
   (ao (bG (bw rz (aG dz (aG lr (pv 1) am) am) am (br _)) (aq (aU (i:=2) di.nd Y (.inl Y) (bH aj))) bO)
   (ao (aU (i:=3) di.nd Y (.inr Y) (bD a9 (hr.mono (by decide)) rfl (ag (bD bx (hr.mono (by decide)) rfl (ag (pv 0) (ag am aj))) (ag am aj))))
   (ao (aU (i:=4) di.nd Y (.inl Y) (Ke i_Net (hr.mono (by decide)) rfl))
   (ao (oH (i:=5) di.nd Y Y (N:=["_law_k","_law_cell","_law_xs"]) (cap:=[none,some 1,some 3]) Y (cH (osc:=aA mK) (XN:=["_law_script","_law_cell","_law_names_here","_law_xs","_law_net","_law_halves","_law_k","_law_name","_law_arrows_here","_law_down_here","_law_levels_here","_law_by_name","_law_due_here","_law_lines_here","_law_told_here"]) Y Y (by decide +kernel)) (kQ rfl T.n_range (ag (bu eG rfl T.n_len cQ (ag (pv 2) aj)) aj)) (fun cl C s H fp aa=>(aD (i:=0) (show(["_law_k","_law_cell","_law_xs"]:List Str).Nodup by decide +kernel) rfl (.inl rfl))) (fun cl C s H fp aa=>dM) (fun cl C s H fp aa=>(aF (kI (K:=K) Y) (bH (ag am (ag (aG dz (aF (kI (K:=K) Y) (pv 2) (aG dZ am (pv 0)) (fun _ _=>Y)) am) aj))) (aG dz (aG lr (pv 1) am) am) (fun _ _=>Y))) (hsw:=Y))
   (ao (cP PassesOwn.never rfl (CG rfl T.n_enumerate (ag (pv 2) aj)) (gR rfl (aQ (aD (i:=6) di.nd Y (.inl Y)) (aQ (aD (i:=7) di.nd Y (.inl Y)) fU))) (aq (ck (kK (pv 4) T.c_Net m_Net_put_point sS (hr.mono (by decide)) (ag (pv 7) (ag (aF bC (pv 5) (pv 6) (fun _ _=>Y)) aj))))))
   (ao (aU (i:=8) di.nd Y (.inl Y) (bH aj))
   (ao (bG (bw (tN hr.units) (pv 2) (bH aj) (br _)) (aq (aU (i:=8) di.nd Y (.inl Y) (bD c5 (hr.mono (by decide)) rfl (ag (pv 4) (ag (pv 2) (ag (pv 0) aj)))))) bO)
   (ao (bG (PW.pt (wW (bw (tN hr.units) (pv 8) (bH aj) (br _)) (wb (bw rz (aG dz (aG lr (pv 1) am) am) am (br _))))) (aq (ck (kK (pv 4) T.c_Net m_Net_take_arrow sS (hr.mono (by decide)) (ag (aF cB (dL PySem.F.plainAttrs_list PySem.F.slot_list_pop PySem.F.type_list_pop AT (pv 8) (ag (aG dz (aG lr (pv 1) am) (bu eG rfl T.n_len cQ (ag (pv 8) aj))) aj)) am (fun _ _=>Y)) aj)))) bO)
   (ao (aU (i:=9) di.nd Y (.inl Y) (bD eh (hr.mono (by decide)) rfl (ag (pv 8) (ag (bD ie (hr.mono (by decide)) rfl (ag (pv 4) aj)) aj))))
   (ao (aU (i:=10) di.nd Y (.inl Y) (bD c6 (hr.mono (by decide)) rfl (ag (pv 2) (ag (pv 9) (ag (pv 3) aj)))))
   (ao (aU (i:=11) di.nd Y (.inl Y) qx)
   (ao (cP PassesOwn.never rfl (CG rfl T.n_enumerate (ag (pv 2) aj)) (gR rfl (aQ (aD (i:=6) di.nd Y (.inl Y)) (aQ (aD (i:=7) di.nd Y (.inl Y)) fU))) (aq (tS (eR hr) (pv 11) (pv 7) (aF bC (pv 10) (pv 6) (fun _ _=>Y)) Y)))
   (ao (aU (i:=12) di.nd Y (.inl Y) (bD fA (hr.mono (by decide)) rfl (ag (pv 2) (ag (pv 5) (ag (pv 10) (ag (pv 9) aj))))))
   (ao (aU (i:=13) di.nd Y (.inl Y) (bD dC (hr.mono (by decide)) rfl (ag (pv 2) (ag (pv 10) (ag (pv 9) aj)))))
   (ao (aU (i:=14) di.nd Y (.inl Y) (bD ci (hr.mono (by decide)) rfl (ag (pv 4) (ag (pv 11) aj))))
   (ao (bG (PW.pt (eJ (bw oz (bu eG rfl T.n_len cQ (ag (pv 12) aj)) am (br _)) (gH (bw oz (aG mU (bu Aq rfl T.n_sum B1 (ag (eX (N:=["_law_row"]) (cap:=[none]) Y (cH (osc:=aA mK) (XN:=["_law_script","_law_cell","_law_names_here","_law_xs","_law_net","_law_halves","_law_k","_law_name","_law_arrows_here","_law_down_here","_law_levels_here","_law_by_name","_law_due_here","_law_lines_here","_law_told_here"]) Y Y (by decide +kernel)) (cw (pv 12)) (fun cl C s H fp aa=>(aD (i:=0) (show(["_law_row"]:List Str).Nodup by decide +kernel) rfl (.inl rfl))) (fun cl C s H fp aa=>dM) (fun cl C s H fp aa=>(bu (CJ (K:=K) Y) Y T.n_len cQ (ag (pv 0) aj)))) aj)) (bu eG Y T.n_len cQ (ag (pv 2) aj))) am (br _))))) (aq (aO (pe_cmp (wZ (pv 14))))) bO)
   (ao (bG (PW.pt (eJ (qE (wZ (pv 14))) (eJ (gS (fL (bD aR (hr.mono (by decide)) rfl (ag (aF cB (pv 14) am (fun _ _=>Y)) (ag (pv 12) (ag (pv 8) aj)))))) (gH (bw (tN hr.units) (aF cB (pv 14) am (fun _ _=>Y)) (pv 13) (br _)))))) (aq (aO gY)) bO)
   (ao (bG (gS (fL (bD d8 (hr.mono (by decide)) rfl (ag (pv 14) (ag (pv 12) (ag (pv 13) aj)))))) (aq (aO gY)) bO)
   (ao (ck (sJ PySem.F.plainAttrs_list PySem.F.slot_list_clear PySem.F.type_list_clear xA (aF cB (pv 14) am (fun _ _=>Y))))
   (ao (ck (sJ PySem.F.plainAttrs_list PySem.F.slot_list_clear PySem.F.type_list_clear xA (aF cB (pv 14) am (fun _ _=>Y))))
   (ao (aU (i:=14) di.nd Y (.inl Y) (bD ci (hr.mono (by decide)) rfl (ag (pv 4) (ag (pv 11) aj))))
   (aq (aO (tm (bD aR (hr.mono (by decide)) rfl (ag (aF cB (pv 14) am (fun _ _=>Y)) (ag (pv 12) (ag (pv 8) aj)))) (xC (mG (zU hr.units) (aF cB (pv 14) am (fun _ _=>Y)) (pv 13) (br _))))))))))))))))))))))))))))),?_⟩
  refine⟨_,Y,p,ns,0,Y,hS,MX 0,fun c0=>⟨_,_,Y,Y,(by show(0:Int)<2147483647;decide),?_⟩⟩;dsimp only[aV];generalize c0 % 2147483647=c;refine⟨_,Y,c,Y,fun E8 FB H1 s1 n1 h1 EQ=>?_⟩;apply wC (fun y:Addr×List Str=>[some (.ref p),some (.int c),some (.ref y.1),none,none,none,none,none,none,none,none,none,none,none,none]) (fun y H'=>af H H'/\H y.1=none/\H' y.1=some (.lst (y.2.map V.str))/\NmE y.2)
  case g=>
   intro aW;refine⟨_,Y,_,_,Y,Y,⟨by decide,by decide⟩,_,_,Y,Y,(by show(0:Int)<8;decide),Y,_,Y,?_⟩;refine bE (fun cc=>⟨(by show 0<=sizeLine;decide),fun q nq=>?_⟩) (fun cc=>aW (E8,FB) H1 ⟨s1,n1,h1,.inr EQ⟩);exact aW (q,[]) _ ⟨s1.trans (af.new nq),ji s1 nq,ah,.inl Y⟩
  case h=>
   rintro⟨nm,ws⟩ H2 ⟨s2,Fb,cG,ok⟩
   dsimp only at Fb cG ok ⊢;have nd:=ok.nd;have yM:=ok.hi;have E5:ws≠[]->oG ws:=fun h=>ok.resolve_left h
   refine⟨_,Y,p,ns,1,Y,s2.sqL hS,by decide,fun c1=>⟨c1,14,Y,by decide,by decide,fun xl xs H3 s3 CT gc vg=>?_⟩⟩;have vg:xs.length=14:=by omega
   have t3:=s2.trans s3;have cE:=s3 _ _ cG;refine fun x dx nx yN K9=>⟨x,dx,Y,ah,fun r H4 fr fo N4=>⟨Y,?_⟩⟩
   have s4:af H3 H4:=fun b o e=>fr b o (by rw[ak (aE e nx),ak (aE e yN)];exact e) (aE e nx)
   have ap:xo H3 x r:=fun b o e=>⟨aE e nx,fo b o (by rw[ak (aE e nx),ak (aE e yN)];exact e)⟩
   have t4:=t3.trans s4;have vc:=s4 _ _ gc;have pW:=s4 _ _ cE;refine⟨_,Y,nm,_,Y,.inl (SqL.of pW),_,Y,by omega,by rw[L9];omega,fun D nD=>?_⟩;refine ow (lo:=0) (n:=(((ws.map V.str).length:Nat):Int).toNat) (fun i τ G=>∃ v1,∃ L:List Int,τ=[v1,some (.int c),some (.ref xl)]/\af H4 G/\G D=some (.lst (L.map V.int))/\L.length=i/\∀ z∈L,0<=z/\z<=50) ⟨none,[],rfl,af.new nD,ah,rfl,fun z hz=>by cases hz⟩ ?_ ?_
   ·rintro i τ G hi ⟨v1,L,rfl,sg,hG,ll,lb⟩
    rw[MA,L9] at hi;obtain⟨xi,_,ai⟩:=K42.zdS (ns:=xs) (k:=8 + (0 + (i:Int))) (by omega) (by rw[vg];omega);dsimp only[aV,cJ];rw[if_pos rfl];refine⟨_,Y,_,Y,_,_,Y,Y,xl,_,_,_,Y,Y,SqL.of (sg _ _ vc),ai,_,_,Y,Y,(by show(0:Int)<51;decide),(by show 2<=sizeLine;decide),fun q nq=>?_⟩;have s5:af G (upd G q (.lst [.int 0,.int (xi % 51)])):=af.new nq;have h5:upd G q (.lst [.int 0,.int (xi % 51)]) q=some (.lst [.int 0,.int (xi % 51)]):=ah;dsimp only at s5 h5 ⊢;generalize upd G q (.lst [.int 0,.int (xi % 51)])=G1 at s5 h5 ⊢;obtain⟨u,au,mu⟩:=at2 (x:=0) (y:=xi % 51) (m:=c / 192 % 2) (MR _ (by decide)) (MK _ (by decide));have b0:0<=xi % 51:=MR _ (by decide);have b1:xi % 51<51:=MK _ (by decide);refine⟨_,Y,_,_,Y,Y,⟨by decide,by decide⟩,_,_,Y,Y,(by show(0:Int)<2;decide),q,_,_,_,Y,Y,SqL.of h5,au,_,s5 _ _ hG,by rw[L9,ll,Mh];omega,_,L++[u],Y,bY nD (sg.trans s5),by rw[ah,Mf];rfl,by rw[Mg,ll];rfl,fun z hz=>?_⟩;rcases List.mem_append.mp hz with y|y
    ·exact lb z y
    ·rw[List.mem_singleton.mp y]
     omega
   rintro τ H5 ⟨v1,hs,rfl,s5,h5,zC,l8⟩
   rw[MA,L9] at zC;have xL:ws.map (dW ws hs)=hs:=B5 nd zC;rw[<- xL] at h5;have hb:∀ x∈ws,0<=dW ws hs x/\dW ws hs x<=50:=fun x hx=>by
    have hm:dW ws hs x∈ws.map (dW ws hs):=Ni hx;rw[xL] at hm;exact l8 _ hm
   generalize dW ws hs=hf at h5 hb;have t5:=t4.trans s5;have ma:=s5 _ _ pW;have N5:=N4.same s5;obtain⟨D1,D2,D3,D4,D5⟩:=qY N4 nD;obtain⟨_,e1,e2,e3,e4⟩:=ap _ _ cE;refine⟨_,Y,nm,Y,⟨_,SqL.of ma⟩,AK (K:=K) (l:=nm) (xs:=ws.map V.str) (fun i σ G=>∃ v6 v7,σ=[some (.ref p),some (.int c),some (.ref nm),some (.ref xl),some (.ref x),some (.ref D),v6,v7,none,none,none,none,none,none,none]/\Kp x r H5 G/\bB K a.Net G x r { emp with kvs:=plh hf (ws.take i) })
    ⟨none,none,rfl,Kp.of (af.refl _),N5⟩ ?_ ?_ ?_⟩
   ·rintro i σ G _ ⟨v6,v7,rfl,kp,_⟩
    exact SqL.of (Kp.lst kp N5 ma e3 e4)
   ·rintro i y t σ G hy nt ⟨v6,v7,rfl,kp,NG⟩
    obtain⟨z,hz,rfl⟩:=sO hy;have mz:=Me hz;obtain⟨yD,_⟩:=ok.is_ z mz;obtain⟨z0,E6⟩:=hb z mz;have hi:i<ws.length:=(List.getElem?_eq_some_iff.mp hz).1;have hD:=Kp.lst kp N5 h5 D4 D5;have sg:af G (upd G t (.tup [.int (i:Int),.str z])):=af.new nt;have ht:SqT K (upd G t (.tup [.int (i:Int),.str z])) t [.int (i:Int),.str z]:=SqT.of ah;generalize upd G t (.tup [.int (i:Int),.str z])=G1 at sg ht ⊢;have N1:=NG.same sg;obtain⟨Fw,nR⟩:=N1.ex;refine⟨t,_,Y,ht,Y,_,_,Y,_,_,Y,Y,?_⟩;refine⟨_,Y,x,Fw,_,Y,nR,by rfl,_,Y,_,Y,_,Y,D,_,_,_,Y,Y,SqL.of (sg _ _ hD),jJ hz,x,r,_,z,hf z,Y,xr yD,N1,?_,fun er he=>?_,fun _ G4 DV Ft=>?_⟩
    ·show(plh hf (ws.take i)).length<=1000
     unfold plh;rw[L9,Ml];omega
    ·rw[show jg (plh hf (ws.take i)) z (hf z)=none from Kc hz nd yD (by omega) z0 E6] at he
     cases he
    ·refine⟨_,_,Y,kp.trans ((Kp.of sg).trans DV),?_⟩
     rw[bP hz,BW];exact Ft
   rintro σ H6 ⟨v6,v7,rfl,ur,N6⟩
   rw[L9,Mu] at N6;have CV:=Kp.lst ur N5 ma e3 e4;have yn:=Kp.lst ur N5 h5 D4 D5;have S6:af H3 H6:=ap.kp (s4.trans s5) ur;have Z6:NtZ hf ws { emp with kvs:=plh hf ws } [] 0:=⟨Y,Y,⟨0,Y,Md _,fun z hz=>by cases hz⟩,List.Pairwise.nil,Md _,fun z hz=>by cases hz⟩;refine⟨(by show 0<=sizeLine;decide),fun q0 sj=>?_⟩;have s7:af H6 (upd H6 q0 (.lst [])):=af.new sj;have h7:upd H6 q0 (.lst []) q0=some (.lst []):=ah;obtain⟨_,_,_,q4,q5⟩:=qY N6 sj;have qD:q0≠D:=Ne.symm (aE yn sj);have DX:H3 q0=none:=ji S6 sj;generalize upd H6 q0 (.lst [])=H7 at s7 h7 ⊢;have S7:=S6.trans s7;have N7:=N6.same s7;have nS:=s7 _ _ yn;apply wC (fun y:Addr×List V×List Ai×cI=>[some (.ref p),some (.int c),some (.ref nm),some (.ref xl),some (.ref x),some (.ref D),v6,v7,some (.ref y.1),none,none,none,none,none,none]) (fun y H'=>af H3 H'/\H' D=some (.lst ((ws.map hf).map V.int))/\y.1≠D/\y.1≠r.ls/\y.1≠r.lm/\H3 y.1=none/\H' y.1=some (.lst y.2.1)/\A5s K H' y.2.1 y.2.2.1/\bB K a.Net H' x r y.2.2.2/\NtZ hf ws y.2.2.2 y.2.2.1 12)
   case g=>
    intro aW;refine⟨_,Y,(by show 0<=sizeLine;decide),fun z nz=>?_⟩;have sz:=af.new (H:=H7) (o:=.lst []) nz;have hz:upd H7 z (.lst []) z=some (.lst []):=ah;generalize upd H7 z (.lst [])=H8 at sz hz ⊢;refine⟨.lst (ws.map Dt.str),.lst [],Y,Y,⟨nm,_,Y,SqL.of ((S7.trans sz) _ _ cE),wQ ws⟩,⟨z,_,Y,SqL.of hz,Y⟩,xE (n:=59) ws,_,Y,?_⟩;refine bE (fun cc=>?_) (fun cc=>?_)
    ·have El:oG ws:=E5 fun e=>Bool.noConfusion ((Kk e).symm.trans cc)
     refine⟨_,Y,_,Y,_,Y,x,r,_,nm,p,ws,ns,hf,Y,N7.same sz,Z6,(S7.trans sz) _ _ cE,e3,e4,El,(t3.trans (S7.trans sz)).sqL hS,fun g ys zs v' H9 xO ng hg fa N9 Z9=>?_⟩;have N8:=N7.same sz;obtain⟨_,_,_,g4,g5⟩:=qY N8 ng;dsimp only[aV];exact aW (g,ys,zs,v') H9 ⟨ap.kp (S7.trans sz) xO,Kp.lst xO N8 (sz _ _ nS) D4 D5,Ne.symm (aE (sz _ _ nS) ng),g4,g5,ji (S7.trans sz) ng,hg,fa,N9,Z9⟩
    ·exact aW (q0,[],[],_) H8 ⟨S7.trans sz,sz _ _ nS,qD,q4,q5,DX,sz _ _ h7,trivial,N7.same sz,⟨Z6.kv,Z6.ar,⟨0,Y,MW _,fun z hz=>by cases hz⟩,List.Pairwise.nil,MW _,fun z hz=>by cases hz⟩⟩
   case h=>
    rintro⟨g,ys,zs,v⟩ H9 ⟨S9,zS,gD,g4,g5,ym,hg,fa,N9,Z9⟩
    dsimp only at gD g4 g5 ym hg fa N9 Z9 ⊢;have yl:=fa.len;apply wC (fun y:List V×List Ai×cI=>[some (.ref p),some (.int c),some (.ref nm),some (.ref xl),some (.ref x),some (.ref D),v6,v7,some (.ref g),none,none,none,none,none,none]) (fun y H'=>af H3 H'/\H' D=some (.lst ((ws.map hf).map V.int))/\H' g=some (.lst y.1)/\A5s K H' y.1 y.2.1/\bB K a.Net H' x r y.2.2/\NtZ hf ws y.2.2 y.2.1 12)
    case g=>
     intro aW;refine⟨_,Y,(by show 0<=sizeLine;decide),fun z nz=>?_⟩;have sz:=af.new (H:=H9) (o:=.lst []) nz;have hz:upd H9 z (.lst []) z=some (.lst []):=ah;generalize upd H9 z (.lst [])=fZ at sz hz ⊢;have cY:=sz _ _ hg;have fj:=i7 fa (Tk.of sz);have mh:=N9.same sz;have same:∀ (_:Unit),af H3 fZ/\fZ D=some (.lst ((ws.map hf).map V.int))/\fZ g=some (.lst ys)/\A5s K fZ ys zs/\bB K a.Net fZ x r v/\NtZ hf ws v zs 12:=fun _=>⟨S9.trans sz,sz _ _ zS,cY,fj,mh,Z9⟩
     refine⟨.lst (zs.map a5D),.lst [],Y,Y,⟨g,_,Y,SqL.of cY,AV fj⟩,⟨z,_,Y,SqL.of hz,Y⟩,tG (n:=59) (f:=a5D) (fun q=>IV q) zs,_,Y,?_⟩;refine bE (fun cc=>?_) (fun cc=>iteF (aW (ys,zs,v) fZ (same ())));have Fm:zs≠[]:=fun e=>Bool.noConfusion ((Ht e).symm.trans cc)
     refine⟨_,Y,_,_,Y,Y,⟨by decide,by decide⟩,_,_,Y,Y,(by show(0:Int)<3;decide),Y,_,Y,?_⟩;refine bE (fun cd=>?_) (fun cd=>aW (ys,zs,v) fZ (same ()));have zp:0<zs.length:=List.length_pos_iff.mpr Fm;have yp:(0:Int)<((ys.length:Nat):Int):=by rw[yl];omega
     have i0:0<=c / 1200 % ((ys.length:Nat):Int):=MR _ (by omega);have i1:c / 1200 % ((ys.length:Nat):Int)<((ys.length:Nat):Int):=MK _ yp;obtain⟨u,hu⟩:∃ u,ys[(c / 1200 % ((ys.length:Nat):Int)).toNat]?=some u:=⟨_,Mj (by omega)⟩;obtain⟨zz,yv,tt,rfl,DW⟩:=fj.get hu;obtain⟨Fq,Fg⟩:=mh.ex;have sq:=we (BZ (n:=ys.length) i0 i1);have zl:=Z9.len;refine⟨_,Y,x,Fq,_,Y,Fg,by rfl,_,Y,.inl ⟨Y,_,SqL.of cY⟩,_,Y,_,_,Y,Y,⟨by decide,by decide⟩,_,Y,g,_,Y,.inl (SqL.of cY),_,_,Y,Y,yp,g,ys,_,_,.ref tt,Y,Y,cY,by omega,by omega,sq.1,hu,?_⟩;have tk:Tk fZ (upd fZ g (.lst (ys.eraseIdx (c / 1200 % ((ys.length:Nat):Int)).toNat))):=Tk.upd cY rfl;have pK:=AH (o:=.lst (ys.eraseIdx (c / 1200 % ((ys.length:Nat):Int)).toNat)) mh cY g4 g5;have yx:upd fZ g (.lst (ys.eraseIdx (c / 1200 % ((ys.length:Nat):Int)).toNat)) g=some (.lst (ys.eraseIdx (c / 1200 % ((ys.length:Nat):Int)).toNat)):=ah;have yI:af H3 (upd fZ g (.lst (ys.eraseIdx (c / 1200 % ((ys.length:Nat):Int)).toNat))):=bY ym (S9.trans sz);have o7:upd fZ g (.lst (ys.eraseIdx (c / 1200 % ((ys.length:Nat):Int)).toNat)) D=some (.lst ((ws.map hf).map V.int)):=by rw[ak (Ne.symm gD)];exact sz _ _ zS
     generalize upd fZ g (.lst (ys.eraseIdx (c / 1200 % ((ys.length:Nat):Int)).toNat))=DK at tk pK yx yI o7 ⊢;refine⟨tt,_,_,_,Y,Y,tk.sqT DW,fN (MX 0),x,r,v,(zz.num:Int),Y,pK,fun _ xZ kp DM=>?_,fun e=>absurd (Z9.has (Me yv)) (by rw[e];decide)⟩;refine aW (ys.eraseIdx (c / 1200 % ((ys.length:Nat):Int)).toNat,zs.eraseIdx (c / 1200 % ((ys.length:Nat):Int)).toNat,_) xZ ⟨ap.kp yI kp,Kp.lst kp pK o7 D4 D5,Kp.lst kp pK yx g4 g5,F2.erase (i7 fj (tk.trans (kp.tk pK))) _,DM,Z9.pop yv⟩
    case h=>
     rintro⟨ys,zs,v⟩ fZ ⟨D0,uW,cY,fj,mh,g7⟩
     dsimp only at cY fj mh g7 ⊢;have zl:=g7.len;have al:v.arr.length<=100:=by rw[g7.ar,L9];omega
     obtain⟨rk,R⟩:=g7.rok nd;refine⟨_,Y,_,Y,x,r,v,Y,mh,al,g7.nd,fun kt DK uB Lx yc=>?_⟩;have ed:∀ e∈zs.map (dnZ (gC v.arr)),∃ z∈zs,e.num=z.num/\e.wt=z.wt/\e.sp=z.sp:=fun e he=>by
      obtain⟨z,hz,rfl⟩:=List.mem_map.mp he;obtain⟨q1,q2,q3,_⟩:=BM (gC v.arr) z;exact⟨z,hz,q1,q2,q3⟩
     have jy:F2 ArDn v.arr ((zs.map (dnZ (gC v.arr))).map (aH ws)):=by rw[g7.ar];exact ar_dn g7.ok
     have qi:(zs.map (dnZ (gC v.arr))).length=zs.length:=L9 ..;obtain⟨m,_,LU,rE⟩:=g7.nn;generalize yy:gC v.arr=tn at yc R ed jy qi;refine⟨g,ys,zs,kt,tn,Y,uB _ _ cY,i7 fj (Tk.of uB),by omega,yc,fun dn us xZ Fx LR gO fu=>?_⟩;generalize zs.map (dnZ tn)=es at R ed jy qi fu;have uZ:=uB.trans Fx;have uJ:=D0.trans uZ;refine⟨_,Y,_,Y,_,Y,nm,dn,xl,ws,us,es,xs,rk,Y,uJ _ _ cE,gO,fu,uJ _ _ gc,vg,yM,by omega,R,fun la L oY nJ Ld gb Ll Lb Le=>?_⟩;have eL:ws.map (dW ws L)=L:=B5 nd Ll;have gx:∀ {i:Nat}{y:Str},ws[i]?=some y->dW ws L y=gL L i:=fun {i y} h=>by
      have hi:=(List.getElem?_eq_some_iff.mp h).1;have h1:(ws.map (dW ws L))[i]?=some (dW ws L y):=by rw[Mm,h];rfl
      rw[eL] at h1;unfold gL;rw[My,h1];rfl
     have l9:∀ y∈ws,0<=dW ws L y/\dW ws L y<900:=fun y hy=>by
      obtain⟨i,hi⟩:=List.mem_iff_getElem?.mp hy;rw[gx hi];exact Lb i (List.getElem?_eq_some_iff.mp hi).1
     have uX:∀ e∈es,dW ws L (ws.getD e.one "")<dW ws L (ws.getD e.other ""):=fun e he=>by
      obtain⟨q1,q2,_⟩:=R.lt e he;rw[gx (dY q1),gx (dY q2)];exact Le e he
     rw[<- eL] at gb;generalize dW ws L=lv at gb l9 uX;have uz:=uJ.trans nJ;obtain⟨n,cn,n9⟩:=B9 lv ws l9;refine fun bn xT=>?_
     have vp:af oY (upd oY bn (.dK [])):=af.new xT;have yS:upd oY bn (.dK []) bn=some (.dK []):=ah;generalize upd oY bn (.dK [])=H14 at vp yS ⊢;have oP:=(uz.trans vp) _ _ cE;refine⟨_,Y,nm,Y,⟨_,SqL.of oP⟩,AK (K:=K) (l:=nm) (xs:=ws.map V.str) (fun i σ G=>∃ v6 v7,σ=[some (.ref p),some (.int c),some (.ref nm),some (.ref xl),some (.ref x),some (.ref D),v6,v7,some (.ref g),some (.ref dn),some (.ref la),some (.ref bn),none,none,none]/\af oY G/\G bn=some (.dK (plh lv (ws.take i))))
      ⟨v6,v7,rfl,vp,yS⟩ ?_ ?_ ?_⟩
     ·rintro i σ G _ ⟨_,_,rfl,sg,_⟩
      exact SqL.of ((uz.trans sg) _ _ cE)
     ·rintro i y t σ G hy nt ⟨v6,v7,rfl,sg,jD⟩
      obtain⟨z,hz,rfl⟩:=sO hy;have hi:i<ws.length:=(List.getElem?_eq_some_iff.mp hz).1;have dB:af G (upd G t (.tup [.int (i:Int),.str z])):=af.new nt;have ht:SqT K (upd G t (.tup [.int (i:Int),.str z])) t [.int (i:Int),.str z]:=SqT.of ah;generalize upd G t (.tup [.int (i:Int),.str z])=G1 at dB ht ⊢;refine⟨t,_,Y,ht,Y,_,_,Y,_,_,Y,Y,?_⟩;have vn:bc (plh lv (ws.take i)) (Sum.inr z)=none:=Aj lv fun hm=>by
       obtain⟨j,hj⟩:=List.mem_iff_getElem?.mp hm;have vX:j<i:=by
        have:=(List.getElem?_eq_some_iff.mp hj).1;rw[Ml] at this;omega
       rw[Pq,if_pos vX] at hj;have:=xI nd hj hz;omega
      have pl:(plh lv (ws.take i)).length<=6:=by
       unfold plh;rw[L9,Ml];omega
      refine⟨_,Y,_,Y,la,_,_,_,Y,Y,SqL.of ((sg.trans dB) _ _ gb),jJ hz,_,Y,_,Y,bn,_,Y,nA.k (k:=Sum.inr z) (dB _ _ jD) (by rw[Mh];omega),?_⟩;refine⟨_,_,Y,bY xT (sg.trans dB),?_⟩;rw[ah,sW _ vn,bP hz,BW]
     rintro σ Lh ⟨v6,v7,rfl,kq,rZ⟩
     rw[L9,Mu] at rZ;have uu:=uz.trans kq;have pU:=i7 fu (Tk.of (nJ.trans kq));have DI:DueIn ws es lv n:=⟨cn,n9,by omega,by omega,fun y hy=>(l9 y hy).1,fun e he=>by
      obtain⟨q1,q2,_⟩:=R.lt e he;obtain⟨z,hz,e1,_⟩:=ed e he;have:=rE z hz;exact⟨q1,q2,by omega⟩⟩
     refine⟨_,Y,_,Y,_,Y,_,Y,nm,D,la,dn,ws,us,es,hf,lv,n,Y,uu _ _ cE,(uZ.trans (nJ.trans kq)) _ _ uW,kq _ _ gb,(nJ.trans kq) _ _ gO,pU,DI,fun gd ds LK lJ LZ EB fd=>?_⟩;refine⟨_,Y,_,Y,_,Y,nm,la,dn,ws,us,es,lv,hf,Y,(uu.trans lJ) _ _ cE,(kq.trans lJ) _ _ gb,(nJ.trans (kq.trans lJ)) _ _ gO,i7 pU (Tk.of lJ),by omega,by omega,l9,fun e he=>?_,fun gl ls vm qv zn Ei dl=>?_⟩
     ·obtain⟨q1,q2,_⟩:=R.lt e he
      obtain⟨z,hz,e1,e2,_⟩:=ed e he;have:=rE z hz;have o:=g7.ok z hz;have w1:=o.w1;have w2:=o.w2;have:=uX e he;refine⟨q1,q2,by omega,by omega,by omega,?_⟩;show 0<lv (ws.getD e.other "") - lv (ws.getD e.one "");omega
     have uy:=uu.trans (lJ.trans qv);have DS:=uZ.trans (nJ.trans (kq.trans (lJ.trans qv)));have zH:=mh.same DS;have jX:=(lJ.trans qv) _ _ rZ;have bW:=qv _ _ EB;have d6:=fd.mono fun _ _ z=>z.same qv
     have kD:=(t3.trans uy) _ _ jE;have S:jT K v (plh lv ws) ws (es.map (aH ws)) lv hf:=⟨by rw[g7.kv,Kv],fun y hy=>by rw[g7.kv];exact xk hf hy,fun y hy=>xk lv hy,l9,by omega,by rw[L9];omega,fun q hq=>by
      obtain⟨e,he,rfl⟩:=List.mem_map.mp hq;obtain⟨q1,q2,_⟩:=R.lt e he;obtain⟨z,hz,e1,_⟩:=ed e he;have:=rE z hz;refine⟨Me (dY q1),Me (dY q2),uX e he,?_⟩;show Lo (e.num:Int)
      constructor <;> omega,fun y hy=>xr (ok.is_ y hy).1⟩
     have rl:(eI n (cq lv hf ws (es.map (aH ws)))).length=n:=by unfold eI;rw[L9,MU]
     have K6:ds.length=n:=by rw[fd.len,L9,rl]
     have lK:((eI n (cq lv hf ws (es.map (aH ws)))).map List.length).sum=(cq lv hf ws (es.map (aH ws))).length:=Ao n _ (Ju (fun y hy=>⟨(l9 y hy).1,cn.2.1 y hy⟩) fun q hq=>⟨(S.ends q hq).1,(S.ends q hq).2.1⟩);have uS:=J6 lv hf ws (es.map (aH ws));have lI:(((eI n (cq lv hf ws (es.map (aH ws)))).map duI).map fun r=>((r.length:Nat):Int)).sum=ws.length + jH lv (es.map (aH ws)):=by
      rw[<- uS,<- lK,<- sumN,Nw,Nw];congr 1;apply Pi;intro r _;show(((duI r).length:Nat):Int)=((r.length:Nat):Int);unfold duI;rw[L9]
     have lO:(((eI n (cq lv hf ws (es.map (aH ws)))).map duI).map List.length).sum=(cq lv hf ws (es.map (aH ws))).length:=by
      rw[<- lK,Nw];congr 1;apply Pi;intro r _;show(duI r).length=r.length;unfold duI;rw[L9]
     have xP:∀ zP∈eI n (cq lv hf ws (es.map (aH ws))),n<=20->∀ it∈zP,it.Ok/\it.Gd:=fun zP hr rP it hi=>by
      unfold eI at hr;obtain⟨i,iT,rfl⟩:=List.mem_map.mp hr;have il:=List.mem_range.mp iT;unfold bN at hi;obtain⟨pp,DZ,rfl⟩:=List.mem_map.mp hi;obtain⟨bq,gZ⟩:=List.mem_filter.mp DZ;have nR:pp.1=(i:Int):=by simpa using gZ
      unfold cq at bq;rcases List.mem_append.mp bq with z|z
      ·obtain⟨y,hy,rfl⟩:=List.mem_map.mp z
       obtain⟨Dh,E3⟩:=ok.is_ y hy;exact⟨xr Dh,E3⟩
      ·obtain⟨q,hq,hm⟩:=List.mem_flatMap.mp z
       unfold eU at hm;obtain⟨kk,hk,rfl⟩:=List.mem_map.mp hm;obtain⟨e,he,rfl⟩:=List.mem_map.mp hq;obtain⟨q1,_⟩:=R.lt e he;have u0:=(l9 _ (Me (dY q1))).1;obtain⟨z',iZ,e1,_⟩:=ed e he;have:=rE z' iZ;have Lj:lv (ws.getD e.one "") + ((kk:Int) + 1)=(i:Int):=nR;refine⟨⟨by show Lo (e.num:Int);constructor <;> omega,by show Lo ((kk:Int) + 1);constructor <;> omega⟩,e.num,kk + 1,Y,by push_cast;rfl,by omega,by omega⟩
     generalize jZ:eI n (cq lv hf ws (es.map (aH ws)))=rows at fd d6 rl lK lI lO xP;have dE:((ws.map V.str).length:Int)=(ws.length:Int):=by rw[L9]
     refine⟨_,Y,_,Y,x,r,v,bn,plh lv ws,ws,es.map (aH ws),lv,hf,n,Y,zH,jX,S,jy,cn,kD,fun hl ue gu=>?_,fun rP ud t gT lT rs yB ue gu ht Dm Fu DB vK uR uc vE=>?_⟩
     ·dsimp only[aV]
      refine⟨_,Y,gd,_,Y,.inl (SqL.of (gu _ _ bW)),_,_,Y,Y,_,Y,?_⟩;refine bE (fun ca=>⟨_,Y,k _⟩) (fun ca=>?_);have sw:¬ ((ds.length:Nat):Int) > 20:=MZ ca;refine⟨_,Y,gd,Y,⟨_,SqL.of (gu _ _ bW)⟩,fun D8 pF=>?_⟩;refine gA (K:=K) (a:=gd) (xs:=ds) (fun j τ G=>∃ v1,τ=[v1]/\af ue G/\G D8=some (.lst ((((rows.map duI).take j).map fun r=>((r.length:Nat):Int)).map V.int))) ⟨none,Y,af.new pF,ah⟩ ?_ ?_ ?_
      ·rintro j τ G _ ⟨_,rfl,sg,_⟩
       exact SqL.of ((gu.trans sg) _ _ bW)
      ·rintro j y τ G hy ⟨v1,rfl,sg,hG⟩
       obtain⟨dr,er,t8,z8,rfl,h8,f8⟩:=(d6.mono fun _ _ z=>z.same (gu.trans sg)).get hy;have hj:j<ds.length:=(List.getElem?_eq_some_iff.mp hy).1;dsimp only[aV,cJ];rw[if_pos rfl];refine⟨_,Y,t8,_,Y,.inl (SqL.of h8),_,hG,by rw[L9,L9,Ml,Mh];omega,_,Y,bY pF sg,?_⟩;rw[ah,bP er,Mf,Mf,f8.len];rfl
      rintro τ G8 ⟨v1,rfl,kC,ql⟩
      rw[d6.len,Mu] at ql;refine⟨D8,_,Y,SqL.of ql,_,Y,nm,_,Y,.inl (SqL.of ((uy.trans (gu.trans kC)) _ _ cE)),_,_,Y,Y,_,_,Y,Y,_,Y,?_⟩;refine bE (fun cb=>⟨_,Y,k _⟩) (fun cb=>?_)
      exfalso
      have lX:=MZ cb;rw[lI,dE] at lX;rcases hl with z|z
      ·omega
      ·exact lX (by omega)
     ·dsimp only[aV]
      rw[jZ] at uR;refine⟨_,Y,gd,_,Y,.inl (SqL.of (gu _ _ bW)),_,_,Y,Y,_,Y,?_⟩;refine bE (fun ca=>absurd (MP ca) (by omega)) (fun ca=>?_);have sw:¬ ((ds.length:Nat):Int) > 20:=MZ ca;refine⟨_,Y,gd,Y,⟨_,SqL.of (gu _ _ bW)⟩,fun D8 pF=>?_⟩;refine gA (K:=K) (a:=gd) (xs:=ds) (fun j τ G=>∃ v1,τ=[v1]/\af ue G/\G D8=some (.lst ((((rows.map duI).take j).map fun r=>((r.length:Nat):Int)).map V.int))) ⟨none,Y,af.new pF,ah⟩ ?_ ?_ ?_
      ·rintro j τ G _ ⟨_,rfl,sg,_⟩
       exact SqL.of ((gu.trans sg) _ _ bW)
      ·rintro j y τ G hy ⟨v1,rfl,sg,hG⟩
       obtain⟨dr,er,t8,z8,rfl,h8,f8⟩:=(d6.mono fun _ _ z=>z.same (gu.trans sg)).get hy;have hj:j<ds.length:=(List.getElem?_eq_some_iff.mp hy).1;dsimp only[aV,cJ];rw[if_pos rfl];refine⟨_,Y,t8,_,Y,.inl (SqL.of h8),_,hG,by rw[L9,L9,Ml,Mh];omega,_,Y,bY pF sg,?_⟩;rw[ah,bP er,Mf,Mf,f8.len];rfl
      rintro τ G8 ⟨v1,rfl,kC,ql⟩
      rw[d6.len,Mu] at ql;refine⟨D8,_,Y,SqL.of ql,_,Y,nm,_,Y,.inl (SqL.of ((uy.trans (gu.trans kC)) _ _ cE)),_,_,Y,Y,_,_,Y,Y,_,Y,?_⟩;refine bE (fun cb=>?_) (fun cb=>?_)
      ·exfalso
       have lX:=MP cb;rw[lI,dE] at lX;omega
      have sT:=gu.trans kC;have uI:∀ r∈rows,∀ it∈r,it.Ok/\it.Gd:=fun r hr=>xP r hr rP
      have Fp:∀ r∈rows,tO r:=fun r hr=>⟨by
       have h1:=w5 (l:=(rows.map duI).map List.length) (x:=r.length) (by
        have:=Ni (f:=List.length) (Ni (f:=duI) hr)
        rwa [show(duI r).length=r.length from L9 ..] at this)
       rw[lO] at h1;omega,fun it hi=>(uI r hr it hi).1⟩
      have e0:∀ d:Dt,(if true=true then !eqD d d else eqD d d)=false:=fun d=>by rw[if_pos rfl,mQ];rfl
      have iw:vm gl=some (.lst ls):=Ei;have Dq:(cq lv hf ws (es.map (aH ws))).length<=1000:=by omega
      have zE:((es.map (aH ws)).flatMap (dQ lv hf)).length<=100000:=by
       have key:∀ l:List Dn,(∀ q∈l,0<dOf lv q/\dOf lv q<900)->(l.flatMap (dQ lv hf)).length<=l.length * 900:=fun l=>by
        induction l with
        | nil=>exact fun _=>Md _
        | cons q l ih=>
         intro h;obtain⟨d0,d9⟩:=h q Ms;have:=ih fun q hq=>h q (Mo _ hq)
         rw[NC,Mg,Mt,A1 d0];omega
       have h1:=key _ fun q hq=>S.few hq
       rw[L9] at h1;omega
      generalize uO:(es.map (aH ws)).flatMap (dQ lv hf)=lns at dl vE zE;have yj:fK 60 (.lst (lns.map cK)):=tG (n:=59) (f:=cK) (fun q:Lne=>Jf (n:=58) q) lns;refine⟨_,Y,_,Y,cg Y ?_⟩;refine⟨_,Y,t,_,_,_,Y,Y,SqT.of (kC _ _ ht),Y,_,Y,_,Y,gT,gd,.ref g,rs,ds,rows,Y,kC _ _ vK,m7 uR kC,sT _ _ bW,d6.mono (fun _ _ z=>z.same sT),uI,fun Lv Dg=>⟨_,Y,cg Y ?_⟩⟩;have iQ:=kC.trans Dg;have lx:=gu.trans iQ;refine⟨_,Y,t,_,_,_,Y,Y,SqT.of (iQ _ _ ht),Y,_,Y,.lst (lns.map cK),.lst (lns.map cK),Y,Y,⟨lT,_,Y,SqL.of (iQ _ _ uc),iQ.dts vE⟩,⟨gl,_,Y,SqL.of (lx _ _ iw),lx.dts dl⟩,yj,_,Y,cg (e0 _) ?_⟩;refine⟨_,Y,_,Y,_,Y,t,gT,lT,rs,yB,gd,ds,rows,gl,ls,lns,Y,iQ _ _ ht,iQ _ _ vK,m7 uR iQ,iQ _ _ uc,iQ.dts vE,lx _ _ bW,d6.mono (fun _ _ z=>z.same lx),lx _ _ iw,lx.dts dl,Fp,by omega,by rw[lO];exact Dq,zE,fun pV zj=>⟨_,Y,cg Y ?_⟩⟩;have sB:=iQ.trans zj;have Dr:=lx.trans zj;have im:=sB _ _ vK;refine⟨_,Y,t,_,_,_,Y,Y,SqT.of (sB _ _ ht),Y,.inl ⟨Y,_,SqL.of im⟩,gT,_,Y,Y,im,?_⟩;have uY:Tk pV (upd pV gT (.lst [])):=Tk.upd im rfl;have ic:upd pV gT (.lst []) lT=some (.lst yB):=by rw[ak (Ne.symm DB)];exact sB _ _ uc
      have yq:af vm (upd pV gT (.lst [])):=bY Dm Dr;have pB:=uY.sqT (SqT.of (K:=K) (sB _ _ ht));generalize upd pV gT (.lst [])=H21 at ic yq pB ⊢;refine⟨_,Y,t,_,_,_,Y,Y,pB,Y,.inl ⟨Y,_,SqL.of ic⟩,lT,_,Y,Y,ic,?_⟩;have pw:af vm (upd H21 lT (.lst [])):=bY Fu yq;generalize upd H21 lT (.lst [])=H22 at pw ⊢;refine⟨_,Y,_,Y,x,r,v,bn,plh lv ws,ws,es.map (aH ws),lv,hf,n,Y,zH.same pw,pw _ _ jX,S,jy,cn,pw _ _ kD,fun hl=>absurd hl (by omega),fun _ _ t2 Dk DG C7 Fh K7 E7 sv _ _ _ vF qe vw pA=>?_⟩;rw[jZ] at qe;rw[uO] at pA;have sf:=pw.trans E7;dsimp only[aV];refine⟨_,Y,t2,_,_,_,Y,Y,SqT.of sv,Y,_,Y,_,Y,Dk,gd,.ref g,C7,ds,rows,Y,vF,qe,sf _ _ bW,d6.mono (fun _ _ z=>z.same sf),uI,fun LD p7=>?_⟩;refine⟨true,Y,lp ?_⟩;refine⟨_,Y,t2,_,_,_,Y,Y,SqT.of (p7 _ _ sv),Y,_,Y,.lst (lns.map cK),.lst (lns.map cK),Y,Y,⟨DG,_,Y,SqL.of (p7 _ _ vw),p7.dts pA⟩,⟨gl,_,Y,SqL.of ((sf.trans p7) _ _ iw),(sf.trans p7).dts dl⟩,yj,?_⟩;show Q (.bl (if false=true then _ else eqD _ _)) _;rw[if_neg (by decide),mQ];exact k _
end
theorem znV {K:PySem.W.Frag}{sl:Array (Option Value)}{i0 i1 i2:Int}{t0 t1 t2:Tok} (h:K.lookup p=some ⟨.type "tuple",od,.seq #[.int i0 t0,.int i1 t1,.int i2 t2] n,sl⟩):∀ H,SqT K H p [.int i0,.int i1,.int i2]:=fun _=>.inr ⟨_,_,_,h,Y,Y,(by show 3<=sizeLine;decide),.cons ⟨_,Y⟩ (.cons ⟨_,Y⟩ (.cons ⟨_,Y⟩ (.nil)))⟩
theorem all_mk {l:PySem.W.OpenLaw}{K:PySem.W.Frag}{h:Heap}{fa f:Addr}{TS:List Addr}{q0 q1 q2 q3 q4 q5 q6 q7 q8 q9 y6 zy xQ yr nL:Addr}{oc:Value}{an:Option Addr}{cX:Array (Option Value)}{kV bF pm aw ct:Value} (X:K.In h) (G:h.Ns mainGlobals mg) (Dv:mg "law"=some (.ref fa)) (T:Tx K mg ⟨q0,q1,q2,q3,q4,q5,q6,q7,q8,q9,y6,zy,xQ,yr,nL⟩) (al:PySem.W.nsIn K mainGlobals "law"=some (some (.ref f))) (ll:K.lookup f=some ⟨oc,od,.func (fnN "law" "law" mK kV bF pm an aw ct),cX⟩) (cl:PySem.W.codeIn K aw "law"=true) (lm0:nL∈TS) (hnd:([nL]:List Addr).Nodup) :
  ∃ (fd:FuncData) (ts:List Tab) (sp:Sp),(∀ (s:Shared) (u:Value),BindsTo s fd ⟨[u],[]⟩ [("_law_script",u)])/\(ts.map (·.1)).Nodup/\(∀ t∈ts,t.1∈TS/\(∃ c,PySem.W.codeHdIn K c t.1=true)/\K.lookup t.1=none) /\
    (∀ (H:Hp) (a:Addr) (ns:List Int),ns.length<=63->rn ts H->SqL K H a (ns.map V.int)->sp [.ref a] H (fun v _=>v=.bl true) fun _ _ _=>False) /\
    ∀ base:Heap,K.In base->base.Ns mainGlobals mg->bX l.prog w K mg base CX0 9 fa fd ["_law_script"] sp:=by
 have e:=Dv.symm.trans (PySem.W.mg_of X G al);cases e
 refine⟨_,[(nL,oJ,nW)],spLaw K ⟨q0,q1,q2,q3,q4,q5,q6,q7,q8,q9,y6,zy,xQ,yr,nL⟩,fun s v=>.of_eq Y,hnd,?_,?_,fun base _ _=>ok_law T _ _ (oy (st:=mK) ll cl)⟩
 ·intro t ht
  simp only[M5,MO,or_false] at ht
  rcases ht with rfl
  ·obtain⟨_,_,⟨c,_,lh⟩,ln⟩:=T.lam_items_along
   exact⟨lm0,⟨c,lh⟩,ln⟩
 ·exact fun H p ns hl hO hS=>⟨p,ns,Y,hS,hl,hO.1 (nL,oJ,nW) (by simp),fun _=>Y⟩
theorem walk {l:PySem.W.OpenLaw}{q:Program}{c9:List Str}{XP:(Str->Option Value)->Heap->Prop}{YP:World->Heap->Prop}{d:DefRec}{K:Params->PySem.W.Frag}{TS:List Addr} (hn:l.most=some 63) (ke:d.params.defaults=[])
  (hY:∀ (w:World) (h:Heap),YP w h->(K w.params).In h/\∀ P∈TS,h.get? P=some (PySem.W.tabObj #[]))
  (F:∀ (w:World) (mg:Str->Option Value) (fa:Addr) (h:Heap),(K w.params).In h->h.Ns mainGlobals mg->mg d.name=some (.ref fa)->∃ (fd:FuncData) (ts:List Tab) (sp:Sp),(∀ (s:Shared) (u:Value),BindsTo s fd ⟨[u],[]⟩ [("_law_script",u)])/\(ts.map (·.1)).Nodup/\(∀ t∈ts,t.1∈TS/\(∃ c,PySem.W.codeHdIn (K w.params) c t.1=true)/\(K w.params).lookup t.1=none) /\
    (∀ (H:Hp) (a:Addr) (ns:List Int),ns.length<=63->rn ts H->SqL (K w.params) H a (ns.map V.int)->sp [.ref a] H (fun v _=>v=.bl true) fun _ _ _=>False) /\
    ∀ base:Heap,(K w.params).In base->base.Ns mainGlobals mg->bX l.prog w (K w.params) mg base CX0 9 fa fd ["_law_script"] sp) :
  PySem.W.WalkO q c9 XP YP l.row.toRowW d [] (fun f vs=>PySem.call f vs):=
 L2.zlL (n:=63) (k:=9) (x:="_law_script") hn (by decide) ke ⟨by decide,by decide⟩ hY F
end K42
namespace PySem.W.Fast
def tw7180839017592745707:=()
def tw9896023984230410130:=()
def tw12131578747747310912:=()
def tw8252459185080094077:=()
def tw12066717882727834948:=()
def tw1036779415265234967:=()
def tw3297111695118115035:=()
def tw7706607047510437469:=()
def tw464054806220652342:=()
def tw1447454882200474026:=()
def tw8450779396830667735:=()
def tw9792826172700982850:=()
def tw14117425533707063240:=()
def tw8183683121264699765:=()
def tw5953603121654241746:=()
def tw11098191473107097839:=()
def tw7948325361236933415:=()
def tw17683961742401864672:=()
def tw7766633348789864301:=()
def tw4663681797954041960:=()
def tw5169579341956938444:=()
def tw6735640190123235238:=()
def tw8364756966440267135:=()
def tw5006769768536082635:=()
def tw16538597160588017904:=()
def tw9273108660729150951:=()
def tw1339694563593449986:=()
def tw4898048651339887806:=()
def tw14732377055059671714:=()
def tw5029683272684838113:=()
def tw15766921697048427028:=()
def tw9352323151850311730:=()
def tw6540789068555857930:=()
def tw5058210155249043205:=()
def tw15896276421618898353:=()
def tw9470480758107373167:=()
def tw5279026400048878766:=()
def tw15907277412814646883:=()
def tw14195702544065560632:=()
def tw6053351936363967467:=()
def tw15952158126387384763:=()
def tw321959738632784996:=()
def tw2421882057124342084:=()
def tw16629051812022675064:=()
def tw4792423431421512562:=()
def tw1679831660091765837:=()
def tw11481850411720860188:=()
def tw12280034712316350756:=()
def tw17187495954129866545:=()
def tw6744810463630443530:=()
def tw6762844365608611070:=()
def tw7735867678370762423:=()
def tw6791906362536896120:=()
def tw897549940875583902:=()
def tw8701047185032873187:=()
def tw6599680585549782259:=()
def tw2281306985139584211:=()
def tw3915150783464197296:=()
def tw5119580589720259468:=()
def tw13495538206311253168:=()
def tw15157370173227282848:=()
def tw15065610934249581537:=()
def tw3680733420934588632:=()
def tw3099824295869437755:=()
def tw17541419158646300534:=()
def tw2432338324437789468:=()
def tw963938089444427468:=()
def tw16514056226060171627:=()
def tw4582261901512258174:=()
def tw5717172804866321723:=()
def tw18183366098221166101:=()
def tw14298863555867485026:=()
def tw6941371975087528330:=()
def tw6857073969892952185:=()
def tw11720142583497817503:=()
def tw496744328014306901:=()
def tw14026665611425310133:=()
def tw15854654930530719140:=()
def tw11174372827860897037:=()
def tw5039562576898223654:=()
def tw5098496595419888843:=()
def tw11695334958390139013:=()
def tw1225913948878772146:=()
def tw16200486262962385147:=()
def tw4385438026751206100:=()
def tw7200472279236582893:=()
def tw2756622605097891308:=()
def tw12146455096887815191:=()
def tw14103219446474599446:=()
def tw4608912589318665254:=()
def tw541528982980896053:=()
def tw15836538612624291908:=()
def tw6234375788126258323:=()
def tw7178676445827840551:=()
def tw13736370435072213315:=()
def tw14883590045815457929:=()
def tw1032443104002842273:=()
def tw10450610842961075037:=()
def tw10402568602420620667:=()
def tw2784193054942204042:=()
def tw17922115176390257766:=()
def tw15703391796401730998:=()
def tw12497110661538265304:=()
def tw7129714517311193624:=()
def tw5470722843310032487:=()
def tw10979493312676382156:=()
def tw7739610483780770449:=()
def tw18425696827456143464:=()
def tw6272458772437501393:=()
def tw7466071984487854470:=()
def tw14227706367805774255:=()
def tw17428871148186077074:=()
def tw7449441680319801654:=()
def tw6556174086229827630:=()
def tw14995340447975103465:=()
def tw10210944174610792571:=()
def tw7491720296640848256:=()
def tw6999027483886914096:=()
def tw7425470129185151664:=()
def tw8543940875619782986:=()
def tw8728477553058428204:=()
def tw10170925087910089439:=()
def tw11661138907220768042:=()
def tw9697438858487965958:=()
def tw3684685807680164038:=()
def tw5491579020084984671:=()
def tw15435253256341323726:=()
def tw11360381380148927298:=()
def tw8999080073521700155:=()
def tw8980341878831653516:=()
def tw16386662454418548792:=()
def tw1593600979965846785:=()
def tw2942448306954290810:=()
def tw7333634246156642385:=()
def tw7245075746955446718:=()
def tw1466786187310622789:=()
def tw15957537064270508603:=()
def tw11938773154558693244:=()
def tw7230586899351068363:=()
def tw18182923234794631117:=()
def tw1601884590084931971:=()
def tw11306104963572330781:=()
def tw7789545213874308206:=()
def tw7086480024430394791:=()
def tw16140077197007025336:=()
def tw6603896218571066610:=()
def tw11560227126277507315:=()
def tw17273947796047042992:=()
def tw14030488470048930908:=()
def tw10885469946963311427:=()
def tw11206216565937861362:=()
def tw4495011065932036363:=()
def tw18228825138352451219:=()
def tw3935103655260468042:=()
def tw15840344633960073930:=()
def tw8734020613545096930:=()
def tw5400265819026795920:=()
def tw18305827043570592514:=()
def tw4364671914418809310:=()
def tw4363857877659491055:=()
def tw10725318818790020439:=()
def tw6771434649786679389:=()
def tw14952409711442016557:=()
def tw2183156767755221115:=()
def tw17752047581793461024:=()
def tw3600755746558071178:=()
def tw17051441860836672931:=()
def tw16946276291550570715:=()
def tw8363535176421235319:=()
def tw1670390661160303111:=()
def tw10252667498728362513:=()
def tw9320934675277589527:=()
def tw1342250949054675407:=()
def tw17994817487156749703:=()
def tw15679367301632978438:=()
def tw3498825832763390747:=()
def tw15525142725994819015:=()
def tw5454023597609636734:=()
def tw13995157852946322215:=()
def tw10025764787552941003:=()
def tw14269026796192587438:=()
def tw5430350317498679138:=()
def tw1395714605123235993:=()
def tw18165691857287521530:=()
def tw595298189877465774:=()
def tw13881578144057383906:=()
def tw11397425915384641302:=()
def tw8530095485811552623:=()
def tw1202785134903215139:=()
def tw5306084398621915976:=()
def tw17000186052164507928:=()
end PySem.W.Fast
open PySem PySem.W PyProof.Rows
set_option maxRecDepth 100000 in
set_option maxHeartbeats 0 in
theorem PySem.Challenge.cw_layerdraw_k42_rows_and_lines_holds : PySem.Challenge.rw_layerdraw_k42_rows_and_lines.Holds := by
 w_on;o_law;k_head;(case hw=>w_witness2)
 k_fill
 refine K42.walk (l:=PySem.Challenge.rw_layerdraw_k42_rows_and_lines) rfl rfl (fun w h Y=>⟨PySem.W.km_in_of Y,PySem.W.km_tabs_of Y⟩) ?F
 case F=>
  intro w mg fa h KX G p6
  refine' K42.all_mk KX G p6 ?T ?al ?ll ?cl ?lm0 ?hnd
  case T=>
   constructor
   any_goals dsimp only
   any_goals first|k_is|kit_is|(refine' PySem.W.mg_of KX G ?_;k_is)|(refine' PySem.W.mg_none_of KX G ?_;k_is)|(refine' L2.int_mk KX G ?_;any_goals first|k_is|kit_is|kernel_rfl|rfl)|(refine' L2.str_mk KX G ?_;any_goals first|k_is|kit_is|kernel_rfl|rfl)|(unfold L2.zbH;k_is)|(refine' K42.znV ?u0;(case u0=>k_is))|((first|refine' L2.zhF ?u0 ?u1 ?u2 ?u3 ?u4 ?u5 .nil ?u7|refine' L2.zhF ?u0 ?u1 ?u2 ?u3 ?u4 ?u5 L2.vals1i ?u7|refine' L2.zhF ?u0 ?u1 ?u2 ?u3 ?u4 ?u5 L2.vals2i ?u7);(case u0=>k_is);(case u1=>first|k_is|kit_is|kernel_rfl|rfl);(case u2=>first|k_is|kit_is|kernel_rfl|rfl);(case u3=>first|k_is|kit_is|kernel_rfl|rfl);(case u4=>first|k_is|kit_is|kernel_rfl|rfl);(case u5=>first|k_is|kit_is|kernel_rfl|rfl);(case u7=>intro td s us KI hl;first|(have h9:us.length=2:=(by simpa using hl);clear hl;revert us;exact L2.len2 fun _ _=>PySem.W.binds_K KI rfl td rfl rfl rfl)|(have h9:us.length=3:=(by simpa using hl);clear hl;revert us;exact L2.len3 fun _ _ _=>PySem.W.binds_K KI rfl td rfl rfl rfl)|(have h9:us.length=4:=(by simpa using hl);clear hl;revert us;exact L2.len4 fun _ _ _ _=>PySem.W.binds_K KI rfl td rfl rfl rfl)|(have h9:us.length=5:=(by simpa using hl);clear hl;revert us;exact L2.len5 fun _ _ _ _ _=>PySem.W.binds_K KI rfl td rfl rfl rfl)))|((first|refine' L2.def_mk KX G ?_ ?_ ?_ ?_ ?_|refine' L2.met_mk ?_ ?_ ?_ ?_ ?_ ?_|refine' L2.ini_mk KX G ?_ ?_ ?_ ?_ ?_ ?_ ?_ ?_|refine' L2.znp KX G ?_ ?_ ?_ ?_ ?_ ?_ ?_ ?_);any_goals (first|k_is|kit_is|kernel_rfl|exact L2.len1 fun _=>rfl|exact L2.len2 fun _ _=>rfl|exact L2.len3 fun _ _ _=>rfl|exact L2.len4 fun _ _ _ _=>rfl);done)|(refine' L2.lam_mk KX G ?u0 ?u1 ?u2 ?u3 ?u4 ?u5 ?u6;(case u0=>first|k_is|kit_is|kernel_rfl|rfl);(case u1=>first|k_is|kit_is|kernel_rfl|rfl);(case u2=>rfl);(case u3=>first|k_is|kit_is|kernel_rfl|rfl);(case u4=>rfl);(case u5=>first|k_is|kit_is|kernel_rfl|rfl);(case u6=>first|k_is|kit_is|kernel_rfl|rfl))|(constructor <;> first|k_is|kit_is|kernel_rfl|rfl)
  any_goals first|k_is|kit_is|exact List.mem_cons_self|(simp;done)|decide
