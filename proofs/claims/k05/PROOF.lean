import PyProof.Rows.All
import Wide.All
import OpenK.AllK
import Wide.FinOn
import Lean
import PyProof.EqAt
import PyProof.EqKinds
import PyProof.TupleCall
import PyProof.NeKinds
import PySem.Challenge.RW_layerdraw_k05_lines_that_write_no_net
set_option Elab.async false
set_option linter.all false
set_option maxRecDepth 100000
set_option genInjectivity false
set_option genSizeOf false
noncomputable section
namespace L2
theorem ex3 {α:Sort _}{a b:α→Prop}{G:Prop} (k:∀ x,a x→b x→G):(∃ x,a x∧b x)→G:=fun⟨x,h1,h2⟩=>k x h1 h2
theorem ex4 {α β:Sort _}{a b:α→β→Prop}{G:Prop} (k:∀ x y,a x y→b x y→G):(∃ x y,a x y∧b x y)→G:=fun⟨x,y,h1,h2⟩=>k x y h1 h2
theorem ex5 {α β:Sort _}{a b c:α→β→Prop}{G:Prop} (k:∀ x y,a x y→b x y→c x y→G):(∃ x y,a x y∧b x y∧c x y)→G:=fun⟨x,y,h1,h2,h3⟩=>k x y h1 h2 h3
end L2
namespace L2
open PySem PySem.Spec PyProof.Rows
theorem zeu:entryFor table "proto.unchain"=some Builtin.«proto.unchain»:=entryFor_of_tree (by kernel_rfl)
def nxt (cs:List Addr) (j:Nat):Value:=match cs[j]? with|none=>Value.none|some b=>Value.ref b
def Chn (h:Heap) (cs:List Addr):Prop:=cs.Nodup∧∀ j a,cs[j]?=some a→∃ o vs,h.get? a=some o∧o.data=.fields vs∧vs[2]?=some (nxt cs (j + 1))
def Hd (A:Around) (h:Heap):Prop:=A.handled=none∨∃ a cs,A.handled=some (.ref a)∧Chn h (a::cs)
theorem Hd.keeps {A:Around}{h h':Heap} (x:Hd A h) (k:∀ b o,h.get? b=some o→h'.get? b=some o):Hd A h':=by
 rcases x with e|⟨a,cs,e,nd,c⟩
 ·exact .inl e
 ·refine .inr ⟨a,cs,e,nd,fun j b hb=>?_⟩
  obtain⟨o,vs,ho,r⟩:=c j b hb
  exact⟨o,vs,k b o ho,r⟩
theorem Hd.but {A:Around}{h h':Heap}{it:Addr}{oi:Obj} (x:Hd A h) (hit:h.get? it=some oi) (hno:∀ vs,oi.data=.fields vs→vs.size<3∨vs[2]?≠some Value.none∧∀ b,vs[2]?≠some (.ref b)) (k:∀ b o,b≠it→h.get? b=some o→h'.get? b=some o):Hd A h':=by
 rcases x with e|⟨a,cs,e,nd,c⟩
 ·exact .inl e
 ·refine .inr ⟨a,cs,e,nd,fun j b hb=>?_⟩
  obtain⟨o,vs,ho,hd,h2⟩:=c j b hb
  refine⟨o,vs,k b o (fun z=>?_) ho,hd,h2⟩
  subst z
  rw[hit] at ho
  cases ho
  rcases hno vs hd with q|⟨q1,q2⟩
  ·have:=(Array.getElem?_eq_some_iff.mp h2).1
   omega
  ·unfold nxt at h2
   cases hz:(a::cs)[j + 1]? with
   | none=>rw[hz] at h2;exact q1 h2
   | some y=>rw[hz] at h2;exact q2 y h2
section
variable {prog:Program}{w:World}{A:Around}{E:Value→Shared→Prop}{s:Shared}
theorem zgU {cs:List Addr}{e:Addr}{R:Result→Shared→Prop} (c:Chn s.heap cs) (he:e∉cs) (hR:R (.ok (.ret .none)) s):∀ (n j i:Nat) (o sl:Addr) (tg:Bool),cs.length - j=n→cs[j]?=some o→cs[i]?=some sl→i≤j →
  codeAny (model prog w) A (.builtin "proto.unchain" ⟨[.ref e,.ref o,.ref sl,.bool tg],[]⟩) R s:=by
 intro n
 induction n with
 | zero=>
  intro j i o sl tg hn hj _ _
  have:=(List.getElem?_eq_some_iff.mp hj).1
  omega
 | succ n ih=>
  intro j i o sl tg hn hj hi hij
  obtain⟨oo,vs,ho,hd,h2⟩:=c.2 j o hj
  refine codeAny_builtin zeu ?_
  unfold Builtin.«proto.unchain»
  refine wpAny_bind (wpAny_field ho hd h2 ?_)
  cases hz:cs[j + 1]? with
  | none=>
   simp only[nxt,hz]
   rw[if_pos (by rfl)]
   refine wpAny_bind (wpAny_pure (wpAny_pure ?_))
   exact hR
  | some b=>
   simp only[nxt,hz]
   have hb:b∈cs:=List.mem_of_getElem? hz
   have hbe:b≠e:=fun z=>he (z ▸ hb)
   have hbs:b≠sl:=fun z=>by
    subst z
    have e1:=List.getElem?_eq_some_iff.mp hz
    have e2:=List.getElem?_eq_some_iff.mp hi
    have lt:i<j + 1:=by omega
    exact(List.pairwise_iff_getElem.mp c.1) i (j + 1) e2.1 e1.1 lt (e2.2.trans e1.2.symm)
   rw[if_neg (by simp),if_neg (by simpa using hbe),if_neg (by simpa using hbs)]
   have hi1:∃ b',cs[i + 1]?=some b':=by
    have e1:=(List.getElem?_eq_some_iff.mp hz).1
    exact⟨_,List.getElem?_eq_getElem (by omega)⟩
   obtain⟨b',hb'⟩:=hi1
   cases tg with
   | false=>
    rw[if_neg (by simp)]
    refine wpAny_bind (wpAny_pure (wpAny_pure ?_))
    exact(⟨Code.quiet_builtin _ (by decide +kernel),ih (j + 1) i b sl true (by omega) hz hi (by omega)⟩)
   | true=>
    rw[if_pos rfl]
    obtain⟨os,ws,hos,hds,hs2⟩:=c.2 i sl hi
    simp only[nxt,hb'] at hs2
    refine wpAny_bind (wpAny_field hos hds hs2 (wpAny_pure ?_))
    exact(⟨Code.quiet_builtin _ (by decide +kernel),ih (j + 1) (i + 1) b b' false (by omega) hz hb' (by omega)⟩)
theorem zev {α:Type}{e:Addr}{oe:Obj}{vs:Array Value}{Q:α→Shared→Prop} (hd:A.handled=none∨∃ a cs,A.handled=some (.ref a)∧Chn s.heap (a::cs)∧e∉a::cs) (he:s.heap.get? e=some oe) (hf:oe.data=.fields vs) (h2:2<vs.size)
  (h:∀ h' o' vs',(∀ b o,b≠e→s.heap.get? b=some o→h'.get? b=some o)→h'.get? e=some o'→o'.cls=oe.cls→o'.dict=oe.dict→o'.data=.fields vs'→vs'.size=vs.size→vs'[1]?=vs[1]?→vs'[2]?=(match A.handled with|none=>vs[2]?|some v=>some v)→E (.ref e) { s with heap:=h' }) :
  wpAny (model prog w) A (raiseNew (.ref e):Sem α) Q E s:=by
 unfold raiseNew
 refine wpAny_bind (wpAny_handled ?_)
 rcases hd with hn|⟨a,cs,ha,c,hin⟩
 ·rw[hn]
  exact wpAny_bind (wpAny_pure (wpAny_throw (h s.heap oe vs (fun _ _ _ q=>q) he rfl rfl hf rfl rfl (by rw[hn]))))
 ·rw[ha]
  have hae:a≠e:=fun z=>hin (by simp[z])
  show wpAny _ _ (if (Value.ref a != Value.ref e)=true then _ else _) _ _ s
  rw[if_pos (by simpa using hae)]
  refine wpAny_bind (wpAny_holding (wpAny_runValue (zgU c hin ?_ _ 0 0 a a false rfl rfl rfl (Nat.le_refl _))))
  have up:=Obj.data_mapFields hf (·.setIfInBounds 2 (Value.ref a))
  refine wpAny_bind (show wpAny _ _ (setField (.ref e) 2 (.ref a)) _ _ s from wpAny_setField he hf h2 (wpAny_throw (h _ _ _ (fun b q hb hq=>(Heap.get?_update_other _ _ (Ne.symm hb)).trans hq) (Heap.get?_update_self _ he (Obj.isFreed_of_fields up)) (Obj.cls_mapFields _ _) ?_ up (by simp) ?_ ?_)))
  ·obtain⟨c1,d1,dt,sl⟩:=oe
   cases dt <;> rfl
  ·rw[Array.getElem?_setIfInBounds_ne (by decide)]
  ·rw[ha];simp[h2]
theorem Chn.lt {h:Heap}{cs:List Addr} (c:Chn h cs):∀ b∈cs,b<h.objs.size:=fun b hb=>by
 obtain⟨j,hj⟩:=List.mem_iff_getElem?.mp hb
 obtain⟨o,_,ho,_⟩:=c.2 j b hj
 exact Heap.lt_size ho
theorem Chn.mono {h h':Heap}{cs:List Addr} (c:Chn h cs) (k:∀ b o,b∈cs→h.get? b=some o→h'.get? b=some o):Chn h' cs:=⟨c.1,fun j a hj=>by
 obtain⟨o,vs,ho,r⟩:=c.2 j a hj
 exact⟨o,vs,k a o (List.mem_of_getElem? hj) ho,r⟩⟩
theorem zb7 {α:Type}{Q:α→Shared→Prop} (hd:Hd A s.heap)
  (h:∀ h' e,(∀ b o,s.heap.get? b=some o→h'.get? b=some o)→(∃ o',h'.get? e=some o'∧o'.cls=.type "StopIteration")→E (.ref e) { s with heap:=h' }) :
  wpAny (model prog w) A (newExc (.type "StopIteration") [] >>= fun e=>(raiseNew e:Sem α)) Q E s:=by
 refine wpAny_bind ?_
 unfold newExc newTuple
 refine wpAny_bind (wpAny_newObj_type ?_ (by size_fits))
 refine wpAny_bind (m:=firstArgMember _ _) (wpAny_of_eq (a:=Value.none) (by first|rfl|(simp only[firstArgMember];rfl)) (wpAny_newObj_type ?_ (by size_fits)))
 refine zev ?_ (Heap.get?_push_size _ rfl) rfl (by simp;omega) fun h' o' vs' k' e' c' _ _ _ _ _=>
  h h' _ (fun b o q=>k' b o (Nat.ne_of_lt (by rw[Heap.size_push];exact Nat.lt_succ_of_lt (Heap.lt_size q))) (Heap.get?_push_of_some _ (Heap.get?_push_of_some _ q))) ⟨o',e',c'⟩
 rcases hd with hn|⟨a,cs,ha,c⟩
 ·exact .inl hn
 ·refine .inr ⟨a,cs,ha,c.mono fun b o _ q=>Heap.get?_push_of_some _ (Heap.get?_push_of_some _ q),fun z=>?_⟩
  have:=c.lt _ z
  rw[Heap.size_push] at this
  exact absurd (Nat.lt_of_lt_of_le this (Nat.le_succ _)) (Nat.lt_irrefl _)
theorem zdA {it l:Addr}{i:Nat} {items}{Q:Option Value→Shared→Prop} (hd:Hd A s.heap) (hit:s.heap.IsListIter it l i) (hl:s.heap.IsList l items) (hx:items[i]?=none)
  (hQ:∀ h',Heap.ExtBut it s.heap h'→Q none { s with heap:=h' }):wpAny (model prog w) A (pyNext (.ref it)) Q E s:=by
 obtain⟨o,ho,hc,hdat⟩:=id hit
 obtain⟨ol,hol,_,nl,hdl⟩:=hl
 unfold pyNext
 refine wpAny_bind (wpAny_attempt (wpAny_callSpecial?_slot (name:=Str.ofString "__next__") hit.typeIs slot_listiter_next (wpAny_call_entry slot_listiter_next hit.typeIs entry_listiter_next ?_ (args_listiter_next _))))
 refine(show wpAny _ _ (field (.ref it) 0 >>= _) _ _ s from wpAny_bind (wpAny_field ho hdat (x:=.ref l) rfl ?_))
 refine(show wpAny _ _ (if (Value.ref l == Value.none)=true then _ else _) _ _ s from ?_)
 rw[if_neg (by simp)]
 refine(show wpAny _ _ (field (.ref it) 1 >>= _) _ _ s from wpAny_bind (wpAny_field ho hdat (x:=.int i 0) rfl ?_))
 refine(show wpAny _ _ (seqItems? (.ref l) >>= _) _ _ s from wpAny_bind (wpAny_seqItems hol hdl ?_))
 simp only[Int.toNat_natCast,hx]
 refine wpAny_bind (wpAny_rule (wpAny_bind (wpAny_setField ho hdat (by simp) ?_)))
 have sb:Heap.SameBut it s.heap (s.heap.update it (Obj.mapFields (·.setIfInBounds 0 Value.none))):=Heap.SameBut.update ..
 refine zb7 (A:=A.in1) (hd.but ho (fun vs q=>.inl (by rw[hdat] at q;cases q;simp)) sb.extBut) fun h' e k' ⟨o',e',c'⟩=>?_
 exact wpAny_bind (wpAny_isInstance (T:="StopIteration") (b:=true) ⟨o',e',c'⟩ isSubtype_stop (wpAny_pure (hQ h' fun b q hb hq=>k' b q (sb.extBut b q hb hq))))
theorem zi0 {it t:Addr}{i:Nat} {items}{Q:Option Value→Shared→Prop} (hd:Hd A s.heap) (hit:s.heap.IsTupleIter it t i) (ht:s.heap.IsTuple t items) (hx:items[i]?=none)
  (hQ:∀ h',Heap.ExtBut it s.heap h'→Q none { s with heap:=h' }):wpAny (model prog w) A (pyNext (.ref it)) Q E s:=by
 obtain⟨o,ho,hc,hdat⟩:=id hit
 obtain⟨ol,hol,_,nl,hdl⟩:=ht
 unfold pyNext
 refine wpAny_bind (wpAny_attempt (wpAny_callSpecial?_slot (name:=Str.ofString "__next__") hit.typeIs F.slot_tuple_iterator_next (wpAny_call_entry F.slot_tuple_iterator_next hit.typeIs F.entry_tuple_iterator_next ?_ (F.args_tuple_iterator_next_1 _))))
 refine(show wpAny _ _ (field (.ref it) 0 >>= _) _ _ s from wpAny_bind (wpAny_field ho hdat (x:=.ref t) rfl ?_))
 refine(show wpAny _ _ (if (Value.ref t == Value.none)=true then _ else _) _ _ s from ?_)
 rw[if_neg (by simp)]
 refine(show wpAny _ _ (field (.ref it) 1 >>= _) _ _ s from wpAny_bind (wpAny_field ho hdat (x:=.int i 0) rfl ?_))
 refine(show wpAny _ _ (seqItems? (.ref t) >>= _) _ _ s from wpAny_bind (wpAny_seqItems hol hdl ?_))
 simp only[Int.toNat_natCast,hx]
 refine wpAny_bind (wpAny_rule (wpAny_bind (wpAny_setField ho hdat (by simp) ?_)))
 have sb:Heap.SameBut it s.heap (s.heap.update it (Obj.mapFields (·.setIfInBounds 0 Value.none))):=Heap.SameBut.update ..
 refine zb7 (A:=A.in1) (hd.but ho (fun vs q=>.inl (by rw[hdat] at q;cases q;simp)) sb.extBut) fun h' e k' ⟨o',e',c'⟩=>?_
 exact wpAny_bind (wpAny_isInstance (T:="StopIteration") (b:=true) ⟨o',e',c'⟩ isSubtype_stop (wpAny_pure (hQ h' fun b q hb hq=>k' b q (sb.extBut b q hb hq))))
theorem zgV {it:Addr}{x left step:Int}{Q:Option Value→Shared→Prop} (hd:Hd A s.heap) (hit:IsRangeIter s.heap it x left step) (hleft:left≤0)
  (hQ:∀ h',Heap.ExtBut it s.heap h'→Q none { s with heap:=h' }):wpAny (model prog w) A (pyNext (.ref it)) Q E s:=by
 have hT:s.TypeIs (.ref it) "range_iterator":=⟨_,hit,rfl⟩
 unfold pyNext
 refine wpAny_bind (wpAny_attempt (wpAny_callSpecial?_slot (name:=Str.ofString "__next__") hT F.slot_range_iterator_next (wpAny_call_entry F.slot_range_iterator_next hT F.entry_range_iterator_next ?_ (F.args_range_iterator_next_1 _))))
 refine(show wpAny _ _ (field (.ref it) 0 >>= _) _ _ s from wpAny_bind (wpAny_field hit rfl (x:=rawInt x) rfl ?_))
 refine(show wpAny _ _ (field (.ref it) 1 >>= _) _ _ s from wpAny_bind (wpAny_field hit rfl (x:=rawInt left) rfl ?_))
 refine(show wpAny _ _ (field (.ref it) 2 >>= _) _ _ s from wpAny_bind (wpAny_field hit rfl (x:=rawInt step) rfl ?_))
 refine(show wpAny _ _ (if left≤0 then _ else _) _ _ s from ?_)
 rw[if_pos hleft]
 refine wpAny_bind (wpAny_rule (wpAny_bind ?_))
 refine zb7 (A:=A.in1) hd fun h' e k' ⟨o',e',c'⟩=>?_
 exact wpAny_bind (wpAny_isInstance (T:="StopIteration") (b:=true) ⟨o',e',c'⟩ isSubtype_stop (wpAny_pure (hQ h' fun b q _ hq=>k' b q hq)))
theorem zki {t:Addr}{items:Array Value}{Q:List Value→Shared→Prop} (hd:Hd A s.heap) (ht:IsTup s.heap t items)
  (hQ:∀ h',Heap.ExtBut s.heap.objs.size s.heap h'→Q items.toList { s with heap:=h' }):wpAny (model prog w) A (unpackItems (.ref t) items.size none) Q E s:=by
 have hlt:t≠s.heap.objs.size:=by obtain⟨o,ho,_⟩:=ht;exact Nat.ne_of_lt (Heap.lt_size ho)
 unfold unpackItems
 refine wpAny_bind ?_
 unfold notIterableAtAll
 refine wpAny_bind (wpAny_specialOf ht.typeIs slot_tuple_iter.lookup (wpAny_pure ?_))
 simp only[Bool.false_eq_true,if_false]
 refine wpAny_bind (wpAny_holding (iter_tuple ht (wpAny_bind (wpAny_holding (draw_tuple hlt items.size 0 _ _ ⟨_,Heap.get?_push_size _ rfl,rfl,rfl⟩ (ht.push _) (by omega) fun h₁ hit₁ hs₁=>?_)))))
 rw[show List.take items.size (List.drop 0 items.toList)=items.toList by rw[List.drop_zero];exact List.take_of_length_le (by simp)]
 rw[if_neg (by simp)]
 have ht₁:IsTup h₁ t items:=(ht.push _).extBut hs₁.extBut hlt
 have k₁:∀ b o,s.heap.get? b=some o→h₁.get? b=some o:=fun b o e=>hs₁.extBut b o (Nat.ne_of_lt (Heap.lt_size e)) (Heap.get?_push_of_some _ e)
 refine wpAny_bind (wpAny_holding (zi0 (hd.keeps k₁) hit₁ (show Heap.IsTuple h₁ t items from ht₁) (by simp) fun h₂ he₂=>?_))
 simp only[Option.isSome_none,Bool.false_eq_true,if_false]
 exact wpAny_pure (hQ h₂ fun b o hb e=>he₂ b o hb (k₁ b o e))
theorem zfT {env:Env}{elts:List Expr} {x1}{pos:Pos}{t:Addr}{items:Array Value}{Q:Unit→Shared→Prop} (hd:Hd A s.heap) (ht:IsTup s.heap t items) (hn:(assignEach elts env).length=items.size) (hstar:(assignEach elts env).findIdx? (·.1)=none)
  (h:∀ h',Heap.ExtBut s.heap.objs.size s.heap h'→wpAny (model prog w) A (assignInOrder ((assignEach elts env).map (·.2)) items.toList) Q E { s with heap:=h' }):wpAny (model prog w) A (assign (.Tuple elts x1 pos) env (.ref t)) Q E s:=by
 rw[assign_Tuple]
 refine wpAny_bind (wpAny_standAt ?_)
 unfold unpack
 rw[hn,hstar]
 exact wpAny_bind (wpAny_holding (zki hd ht h))
end
end L2
namespace L2
open PySem PySem.Spec PyProof.Rows
abbrev Key:=Sum Int Str
def zew:Key→Value→Bool
 | .inl k,v=>Value.isInt k v
 | .inr x,v=>Value.isStrOf x v
def keyH (w:World):Key→Int
 | .inl k=>hashInt k
 | .inr x=>hashStr w x
theorem zaL:∀ {k:Key}{v:Value},zew k v=true→(∃ i t,k=Sum.inl i∧v=Value.int i t)∨(∃ x t,k=Sum.inr x∧v=Value.str x t)
 | .inl i,v,h=>by
  obtain⟨t,e⟩:=Value.isInt_shape (k:=i) (v:=v) h
  exact .inl ⟨i,t,rfl,e⟩
 | .inr x,v,h=>by
  obtain⟨t,e⟩:=Value.isStrOf_shape (x:=x) (v:=v) h
  exact .inr ⟨x,t,rfl,e⟩
theorem zhw (i:Int) (t:Tok):zew (.inl i) (.int i t)=true:=by simp[zew,Value.isInt]
theorem zhx (x:Str) (t:Tok):zew (.inr x) (.str x t)=true:=by simp[zew,Value.isStrOf]
theorem key_ll (a b:Int):decide ((Sum.inl a:Key)=Sum.inl b)=(a == b):=by
 by_cases e:a=b
 ·subst e;simp
 ·have h:¬ (Sum.inl a:Key)=Sum.inl b:=fun q=>e (Sum.inl.inj q)
  rw[decide_eq_false h]
  exact(beq_eq_false_iff_ne.mpr e).symm
theorem key_rr (a b:Str):decide ((Sum.inr a:Key)=Sum.inr b)=decide (a=b):=by
 by_cases e:a=b
 ·subst e;simp
 ·have h:¬ (Sum.inr a:Key)=Sum.inr b:=fun q=>e (Sum.inr.inj q)
  rw[decide_eq_false h,decide_eq_false e]
theorem key_lr (a:Int) (b:Str):decide ((Sum.inl a:Key)=Sum.inr b)=false:=decide_eq_false (fun q=>nomatch q)
theorem key_rl (a:Str) (b:Int):decide ((Sum.inr a:Key)=Sum.inl b)=false:=decide_eq_false (fun q=>nomatch q)
def zaI (prog:Program) (w:World):PySem.KeyKind prog w Key where
 is:=zew
 hash:=keyH w
 inj:=fun v a b ha hb=>by
  rcases zaL ha with⟨i,t,rfl,rfl⟩|⟨x,t,rfl,rfl⟩
  ·rcases zaL hb with⟨j,u,rfl,e⟩|⟨y,u,rfl,e⟩
   ·injection e with e1 _;rw[e1]
   ·exact nomatch e
  ·rcases zaL hb with⟨j,u,rfl,e⟩|⟨y,u,rfl,e⟩
   ·exact nomatch e
   ·injection e with e1 _;rw[e1]
 byValue:=fun k v h=>by
  rcases zaL h with⟨i,t,rfl,rfl⟩|⟨x,t,rfl,rfl⟩ <;> rfl
 pyHash:=fun hv h=>by
  rcases zaL hv with⟨i,t,rfl,rfl⟩|⟨x,t,rfl,rfl⟩
  ·exact wpAny_pyHash_int h
  ·exact wpAny_pyHash_str h
 eqBool:=fun hu hv h=>by
  rcases zaL hu with⟨i,t,rfl,rfl⟩|⟨x,t,rfl,rfl⟩
  ·rcases zaL hv with⟨j,u,rfl,rfl⟩|⟨y,u,rfl,rfl⟩
   ·rw[key_ll] at h;exact wpAny_eqBool_int h
   ·rw[key_lr] at h;exact SeqAt.EqAt.int_str i t y u _ _ _ _ h
  ·rcases zaL hv with⟨j,u,rfl,rfl⟩|⟨y,u,rfl,rfl⟩
   ·rw[key_rl] at h;exact SeqAt.EqAt.str_int x t j u _ _ _ _ h
   ·rw[key_rr] at h;exact wpAny_eqBool_str h
 «strs»:=fun k x t v h=>by
  rcases zaL h with⟨i,u,rfl,e⟩|⟨y,u,rfl,e⟩
  ·exact nomatch e
  ·injection e with e1 _
   subst e1
   cases v <;> rfl
theorem zfU (prog:Program) (w:World) (i:Int) (t:Tok):(zaI prog w).is (.inl i) (.int i t)=true:=zhw i t
theorem zfV (prog:Program) (w:World) (x:Str) (t:Tok):(zaI prog w).is (.inr x) (.str x t)=true:=zhx x t
end L2
namespace L2
open PySem PySem.Spec PyProof.Rows
set_option genInjectivity true
inductive V where
 | non | bl (b:Bool) | int (i:Int) | str (x:Str) | byt (b:Array UInt8) | flt (b:UInt64) | ref (a:Addr) | ty (n:String)
 deriving DecidableEq
set_option genInjectivity false
def za3:V→Value→Prop
 | .non,u=>u=Value.none
 | .bl b,u=>u=Value.bool b
 | .int i,u=>∃ t,u=Value.int i t
 | .str x,u=>∃ t,u=Value.str x t
 | .byt b,u=>∃ t,u=Value.bytes b t
 | .flt b,u=>∃ t,u=Value.float b t
 | .ref a,u=>u=Value.ref a
 | .ty n,u=>u=Value.type n
abbrev zaN:List V→List Value→Prop:=Paired za3
theorem zaN.length {xs:List V}{us:List Value} (r:zaN xs us):xs.length=us.length:=Paired.length r
theorem zaN.get:∀ {xs:List V}{us:List Value}{i:Nat}{x:V},zaN xs us→xs[i]?=some x→∃ u,us[i]?=some u∧za3 x u
 | _,_,_,_,.nil,e=>by simp at e
 | _,_,0,_,.cons r _,e=>by simp at e;subst e;exact⟨_,rfl,r⟩
 | _,_,i + 1,x,.cons _ t,e=>by
  obtain⟨u,h1,h2⟩:=zaN.get (i:=i) (x:=x) t (by simpa using e)
  exact⟨u,by simpa using h1,h2⟩
theorem zaN.append:∀ {xs ys:List V}{us ws:List Value},zaN xs us→zaN ys ws→zaN (xs++ys) (us++ws)
 | _,_,_,_,.nil,s=>s
 | _,_,_,_,.cons r t,s=>.cons r (zaN.append t s)
theorem zaN.take:∀ {xs:List V}{us:List Value} (n:Nat),zaN xs us→zaN (xs.take n) (us.take n)
 | _,_,0,_=>.nil
 | _,_,_ + 1,.nil=>.nil
 | _,_,n + 1,.cons r t=>.cons r (zaN.take n t)
theorem zaN.drop:∀ {xs:List V}{us:List Value} (n:Nat),zaN xs us→zaN (xs.drop n) (us.drop n)
 | _,_,0,r=>r
 | _,_,_ + 1,.nil=>.nil
 | _,_,n + 1,.cons _ t=>zaN.drop n t
def zfR:Option V→Option Value→Prop
 | some v,some u=>za3 v u
 | none,none=>True
 | _,_=>False
def KV {κ:Type}:List (κ×V)→List (κ×Value)→Prop:=Paired fun(p:κ×V) (q:κ×Value)=>p.1=q.1∧za3 p.2 q.2
def kV:Key→V
 | .inl i=>.int i
 | .inr x=>.str x
inductive HO where
 | lst (xs:List V)
 | tup (xs:List V)
 | dK (kvs:List (Key×V)) | dT (kvs:List (List Key×V))
 | set (S:Int→Bool) (n:Nat)
 | ins (C dx:Addr) (fs:List (Str×V))
 | own (x:Addr)
 | xd (fs:List (Str×V))
 | met (f x:Addr)
 | rng (lo hi:Int)
 | frz (o:Obj) (u:HO)
 | tbl (pos:Pos) (qual:Str)
 | ext (φ:Heap→Prop)
abbrev Hp:=Addr→Option HO
def upd (H:Hp) (a:Addr) (o:HO):Hp:=fun b=>if b=a then some o else H b
theorem zab {H:Hp}{a:Addr}{o:HO}:upd H a o a=some o:=by unfold upd;rw[if_pos rfl]
theorem zaf {H:Hp}{a b:Addr}{o:HO} (h:b≠a):upd H a o b=H b:=by unfold upd;rw[if_neg h]
theorem zb8 {H:Hp}{a b:Addr}{o u:HO} (h:H a=some o) (h':H b=some u) (d:o≠u):a≠b:=by
 intro e;subst e;rw[h] at h';exact d (Option.some.inj h')
theorem zam {H:Hp}{a b:Addr}{o:HO} (h:H a=some o) (h':H b=none):a≠b:=by
 intro e;subst e;rw[h] at h';cases h'
section
variable (P:Program) (w:World)
def zbf (H:Hp) (h:Heap) (a:Addr):HO→Prop
 | .lst xs=>xs.length≤sizeLine∧∃ (its:List Value) (n:Nat),zaN xs its∧h.get? a=some { cls:=.type "list",data:=.seq its.toArray n }
 | .tup xs=>xs.length≤sizeLine∧∃ its:List Value,zaN xs its∧IsTup h a its.toArray
 | .dK kvs=>kvs.length≤sizeLine∧(a == sysModules)=false∧∃ vs,KV kvs vs∧h.DictOf (zaI P w) a vs
 | .dT kvs=>kvs.length≤sizeLine∧(a == sysModules)=false∧∃ xs:List (List Key×Addr×Value),
   Paired (fun(p:List Key×V) (q:List Key×Addr×Value)=>p.1=q.1∧H q.2.1=some (.tup (p.1.map kV))∧za3 p.2 q.2.2) kvs xs ∧
   ∃ o es ep,h.get? a=some o∧o.ExactDict∧o.data=.dict es ep∧es.toList=xs.map (entryOfKey (tupleKind (zaI P w)))∧(xs.map (·.1)).Nodup
 | .set S n=>h.SetOf (intKind P w) a S n
 | .ins C dx fs=>H dx=some (.own a)∧fs.length≤1000∧dx≠a∧h.get? a=some (PySem.W.instObj C dx) ∧
   ∃ mA,h.Ns1 dx mA∧(∀ f,zfR (fs.lookup f) (mA f))∧PySem.Within mA (fs.map (·.1))
 | .own _=>∃ o,h.get? a=some o
 | .xd fs=>∃ mA,h.Ns1 a mA∧∀ f,zfR (fs.lookup f) (mA f)
 | .rng lo hi=>∃ t u v,h.get? a=some { cls:=.type "range",data:=.fields #[.int lo t,.int hi u,.int 1 v] }
 | .frz o u=>h.get? a=some o∧zbf H h a u
 | .tbl pos qual=>h.get? a=some { cls:=.none,data:=.fields #[] }∨∃ c oc vs t,H c=some (.frz oc (.own a))∧oc.data=.fields vs∧vs[1]?=some (.str qual t)∧h.get? a=some { cls:=.none,data:=.fields #[rawInt pos.line,rawInt pos.col,.ref c] }
 | .met f x=>h.get? a=some (PySem.W.methodObj (.ref f) (.ref x))
 | .ext φ=>φ h∧(∃ o,h.get? a=some o)∧∀ h1 h2:Heap,φ h1→(∀ o,h1.get? a=some o→h2.get? a=some o)→φ h2
def HOk (H:Hp) (h:Heap):Prop:=∀ a o,H a=some o→zbf P w H h a o
end
section
variable {P:Program}{w:World}{H H':Hp}{h h':Heap}{a:Addr}{o:HO}
theorem zbf.lt (x:zbf P w H h a o):a<h.objs.size:=by
 cases o with
 | lst xs=>obtain⟨_,_,_,_,e⟩:=x;exact Heap.lt_size e
 | tup xs=>obtain⟨_,_,_,p⟩:=x;exact p.lt
 | dK kvs=>obtain⟨_,_,_,_,o,_,_,e,_⟩:=x;exact Heap.lt_size e
 | dT kvs=>obtain⟨_,_,_,_,o,_,_,e,_⟩:=x;exact Heap.lt_size e
 | set S n=>obtain⟨o,_,_,_,e,_⟩:=x;exact Heap.lt_size e
 | ins C dx fs=>obtain⟨_,_,_,e,_⟩:=x;exact Heap.lt_size e
 | own y=>obtain⟨_,e⟩:=x;exact Heap.lt_size e
 | xd fs=>obtain⟨_,⟨_,_,_,e,_⟩,_⟩:=x;exact Heap.lt_size e
 | rng lo hi=>obtain⟨_,_,_,e⟩:=x;exact Heap.lt_size e
 | frz ob u=>obtain⟨e,_⟩:=x;exact Heap.lt_size e
 | tbl pos qual=>
  rcases x with e|⟨_,_,_,_,_,_,_,e⟩
  ·exact Heap.lt_size e
  ·exact Heap.lt_size e
 | met f y=>exact Heap.lt_size (show h.get? a=some _ from x)
 | ext φ=>obtain⟨_,⟨_,e⟩,_⟩:=x;exact Heap.lt_size e
theorem Paired.mapP {α β:Type}{F G:α→β→Prop}:∀ {l₁:List α}{l₂:List β},Paired F l₁ l₂→(∀ a b,F a b→G a b)→Paired G l₁ l₂
 | _,_,.nil,_=>.nil
 | _,_,.cons r t,f=>.cons (f _ _ r) (Paired.mapP t f)
theorem zbf.stay (x:zbf P w H h a o) (k:∀ b u,(b=a∨H b=some (.own a))→h.get? b=some u→h'.get? b=some u)
  (ho:∀ b,H b=some (.own a)→H' b=some (.own a)) (ht:∀ b xs,H b=some (.tup xs)→H' b=some (.tup xs)) (hf:∀ b ob,H b=some (.frz ob (.own a))→H' b=some (.frz ob (.own a)):=by exact fun _ _ q=>q):zbf P w H' h' a o:=by
 induction o with
 | lst xs=>obtain⟨z,its,n,r,e⟩:=x;exact⟨z,its,n,r,k _ _ (.inl rfl) e⟩
 | tup xs=>obtain⟨z,its,r,ob,e,c⟩:=x;exact⟨z,its,r,ob,k _ _ (.inl rfl) e,c⟩
 | dK kvs=>obtain⟨z,y,vs,r,ob,es,ep,e,c⟩:=x;exact⟨z,y,vs,r,ob,es,ep,k _ _ (.inl rfl) e,c⟩
 | dT kvs=>
  obtain⟨z,y,xs,r,ob,es,ep,e,c⟩:=x
  exact⟨z,y,xs,Paired.mapP r fun p q z=>⟨z.1,ht _ _ z.2.1,z.2.2⟩,ob,es,ep,k _ _ (.inl rfl) e,c⟩
 | set S n=>obtain⟨ob,es,ep,t,e,c⟩:=x;exact⟨ob,es,ep,t,k _ _ (.inl rfl) e,c⟩
 | ins C dx fs=>
  obtain⟨d,z,ne,e,mA,⟨od,es,ep,e2,c⟩,r⟩:=x
  exact⟨ho _ d,z,ne,k _ _ (.inl rfl) e,mA,⟨od,es,ep,k _ _ (.inr d) e2,c⟩,r⟩
 | own y=>obtain⟨ob,e⟩:=x;exact⟨ob,k _ _ (.inl rfl) e⟩
 | xd fs=>obtain⟨mA,⟨od,es,ep,e,c⟩,r⟩:=x;exact⟨mA,⟨od,es,ep,k _ _ (.inl rfl) e,c⟩,r⟩
 | rng lo hi=>obtain⟨t,u,v,e⟩:=x;exact⟨t,u,v,k _ _ (.inl rfl) e⟩
 | frz ob u ih=>obtain⟨e,q⟩:=x;exact⟨k _ _ (.inl rfl) e,ih q⟩
 | tbl pos qual=>
  rcases x with e|⟨c,oc,vs,t,e1,e2,e3,e⟩
  ·exact .inl (k a _ (.inl rfl) e)
  ·exact .inr ⟨c,oc,vs,t,hf c oc e1,e2,e3,k a _ (.inl rfl) e⟩
 | met f y=>
  have e:h.get? a=some (PySem.W.methodObj (.ref f) (.ref y)):=x
  show h'.get? a=some (PySem.W.methodObj (.ref f) (.ref y))
  exact k a _ (.inl rfl) e
 | ext φ=>obtain⟨p,⟨o,e⟩,st⟩:=x;exact⟨st _ _ p fun o q=>k _ _ (.inl rfl) q,⟨o,k _ _ (.inl rfl) e⟩,st⟩
theorem HOk.lt (x:HOk P w H h) (e:H a=some o):a<h.objs.size:=(x a o e).lt
theorem HOk.fresh (x:HOk P w H h) (e:h.objs.size≤a):H a=none:=by
 cases q:H a with
 | none=>rfl
 | some u=>exact absurd (Nat.lt_of_lt_of_le (x.lt q) e) (Nat.lt_irrefl _)
theorem HOk.kept (x:HOk P w H h) (k:∀ b u,h.get? b=some u→h'.get? b=some u):HOk P w H h':=fun a o e=>
 (x a o e).stay (fun b u _ q=>k b u q) (fun _ q=>q) fun _ _ q=>q
theorem HOk.laid (x:HOk P w H h) (k:∀ b u,h.get? b=some u→h'.get? b=some u) (hp:h.objs.size≤a) (new:zbf P w (upd H a o) h' a o):HOk P w (upd H a o) h':=fun b u e=>by
 have hn:=x.fresh hp
 by_cases hb:b=a
 ·subst hb;rw[zab] at e;cases e;exact new
 ·rw[zaf hb] at e
  exact(x b u e).stay (fun c v _ q=>k c v q) (fun c q=>by rw[zaf (zam q hn)];exact q) (fun c xs q=>by rw[zaf (zam q hn)];exact q) fun c ob q=>by rw[zaf (zam q hn)];exact q
end
def Rd (H:Hp) (a:Addr) (u:HO):Prop:=H a=some u∨∃ o,H a=some (.frz o u)
theorem Rd.ok {P:Program}{w:World}{H:Hp}{h:Heap}{a:Addr}{u:HO} (r:Rd H a u) (x:HOk P w H h):zbf P w H h a u:=by
 rcases r with r|⟨o,r⟩
 ·exact x a u r
 ·obtain⟨_,q⟩:=x a _ r
  exact q
def Mut:Option HO→Prop
 | some (.lst _)=>True
 | some (.dK _)=>True
 | some (.dT _)=>True
 | some (.set _ _)=>True
 | some (.ins _ _ _)=>True
 | some (.ext _)=>True
 | _=>False
section
variable {P:Program}{w:World}{H:Hp}{h h':Heap}{x e:Addr}{o':HO}
theorem HOk.write (ok:HOk P w H h) (mu:Mut (H x)) (he:e=x∨H e=some (.own x)) (k:∀ b u,b≠e→h.get? b=some u→h'.get? b=some u) (heo:∃ u,h'.get? e=some u)
  (new:zbf P w (upd H x o') h' x o'):HOk P w (upd H x o') h':=fun b u q=>by
 have nown:∀ c y,H c=some (.own y)→c≠x:=fun c y r z=>by subst z;rw[r] at mu;exact mu
 have ntup:∀ c xs,H c=some (.tup xs)→c≠x:=fun c xs r z=>by subst z;rw[r] at mu;exact mu
 by_cases hb:b=x
 ·subst hb;rw[zab] at q;cases q;exact new
 ·rw[zaf hb] at q
  by_cases hbe:b=e
  ·have q':H b=some (.own x):=by
    rcases he with z|z
    ·exact absurd (hbe.trans z) hb
    ·rw[hbe];exact z
   rw[q] at q';cases q'
   obtain⟨v,hv⟩:=heo
   exact⟨v,by rw[hbe];exact hv⟩
  ·refine(ok b u q).stay (fun c v hc r=>k c v ?_ r) (fun c r=>by rw[zaf (nown c b r)];exact r) (fun c xs r=>by rw[zaf (ntup c xs r)];exact r) fun c ob r=>by rw[zaf (fun z=>by subst z;rw[r] at mu;exact mu)];exact r
   rcases hc with rfl|hc
   ·exact hbe
   ·rintro rfl
    rcases he with z|z
    ·exact nown c b hc z
    ·rw[hc] at z;cases z;exact hb rfl
end
structure Un (fs ex:List Addr) (H H':Hp) (h h':Heap):Prop where
 keep:∀ b o,h.get? b=some o→H b=none→b∉fs→b∉ex→h'.get? b=some o
 slot:∀ b o,h.get? b=some o→H b=none→b∈fs→b∉ex→∃ sl,h'.get? b=some { o with slots:=sl }
 free:∀ b o,h.get? b=some o→H b=none→b∉ex→H' b=none
 there:∀ b o,h.get? b=some o→b∉ex→∃ o',h'.get? b=some o'
 tups:∀ b xs,H b=some (.tup xs)→H' b=some (.tup xs)
 frzs:∀ b o u,H b=some (.frz o u)→H' b=some (.frz o u)
 tbls:∀ b p q,H b=some (.tbl p q)→H' b=some (.tbl p q)
section
variable {fs fs' ex ex':List Addr}{H H1 H2:Hp}{h h1 h2 h':Heap}{a x e:Addr}{o:HO}
theorem Un.any (u:Un fs ex H H1 h h1){b:Addr}{ob:Obj} (q:h.get? b=some ob) (n:H b=none) (hx:b∉ex):∃ sl,h1.get? b=some { ob with slots:=sl }:=by
 by_cases hb:b∈fs
 ·exact u.slot b ob q n hb hx
 ·exact⟨ob.slots,u.keep b ob q n hb hx⟩
theorem Un.trans (a:Un fs ex H H1 h h1) (b:Un fs ex H1 H2 h1 h2):Un fs ex H H2 h h2 where
 keep:=fun c ob q n hc hx=>b.keep c ob (a.keep c ob q n hc hx) (a.free c ob q n hx) hc hx
 slot:=fun c ob q n hc hx=>by
  obtain⟨sl,e1⟩:=a.slot c ob q n hc hx
  obtain⟨sl',e2⟩:=b.slot c _ e1 (a.free c ob q n hx) hc hx
  exact⟨sl',e2⟩
 free:=fun c ob q n hx=>by
  obtain⟨o',e1⟩:=a.there c ob q hx
  exact b.free c o' e1 (a.free c ob q n hx) hx
 there:=fun c ob q hx=>by
  obtain⟨o',e1⟩:=a.there c ob q hx
  exact b.there c o' e1 hx
 tups:=fun c xs q=>b.tups c xs (a.tups c xs q)
 frzs:=fun c ob xs q=>b.frzs c ob xs (a.frzs c ob xs q)
 tbls:=fun c p q z=>b.tbls c p q (a.tbls c p q z)
theorem Un.kept (k:∀ b u,h.get? b=some u→h'.get? b=some u):Un fs ex H H h h':=
 ⟨fun b ob q _ _ _=>k b ob q,fun b ob q _ _ _=>⟨ob.slots,k b ob q⟩,fun _ _ _ n _=>n,fun b ob q _=>⟨ob,k b ob q⟩,fun _ _ q=>q,fun _ _ _ q=>q,fun _ _ _ q=>q⟩
theorem Un.refl:Un fs ex H H h h:=Un.kept fun _ _ q=>q
theorem Un.laid (k:∀ b u,h.get? b=some u→h'.get? b=some u) (hp:h.objs.size≤a) (hn:H a=none):Un fs ex H (upd H a o) h h' where
 keep:=fun b u q _ _ _=>k b u q
 slot:=fun b u q _ _ _=>⟨u.slots,k b u q⟩
 free:=fun b u q n _=>by rw[zaf (Nat.ne_of_lt (Nat.lt_of_lt_of_le (Heap.lt_size q) hp))];exact n
 there:=fun b u q _=>⟨u,k b u q⟩
 tups:=fun b xs q=>by rw[zaf (zam q hn)];exact q
 frzs:=fun b u xs q=>by rw[zaf (zam q hn)];exact q
 tbls:=fun b p r q=>by rw[zaf (zam q hn)];exact q
theorem Un.write (mu:Mut (H x)) (he:e=x∨H e=some (.own x)) (k:∀ b u,b≠e→h.get? b=some u→h'.get? b=some u) (heo:∃ u,h'.get? e=some u):Un fs ex H (upd H x o) h h':=by
 have hx:∀ b,H b=none→b≠x:=fun b n z=>by subst z;rw[n] at mu;exact mu
 have hb:∀ b,H b=none→b≠e:=fun b n z=>by
  subst z
  rcases he with r|r
  ·exact hx b n r
  ·rw[n] at r;cases r
 have hm:∀ b u,H b=some u→¬ Mut (some u)→b≠x:=fun b u q nm z=>by subst z;rw[q] at mu;exact nm mu
 refine⟨fun b u q n _ _=>k b u (hb b n) q,fun b u q n _ _=>⟨u.slots,k b u (hb b n) q⟩,fun b u q n _=>by rw[zaf (hx b n)];exact n,fun b u q _=>?_,
  fun b xs q=>by rw[zaf (hm b _ q fun z=>z)];exact q,fun b u xs q=>by rw[zaf (hm b _ q fun z=>z)];exact q,fun b p r q=>by rw[zaf (hm b _ q fun z=>z)];exact q⟩
 by_cases hbe:b=e
 ·subst hbe;exact heo
 ·exact⟨u,k b u hbe q⟩
end
def trk (h:Heap) (H:Hp):List Addr:=(List.range h.objs.size).filter fun a=>(H a).isSome
def zjX (h:Heap) (H:Hp):Heap:=PySem.W.hideAll h (trk h H)
theorem zhy (h:Heap) (H:Hp):(zjX h H).objs.size=h.objs.size:=PySem.W.hideAll_size _ _
theorem zex {h:Heap}{H:Hp}{b:Addr}{o:Obj} (e:h.get? b=some o) (n:H b=none):(zjX h H).get? b=some o:=
 PySem.W.hideAll_get _ e fun hm=>by
  have q:(H b).isSome=true:=(List.mem_filter.mp hm).2
  rw[n] at q;simp at q
theorem zkj {h:Heap}{H:Hp}{b:Addr}{o:Obj} (e:(zjX h H).get? b=some o):h.get? b=some o∧H b=none:=by
 have e':h.get? b=some o:=PySem.W.of_hideAll (trk h H) e
 refine⟨e',?_⟩
 cases q:H b with
 | none=>rfl
 | some x=>
  have hm:b∈trk h H:=List.mem_filter.mpr ⟨List.mem_range.mpr (Heap.lt_size e'),by simp[q]⟩
  have z:(zjX h H).get? b=none:=PySem.W.hideAll_none (trk h H) hm
  rw[z] at e;cases e
def zkk (g h:Heap) (L:Addr):List (Addr×Obj):=(List.range h.objs.size).filterMap fun a=>if a=L∨(g.get? a).isSome=true then none else(h.get? a).map fun o=>(a,o)
def zbH (g h:Heap) (L d:Addr):List (Addr×Obj):=(zkk g h L).filter fun p=>decide (p.1≠d)
end L2
namespace L2
open PySem PySem.Spec PyProof.Rows
structure Mod (K:PySem.W.Frag) (mg:Str→Option Value) (base:Heap):Prop where
 kin:K.In base
 glob:base.Ns mainGlobals mg
 blt:∃ mb,base.Ns builtinsNs mb∧∀ x:Str,x≠"__name__"→mb x=bootBuiltins x
 nolimit:base.NoLimit
 bmain:∃ bm ob,mg "__builtins__"=some (.ref bm)∧bm≠builtinsNs∧base.get? bm=some ob∧ob.cls=.type "module"∧ob.dict=some builtinsNs∧ob.data=.plain
structure Cx where
 prog:Program
 w:World
 K:PySem.W.Frag
 mg:Str→Option Value
 base:Heap
 A:Around
 N:List Str
 s₀:Shared
 H₀:Hp
 env:Env
 outer:List Env
 stack:List Env
 ex:List Addr
 fn:Str→Bool
 calm:Bool
 pn:List (Addr×Obj)
 xe:Value→Shared→Prop
def frs (l:List Env):List Addr:=l.filterMap (·.frame)
abbrev Cx.fs (X:Cx):List Addr:=frs X.outer
def Vis (sc:Scope) (x:Str):Prop:=sc.names.lookup x=some .local∨sc.names.lookup x=some .cell∨sc.names.lookup x=some .free
def Loc (sc:Scope) (x:Str):Prop:=sc.names.lookup x=some .local∨sc.names.lookup x=some .cell
def Look (env:Env) (h:Heap) (m:Str→Option Value) (x:Str) (u:Value):Prop:=
 (env.kindOf x=some .local∧m x=some u)∨((env.kindOf x=some .cell∨env.kindOf x=some .free)∧∃ c,env.cells.lookup x=some c∧h.IsCell c (some u))
def zhz (H:Hp) (cs:List Addr):Prop:=cs.Nodup∧∀ j a,cs[j]?=some a→∃ o u vs,H a=some (.frz o u)∧o.data=.fields vs∧vs[2]?=some (nxt cs (j + 1))
def zhA (A:Around) (H:Hp):Prop:=A.handled=none∨∃ a cs,A.handled=some (.ref a)∧zhz H (a::cs)
structure Cx.Ok (X:Cx):Prop where
 mod:Mod X.K X.mg X.base
 kind:X.env.scope.kind=.function
 glob:X.env.globals=mainGlobals
 blt:X.env.builtins=builtinsNs
 above:X.s₀.heap.objs.size≤X.env.locals
 inj:∀ x y c,X.env.cells.lookup x=some c→X.env.cells.lookup y=some c→x=y
 has:∀ x,(X.env.kindOf x=some .cell∨X.env.kindOf x=some .free)→∃ c,X.env.cells.lookup x=some c
 cab:∀ x c,X.fn x=true→X.env.cells.lookup x=some c→X.s₀.heap.objs.size≤c
 hd:zhA X.A X.H₀
 frames:X.A.frames=some X.stack
 stk:X.stack=X.outer∨(X.stack=X.env::X.outer∧X.env.frame=some X.env.locals)
 exf:∀ b∈X.ex,b≠X.env.locals∧∀ x c,X.env.cells.lookup x=some c→c≠b
 bs:∀ b o,X.base.get? b=some o→X.s₀.heap.get? b=some o∧X.H₀ b=none
 bsz:X.base.objs.size≤X.s₀.heap.objs.size
 noex:∀ b o,X.base.get? b=some o→b∉X.ex
 exfs:∀ b∈X.ex,b∉X.fs
 funs:X.s₀.heap.FunFrames X.base X.outer
 frf:∀ b∈X.fs,X.H₀ b=none
structure Inv (X:Cx) (pins:List (Addr×Obj)) (σ:List (Option V)) (H:Hp) (s:Shared):Prop where
 ok:X.Ok
 os:s.os=X.s₀.os
 bare:AllBare s.gens
 base:Un X.fs X.ex X.H₀ H X.s₀.heap s.heap
 loc:∃ m,s.heap.Ns X.env.locals m∧∀ (i:Nat) (x:Str) (v:V),X.N[i]?=some x→σ[i]?=some (some v)→Vis X.env.scope x→∃ u,za3 v u∧Look X.env s.heap m x u
 cell:∀ x c,X.env.cells.lookup x=some c→∃ v,s.heap.IsCell c v
 free:H X.env.locals=none
 freeC:∀ x c,X.env.cells.lookup x=some c→H c=none
 pin:∀ p∈X.pn++pins,s.heap.get? p.1=some p.2∧H p.1=none∧p.1≠X.env.locals∧p.1∉X.fs∧∀ v,p.2.data≠.cell v
 hok:HOk X.prog X.w H s.heap
 len:σ.length=X.N.length
section
variable {X:Cx}{pins:List (Addr×Obj)}{σ:List (Option V)}{H H':Hp}{s:Shared}{h':Heap}
theorem Cx.Ok.nofr (ok:X.Ok){b:Addr}{o:Obj} (e:X.base.get? b=some o):b∉X.fs:=fun hb=>by
 have:=(ok.funs.mem hb).1
 rw[e] at this;cases this
theorem Inv.bs (I:Inv X pins σ H s):∀ b o,X.base.get? b=some o→s.heap.get? b=some o∧H b=none:=fun b o e=>
 ⟨I.base.keep b o (I.ok.bs b o e).1 (I.ok.bs b o e).2 (I.ok.nofr e) (I.ok.noex b o e),I.base.free b o (I.ok.bs b o e).1 (I.ok.bs b o e).2 (I.ok.noex b o e)⟩
theorem Inv.bk (I:Inv X pins σ H s):∀ b o,X.base.get? b=some o→s.heap.get? b=some o:=fun b o e=>(I.bs b o e).1
theorem Inv.mod (I:Inv X pins σ H s):Mod X.K X.mg X.base:=I.ok.mod
theorem Inv.kIn (I:Inv X pins σ H s):X.K.In s.heap:=I.ok.mod.kin.keeps I.bk
theorem zhz.mono {cs:List Addr} (c:zhz H cs) (k:∀ b o u,H b=some (.frz o u)→H' b=some (.frz o u)):zhz H' cs:=⟨c.1,fun j a hj=>by
 obtain⟨o,u,vs,h,r⟩:=c.2 j a hj
 exact⟨o,u,vs,k a o u h,r⟩⟩
theorem zhz.chn {cs:List Addr}{P:Program}{w:World}{h:Heap} (c:zhz H cs) (k:HOk P w H h):Chn h cs:=⟨c.1,fun j a hj=>by
 obtain⟨o,u,vs,q,r⟩:=c.2 j a hj
 obtain⟨z,_⟩:=k a _ q
 exact⟨o,vs,z,r⟩⟩
theorem zhz.not_mem {cs:List Addr}{b:Addr} (c:zhz H cs) (hb:H b=none):b∉cs:=fun z=>by
 obtain⟨j,hj⟩:=List.mem_iff_getElem?.mp z
 obtain⟨o,u,vs,q,_⟩:=c.2 j b hj
 rw[hb] at q;cases q
theorem zhA.mono {A:Around} (x:zhA A H) (k:∀ b o u,H b=some (.frz o u)→H' b=some (.frz o u)):zhA A H':=by
 rcases x with e|⟨a,cs,e,c⟩
 ·exact .inl e
 ·exact .inr ⟨a,cs,e,c.mono k⟩
theorem Inv.hdAt (I:Inv X pins σ H s):zhA X.A H:=I.ok.hd.mono I.base.frzs
theorem zhA.hd {A:Around}{P:Program}{w:World}{h:Heap} (x:zhA A H) (k:HOk P w H h):Hd A h:=by
 rcases x with e|⟨a,cs,e,c⟩
 ·exact .inl e
 ·exact .inr ⟨a,cs,e,c.chn k⟩
theorem zhA.new {A:Around}{p:Addr}{u:HO} (x:zhA A H) (hn:H p=none):zhA A (upd H p u):=x.mono fun b o v q=>by rw[zaf (zam q hn)];exact q
theorem Inv.hd (I:Inv X pins σ H s):Hd X.A s.heap:=I.hdAt.hd I.hok
theorem Inv.lt (I:Inv X pins σ H s):X.env.locals<s.heap.objs.size:=let ⟨_,hn,_⟩:=I.loc;hn.lt
theorem Inv.sz (I:Inv X pins σ H s):X.s₀.heap.objs.size≤s.heap.objs.size:=Nat.le_trans I.ok.above (Nat.le_of_lt I.lt)
theorem Inv.nofs (I:Inv X pins σ H s){a:Addr} (h:s.heap.objs.size≤a):a∉X.fs:=fun hb=>by
 obtain⟨_,o,ho,_⟩:=I.ok.funs.mem hb
 exact absurd (Nat.lt_of_lt_of_le (Heap.lt_size ho) (Nat.le_trans I.sz h)) (Nat.lt_irrefl _)
theorem Inv.cne (I:Inv X pins σ H s):∀ x c,X.env.cells.lookup x=some c→c≠X.env.locals:=fun x c e z=>by
 obtain⟨v,o,ho,hd⟩:=I.cell x c e
 obtain⟨m,⟨o',es,ep,ho',hd',_⟩,_⟩:=I.loc
 rw[z,ho'] at ho;cases ho;rw[hd'] at hd;cases hd
theorem Inv.funs (I:Inv X pins σ H s):s.heap.FunFrames X.base X.outer:=by
 have all:∀ (l:List Env),(∀ b∈frs l,b∈X.fs)→X.s₀.heap.FunFrames X.base l→s.heap.FunFrames X.base l:=by
  intro l
  induction l with
  | nil=>intro _ _;trivial
  | cons env r ih=>
   intro hs hl
   obtain⟨hk,⟨L,o,hf,hn,ho,hd⟩,hr⟩:=hl
   have hL:L∈X.fs:=hs L (by unfold frs;rw[List.filterMap_cons,hf];exact List.mem_cons_self)
   obtain⟨sl,e⟩:=I.base.slot L o ho (I.ok.frf L hL) hL fun z=>I.ok.exfs L z hL
   exact⟨hk,⟨L,_,hf,hn,e,hd⟩,ih (fun b hb=>hs b (by unfold frs;rw[List.filterMap_cons,hf];exact List.mem_cons_of_mem _ hb)) hr⟩
 exact all X.outer (fun _ hb=>hb) I.ok.funs
theorem Inv.stack (I:Inv X pins σ H s):s.heap.FunFrames X.base X.stack:=by
 rcases I.ok.stk with e|⟨e,hf⟩
 ·rw[e];exact I.funs
 ·rw[e]
  obtain⟨m,hn,_⟩:=I.loc
  refine .cons (by rw[I.ok.kind];decide) hf hn ?_ I.funs
  exact Heap.get?_none_of_le (Nat.le_trans I.ok.bsz I.ok.above)
theorem Inv.stkSub (I:Inv X pins σ H s):∀ b∈frs X.stack,b∈X.env.locals::X.fs:=fun b hb=>by
 rcases I.ok.stk with e|⟨e,hf⟩
 ·rw[e] at hb;exact List.mem_cons_of_mem _ hb
 ·rw[e] at hb
  unfold frs at hb
  rw[List.filterMap_cons,hf] at hb
  exact hb
theorem Inv.stkFree (I:Inv X pins σ H s):∀ b∈frs X.stack,H b=none:=fun b hb=>by
 rcases List.mem_cons.mp (I.stkSub b hb) with e|hb
 ·rw[e];exact I.free
 ·obtain⟨_,o,ho,_⟩:=I.ok.funs.mem hb
  exact I.base.free b o ho (I.ok.frf b hb) fun z=>I.ok.exfs b z hb
theorem Inv.step {g':Array GenState}{t':Nat}{d':Drawn}{ch:List Addr} (I:Inv X pins σ H s)
  (hch:∀ b∈ch,(b∈X.ex∨X.s₀.heap.objs.size≤b)∧b≠X.env.locals∧(∀ x c,X.env.cells.lookup x=some c→c≠b)∧∀ p∈X.pn++pins,p.1≠b)
  (keep:∀ b o,b≠X.env.locals→b∉X.fs→b∉ch→s.heap.get? b=some o→H b=none→h'.get? b=some o)
  (slot:∀ b o,b≠X.env.locals→b∈X.fs→b∉ch→s.heap.get? b=some o→H b=none→∃ sl,h'.get? b=some { o with slots:=sl }) (free:∀ b o,b∉ch→s.heap.get? b=some o→H b=none→H' b=none)
  (there:∀ b o,b∉ch→s.heap.get? b=some o→∃ o',h'.get? b=some o')
  (tups:∀ b xs,H b=some (.tup xs)→H' b=some (.tup xs)) (frzs:∀ b o u,H b=some (.frz o u)→H' b=some (.frz o u)) (tbls:∀ b p q,H b=some (.tbl p q)→H' b=some (.tbl p q))
  (ns:∀ m,s.heap.Ns X.env.locals m→h'.Ns X.env.locals m) (hok:HOk X.prog X.w H' h') (hg:AllBare g') :
  Inv X pins σ H' { s with heap:=h',gens:=g',drawn:=d',toks:=t' }:=by
 have neL:∀ b o,X.s₀.heap.get? b=some o→b≠X.env.locals:=fun b o e=>Nat.ne_of_lt (Nat.lt_of_lt_of_le (Heap.lt_size e) I.ok.above)
 have neC:∀ b o,X.s₀.heap.get? b=some o→b∉X.ex→b∉ch:=fun b o e hx hb=>by
  rcases(hch b hb).1 with z|z
  ·exact hx z
  ·exact absurd (Nat.lt_of_lt_of_le (Heap.lt_size e) z) (Nat.lt_irrefl _)
 have cellK:∀ x c,X.env.cells.lookup x=some c→∀ v,s.heap.IsCell c v→h'.IsCell c v:=fun x c e v ⟨o,ho,hd⟩=>by
  have nch:c∉ch:=fun z=>(hch c z).2.2.1 x c e rfl
  by_cases hc:c∈X.fs
  ·obtain⟨sl,q⟩:=slot c o (I.cne x c e) hc nch ho (I.freeC x c e)
   exact⟨_,q,hd⟩
  ·exact⟨o,keep c o (I.cne x c e) hc nch ho (I.freeC x c e),hd⟩
 refine⟨I.ok,I.os,hg,⟨fun b o e n hb hx=>?_,fun b o e n hb hx=>?_,fun b o e n hx=>?_,fun b o e hx=>?_,fun b xs e=>tups b xs (I.base.tups b xs e),fun b o xs e=>frzs b o xs (I.base.frzs b o xs e),fun b p q e=>tbls b p q (I.base.tbls b p q e)⟩,?_,fun x c e=>?_,?_,fun x c e=>?_,fun p hp=>?_,hok,I.len⟩
 ·exact keep b o (neL b o e) hb (neC b o e hx) (I.base.keep b o e n hb hx) (I.base.free b o e n hx)
 ·obtain⟨sl,e1⟩:=I.base.slot b o e n hb hx
  obtain⟨sl',e2⟩:=slot b _ (neL b o e) hb (neC b o e hx) e1 (I.base.free b o e n hx)
  exact⟨sl',e2⟩
 ·obtain⟨o',e1⟩:=I.base.there b o e hx
  exact free b o' (neC b o e hx) e1 (I.base.free b o e n hx)
 ·obtain⟨o',e1⟩:=I.base.there b o e hx
  exact there b o' (neC b o e hx) e1
 ·obtain⟨m,hn,hl⟩:=I.loc
  refine⟨m,ns m hn,fun i x v e1 e2 e3=>?_⟩
  obtain⟨u,r,l⟩:=hl i x v e1 e2 e3
  refine⟨u,r,?_⟩
  rcases l with l|⟨k,c,e,z⟩
  ·exact .inl l
  ·exact .inr ⟨k,c,e,cellK x c e _ z⟩
 ·obtain⟨v,z⟩:=I.cell x c e
  exact⟨v,cellK x c e v z⟩
 ·obtain⟨m,⟨o,_,_,ho,_⟩,_⟩:=I.loc
  exact free _ o (fun z=>(hch _ z).2.1 rfl) ho I.free
 ·obtain⟨v,o,ho,hd⟩:=I.cell x c e
  exact free c o (fun z=>(hch c z).2.2.1 x c e rfl) ho (I.freeC x c e)
 ·obtain⟨e,n,ne,nf,d⟩:=I.pin p hp
  have nch:p.1∉ch:=fun z=>(hch p.1 z).2.2.2 p hp rfl
  exact⟨keep p.1 p.2 ne nf nch e n,free p.1 p.2 nch e n,ne,nf,d⟩
theorem Inv.un {t':Nat} (I:Inv X pins σ H s) (u:Un X.fs [] H H' s.heap h') (hok:HOk X.prog X.w H' h'):Inv X pins σ H' { s with heap:=h',toks:=t' }:=by
 obtain⟨m,⟨o,es,ep,ho,r⟩,_⟩:=id I.loc
 obtain⟨sl,hL⟩:=u.any ho I.free (by simp)
 exact I.step (g':=s.gens) (d':=s.drawn) (ch:=[]) (fun _ z=>nomatch z) (fun b o _ hb _ e n=>u.keep b o e n hb (by simp)) (fun b o _ hb _ e n=>u.slot b o e n hb (by simp)) (fun b o _ e n=>u.free b o e n (by simp)) (fun b o _ e=>u.there b o e (by simp)) u.tups u.frzs u.tbls (fun m' hm=>by
  obtain⟨o',es',ep',ho',r'⟩:=hm
  rw[ho] at ho';cases ho'
  exact⟨_,es',ep',hL,r'⟩) hok I.bare
theorem Inv.call {g':Array GenState}{t':Nat}{d':Drawn}{ch:List Addr} (I:Inv X pins σ H s) (u:Un (frs X.stack) ch H H' s.heap h') (hok:HOk X.prog X.w H' h') (hg:AllBare g')
  (hch:∀ b∈ch,(b∈X.ex∨X.s₀.heap.objs.size≤b)∧b≠X.env.locals∧(∀ x c,X.env.cells.lookup x=some c→c≠b)∧∀ p∈X.pn++pins,p.1≠b) :
  Inv X pins σ H' { s with heap:=h',gens:=g',drawn:=d',toks:=t' }:=by
 obtain⟨m,⟨o,es,ep,ho,r⟩,_⟩:=id I.loc
 obtain⟨sl,hL⟩:=u.any ho I.free fun z=>(hch _ z).2.1 rfl
 exact I.step (ch:=ch) hch (fun b o hL hb hc e n=>u.keep b o e n (fun z=>(List.mem_cons.mp (I.stkSub b z)).elim hL hb) hc) (fun b o _ _ hc e n=>u.any e n hc) (fun b o hc e n=>u.free b o e n hc) (fun b o hc e=>u.there b o e hc) u.tups u.frzs u.tbls (fun m' hm=>by
  obtain⟨o',es',ep',ho',r'⟩:=hm
  rw[ho] at ho';cases ho'
  exact⟨_,es',ep',hL,r'⟩) hok hg
theorem Inv.turned {t':Nat}{it:Addr} (I:Inv X pins σ H s) (k:∀ b o,b≠it→s.heap.get? b=some o→h'.get? b=some o) (hn:H it=none) (hL:it≠X.env.locals)
  (h1:it∈X.ex∨X.s₀.heap.objs.size≤it) (h2:∀ x c,X.env.cells.lookup x=some c→c≠it) (h3:∀ p∈X.pn++pins,p.1≠it):Inv X pins σ H { s with heap:=h',toks:=t' }:=by
 have nit:∀ b u,H b=some u→b≠it:=fun b u e z=>by rw[z,hn] at e;cases e
 refine I.step (g':=s.gens) (d':=s.drawn) (ch:=[it]) (fun b hb=>?_) (fun b o _ _ hc e _=>k b o (fun z=>hc (by simp[z])) e) (fun b o _ _ hc e _=>⟨o.slots,k b o (fun z=>hc (by simp[z])) e⟩) (fun _ _ _ _ n=>n)
  (fun b o hc e=>⟨o,k b o (fun z=>hc (by simp[z])) e⟩) (fun _ _ e=>e) (fun _ _ _ e=>e) (fun _ _ _ e=>e) (fun m hm=>?_) (fun b u e=>?_) I.bare
 ·have e:b=it:=by simpa using hb
  subst e
  exact⟨h1,hL,h2,h3⟩
 ·obtain⟨o,es,ep,ho,r⟩:=hm
  exact⟨o,es,ep,k _ o (Ne.symm hL) ho,r⟩
 ·refine(I.hok b u e).stay (fun c v hc q=>k c v ?_ q) (fun _ q=>q) fun _ _ q=>q
  rcases hc with z|z
  ·rw[z];exact nit b u e
  ·exact nit c _ z
theorem Inv.tok (I:Inv X pins σ H s) (t:Nat):Inv X pins σ H { s with toks:=t }:=I.un (h':=s.heap) (t':=t) Un.refl I.hok
theorem Inv.kept {t':Nat} (I:Inv X pins σ H s) (k:∀ b u,s.heap.get? b=some u→h'.get? b=some u):Inv X pins σ H { s with heap:=h',toks:=t' }:=I.un (Un.kept k) (I.hok.kept k)
theorem Inv.laid {a:Addr}{o:HO}{t':Nat} (I:Inv X pins σ H s) (k:∀ b u,s.heap.get? b=some u→h'.get? b=some u) (hp:s.heap.objs.size≤a) (new:zbf X.prog X.w (upd H a o) h' a o) :
  Inv X pins σ (upd H a o) { s with heap:=h',toks:=t' }:=I.un (Un.laid k hp (I.hok.fresh hp)) (I.hok.laid k hp new)
theorem Inv.write {x e:Addr}{o:HO}{t':Nat} (I:Inv X pins σ H s) (mu:Mut (H x)) (he:e=x∨H e=some (.own x)) (k:∀ b u,b≠e→s.heap.get? b=some u→h'.get? b=some u) (heo:∃ u,h'.get? e=some u)
  (new:zbf X.prog X.w (upd H x o) h' x o):Inv X pins σ (upd H x o) { s with heap:=h',toks:=t' }:=I.un (Un.write mu he k heo) (I.hok.write mu he k heo new)
theorem Inv.pins_of {pins':List (Addr×Obj)} (I:Inv X pins σ H s) (h:∀ p∈pins',s.heap.get? p.1=some p.2∧H p.1=none∧p.1≠X.env.locals∧p.1∉X.fs∧∀ v,p.2.data≠.cell v):Inv X pins' σ H s:=
 ⟨I.ok,I.os,I.bare,I.base,I.loc,I.cell,I.free,I.freeC,fun p hp=>(List.mem_append.mp hp).elim (fun z=>I.pin p (List.mem_append_left _ z)) (h p),I.hok,I.len⟩
theorem zey {N:List Str} (hN:N.Nodup){i j:Nat}{x:Str} (a:N[i]?=some x) (b:N[j]?=some x):i=j:=by
 obtain⟨h1,e1⟩:=List.getElem?_eq_some_iff.mp a
 obtain⟨h2,e2⟩:=List.getElem?_eq_some_iff.mp b
 exact(List.getElem_inj hN).mp (e1.trans e2.symm)
theorem ze7 {M:Model}{A:Around}{E:Value→Shared→Prop}{i:Nat}{x:Str}{v:V}{u:Value}{Q:Unit→Shared→Prop} (I:Inv X pins σ H s) (hN:X.N.Nodup) (hi:X.N[i]?=some x) (hx:Loc X.env.scope x) (r:za3 v u)
  (h:∀ s',Inv X pins (σ.set i (some v)) H s'→(∃ a,Heap.SameBut a s.heap s'.heap∧(a=X.env.locals∨X.env.cells.lookup x=some a))→Q () s') (hf:X.fn x=true∨X.env.scope.names.lookup x=some .local:=by first|exact .inl rfl|exact .inr rfl|assumption):wpAny M A (storeName X.env x u) Q E s:=by
 obtain⟨m,hn,hl⟩:=id I.loc
 have hcls:(X.env.scope.kind == .class || (X.env.scope.kind == .module && X.env.locals != X.env.globals))=false:=by rw[I.ok.kind];rfl
 have hiσ:i<σ.length:=by rw[I.len];exact(List.getElem?_eq_some_iff.mp hi).1
 have cne:=I.cne
 have tracked:∀ {a:Addr}{h':Heap},(∃ o,s.heap.get? a=some o∧H a=none)→Heap.SameBut a s.heap h'→HOk X.prog X.w H h':=fun {a h'} ha hs b ob e=>by
  obtain⟨_,_,hfree⟩:=ha
  refine(I.hok b ob e).stay (fun c w' hc q=>(hs.2 c ?_).trans q) (fun _ q=>q) fun _ _ q=>q
  rintro rfl
  rcases hc with rfl|hc
  ·rw[hfree] at e;cases e
  ·rw[hfree] at hc;cases hc
 rcases hx with hk|hk
 ·refine wpAny_storeName_local hk hn (fun h' hn' hs=>?_) hcls
  obtain⟨oL,_,_,hoL,_⟩:=id hn
  refine h _ ⟨I.ok,I.os,I.bare,⟨fun b o e n hb hx=>?_,fun b o e n hb hx=>?_,I.base.free,fun b o e hx=>?_,I.base.tups,I.base.frzs,I.base.tbls⟩,⟨_,hn',fun j y v' e1 e2 e3=>?_⟩,fun y c e=>?_,I.free,I.freeC,fun p hp=>?_,tracked ⟨oL,hoL,I.free⟩ hs,by simpa using I.len⟩ ⟨_,hs,.inl rfl⟩
  ·exact(hs.2 b (Nat.ne_of_lt (Nat.lt_of_lt_of_le (Heap.lt_size e) I.ok.above))).trans (I.base.keep b o e n hb hx)
  ·obtain⟨sl,e1⟩:=I.base.slot b o e n hb hx
   exact⟨sl,(hs.2 b (Nat.ne_of_lt (Nat.lt_of_lt_of_le (Heap.lt_size e) I.ok.above))).trans e1⟩
  ·obtain⟨o',e1⟩:=I.base.there b o e hx
   exact⟨o',(hs.2 b (Nat.ne_of_lt (Nat.lt_of_lt_of_le (Heap.lt_size e) I.ok.above))).trans e1⟩
  ·by_cases hj:j=i
   ·subst hj
    rw[hi] at e1;cases e1
    rw[List.getElem?_set_self hiσ] at e2
    cases e2
    exact⟨u,r,.inl ⟨hk,by simp⟩⟩
   ·rw[List.getElem?_set_ne (Ne.symm hj)] at e2
    obtain⟨u',r',q⟩:=hl j y v' e1 e2 e3
    refine⟨u',r',?_⟩
    rcases q with⟨k,e⟩|⟨k,c,e,z⟩
    ·refine .inl ⟨k,?_⟩
     have:y≠x:=fun e=>hj (zey hN e1 (e ▸ hi))
     simp[this,e]
    ·exact .inr ⟨k,c,e,z.sameBut hs (cne y c e)⟩
  ·obtain⟨w',z⟩:=I.cell y c e
   exact⟨w',z.sameBut hs (cne y c e)⟩
  ·obtain⟨e,n,ne,nf,d⟩:=I.pin p hp
   exact⟨(hs.2 p.1 ne).trans e,n,ne,nf,d⟩
 ·have hfn:X.fn x=true:=by
   rcases hf with z|z
   ·exact z
   ·rw[z] at hk;cases hk
  obtain⟨c,hc⟩:=I.ok.has x (.inl hk)
  obtain⟨w',z⟩:=I.cell x c hc
  refine wpAny_storeName_cell I.ok.kind hk hc z (fun h' hc' hs=>?_)
  obtain⟨oc,hoc,hocd⟩:=id z
  refine h { s with heap:=h' } ⟨I.ok,I.os,I.bare,⟨fun b o e n hb hx=>?_,fun b o e n hb hx=>?_,I.base.free,fun b o e hx=>?_,I.base.tups,I.base.frzs,I.base.tbls⟩,⟨m,hn.sameBut hs (Ne.symm (cne x c hc)),fun j y v' e1 e2 e3=>?_⟩,fun y c' e=>?_,I.free,I.freeC,fun p hp=>?_,tracked ⟨oc,hoc,I.freeC x c hc⟩ hs,by simpa using I.len⟩ ⟨c,hs,.inr hc⟩
  ·exact(hs.2 b (Nat.ne_of_lt (Nat.lt_of_lt_of_le (Heap.lt_size e) (I.ok.cab x c hfn hc)))).trans (I.base.keep b o e n hb hx)
  ·obtain⟨sl,e1⟩:=I.base.slot b o e n hb hx
   exact⟨sl,(hs.2 b (Nat.ne_of_lt (Nat.lt_of_lt_of_le (Heap.lt_size e) (I.ok.cab x c hfn hc)))).trans e1⟩
  ·obtain⟨o',e1⟩:=I.base.there b o e hx
   exact⟨o',(hs.2 b (Nat.ne_of_lt (Nat.lt_of_lt_of_le (Heap.lt_size e) (I.ok.cab x c hfn hc)))).trans e1⟩
  ·by_cases hj:j=i
   ·subst hj
    rw[hi] at e1;cases e1
    rw[List.getElem?_set_self hiσ] at e2
    cases e2
    exact⟨u,r,.inr ⟨.inl hk,c,hc,hc'⟩⟩
   ·rw[List.getElem?_set_ne (Ne.symm hj)] at e2
    obtain⟨u',r',q⟩:=hl j y v' e1 e2 e3
    refine⟨u',r',?_⟩
    rcases q with q|⟨k,c',e,z'⟩
    ·exact .inl q
    ·refine .inr ⟨k,c',e,z'.sameBut hs ?_⟩
     rintro rfl
     exact hj (zey hN e1 (I.ok.inj _ _ _ e hc ▸ hi))
  ·by_cases hcc:c'=c
   ·subst hcc;exact⟨_,hc'⟩
   ·obtain⟨w2,z2⟩:=I.cell y c' e
    exact⟨w2,z2.sameBut hs hcc⟩
  ·obtain⟨e,n,ne,nf,d⟩:=I.pin p hp
   refine⟨(hs.2 p.1 ?_).trans e,n,ne,nf,d⟩
   intro q
   rw[q,hoc] at e
   have q':oc=p.2:=Option.some.inj e
   exact d w' (by rw[← q'];exact hocd)
theorem zez {M:Model}{A:Around}{E:Value→Shared→Prop}{i:Nat}{x:Str}{v:V}{u:Value}{Q:Unit→Shared→Prop} (I:Inv X pins σ H s) (hN:X.N.Nodup) (hi:X.N[i]?=some x) (hx:Loc X.env.scope x) (r:za3 v u)
  (h:∀ s',Inv X pins (σ.set i (some v)) H s'→Q () s') (hf:X.fn x=true∨X.env.scope.names.lookup x=some .local:=by first|exact .inl rfl|exact .inr rfl|assumption):wpAny M A (storeName X.env x u) Q E s:=
 ze7 I hN hi hx r (fun s' I' _=>h s' I') hf
theorem Inv.call' {s':Shared}{ch:List Addr} (I:Inv X pins σ H s) (ho:s'.os=s.os) (u:Un (frs X.stack) ch H H' s.heap s'.heap) (hok:HOk X.prog X.w H' s'.heap) (hg:AllBare s'.gens)
  (hch:∀ b∈ch,(b∈X.ex∨X.s₀.heap.objs.size≤b)∧b≠X.env.locals∧(∀ x c,X.env.cells.lookup x=some c→c≠b)∧∀ p∈X.pn++pins,p.1≠b):Inv X pins σ H' s':=by
 obtain⟨h',g',d',t',o'⟩:=s'
 have e:o'=s.os:=ho
 subst e
 exact I.call (g':=g') (t':=t') (d':=d') u hok hg hch
end
abbrev XK:=Value→Option Addr→Hp→Prop
abbrev St:=List (Option V)
abbrev VK:=V→Hp→Prop
abbrev TE:=St→Hp→VK→Prop
abbrev TT:=St→Hp→(Bool→Hp→Prop)→Prop
abbrev TA:=St→Hp→(List V→Hp→Prop)→Prop
structure zfW where
 nx:St→Hp→Prop
 rt:VK
 bk:St→Hp→Prop:=fun _ _=>False
 ct:St→Hp→Prop:=fun _ _=>False
abbrev TS:=zfW→St→Hp→Prop
def EP (X:Cx) (pins:List (Addr×Obj)) (σ:St) (Q:VK) (u:Value) (s':Shared):Prop:=∃ v H',Inv X pins σ H' s'∧za3 v u∧Q v H'
def TP (X:Cx) (pins:List (Addr×Obj)) (σ:St) (Q:Bool→Hp→Prop) (b:Bool) (s':Shared):Prop:=∃ H',Inv X pins σ H' s'∧Q b H'
def AP (X:Cx) (pins:List (Addr×Obj)) (σ:St) (Q:List V→Hp→Prop) (us:List Value) (s':Shared):Prop:=∃ vs H',Inv X pins σ H' s'∧zaN vs us∧Q vs H'
def SP (X:Cx) (pins:List (Addr×Obj)) (D:zfW) (f:Flow) (s':Shared):Prop:=
 match f with
 | .next=>∃ σ' H',Inv X pins σ' H' s'∧D.nx σ' H'
 | .brk=>∃ σ' H',Inv X pins σ' H' s'∧D.bk σ' H'
 | .cont=>∃ σ' H',Inv X pins σ' H' s'∧D.ct σ' H'
 | .ret u=>∃ v σ' H',Inv X pins σ' H' s'∧za3 v u∧D.rt v H'
def PE (X:Cx) (e:Expr) (t:TE):Prop:=
 ∀ (pins:List (Addr×Obj)) (s:Shared) (σ:St) (H:Hp) (Q:VK),Inv X pins σ H s→t σ H Q→wpAny (model X.prog X.w) X.A (eval e X.env) (EP X pins σ Q) X.xe s
def PT (X:Cx) (e:Expr) (t:TT):Prop:=
 ∀ (pins:List (Addr×Obj)) (s:Shared) (σ:St) (H:Hp) (Q:Bool→Hp→Prop),Inv X pins σ H s→t σ H Q→wpAny (model X.prog X.w) X.A (isTrue e X.env (eval e X.env)) (TP X pins σ Q) X.xe s
def PW (X:Cx) (e:Expr) (t:TT):Prop:=
 ∀ (whole:Sem Value) (pins:List (Addr×Obj)) (s:Shared) (σ:St) (H:Hp) (Q:Bool→Hp→Prop),Inv X pins σ H s→t σ H Q→wpAny (model X.prog X.w) X.A (isTrue e X.env whole) (TP X pins σ Q) X.xe s
theorem PW.pt {X:Cx}{e:Expr}{t:TT} (h:PW X e t):PT X e t:=h _
def PA (X:Cx) (es:List Expr) (t:TA):Prop:=
 ∀ (pos:Pos) (pins:List (Addr×Obj)) (s:Shared) (σ:St) (H:Hp) (Q:List V→Hp→Prop),Inv X pins σ H s→t σ H Q→wpAny (model X.prog X.w) X.A (spliced (backTo pos (starEach es X.env))) (AP X pins σ Q) X.xe s
def PS (X:Cx) (st:Stmt) (t:TS):Prop:=
 ∀ (pins:List (Addr×Obj)) (s:Shared) (σ:St) (H:Hp) (D:zfW),Inv X pins σ H s→t D σ H→wpAny (model X.prog X.w) X.A (exec st X.env) (SP X pins D) X.xe s
def PSs (X:Cx) (st:List Stmt) (t:TS):Prop:=
 ∀ (pins:List (Addr×Obj)) (s:Shared) (σ:St) (H:Hp) (D:zfW),Inv X pins σ H s→t D σ H→wpAny (model X.prog X.w) X.A (execs st X.env) (SP X pins D) X.xe s
theorem thn {α:Type}{t:Sem α}{Q Q':α→Shared→Prop}{M:Model}{A:Around}{E:Value→Shared→Prop}{s:Shared} (h:wpAny M A t Q E s) (hQ:∀ a s,Q a s→Q' a s):wpAny M A t Q' E s:=wpAny_mono h hQ fun _ _ x=>x
end L2
namespace L2
open PySem PySem.Spec PyProof.Rows
section
variable {X:Cx}
inductive TVar (i:Nat) (σ:St) (H:Hp) (Q:VK):Prop where
 | mk (v:V) (h:σ[i]?=some (some v)) (k:Q v H)
def tVar (i:Nat):TE:=fun σ H Q=>TVar i σ H Q
def tC (v:V):TE:=fun _ H Q=>Q v H
theorem pe_var {i:Nat}{x:Str}{pos:Pos} (hN:X.N[i]?=some x) (hv:Vis X.env.scope x) (hd:(x == ("__debug__":Str))=false:=by decide) (hcd:(x == ("__classdict__":Str))=false:=by decide):PE X (.Name x pos) (tVar i):=by
 intro pins s σ H Q I h
 obtain⟨v,e,h⟩:=h
 obtain⟨m,hn,hl⟩:=I.loc
 obtain⟨u,r,l⟩:=hl i x v hN e hv
 have fin:EP X pins σ Q u s:=⟨v,H,I,r,h⟩
 rcases l with⟨hk,hm⟩|⟨hk,c,hc,hcell⟩
 ·exact wpAny_Name (wpAny_loadName_local I.ok.kind hk hn hm fin) hd
 ·rcases hk with hk|hk
  ·exact wpAny_Name (wpAny_loadName_cell I.ok.kind hk hc hcell fin) hd
  ·exact wpAny_Name (wpAny_loadName_free I.ok.kind hk hc hcell fin hcd) hd
theorem zai {i j pos}:PE X (.Constant (.int i) j pos) (tC (.int i)):=fun _ _ _ H _ I h=>wpAny_Constant_int ⟨.int i,H,I.tok _,⟨_,rfl⟩,h⟩
theorem zgW {b j pos}:PE X (.Constant (.bool b) j pos) (tC (.bl b)):=fun _ _ _ H _ I h=>Constant_bool ⟨.bl b,H,I,rfl,h⟩
theorem zgn {j pos}:PE X (.Constant .none j pos) (tC .non):=fun _ _ _ H _ I h=>Constant_none ⟨.non,H,I,rfl,h⟩
theorem zap {x j pos}:PE X (.Constant (.str x) j pos) (tC (.str x)):=fun _ _ _ H _ I h=>Calls.Constant_str ⟨.str x,H,I.tok _,⟨_,rfl⟩,h⟩
def Gl (X:Cx) (x:Str):Prop:=X.env.kindOf x=some .globalImplicit
theorem zcv {E:Value→Shared→Prop}{pins:List (Addr×Obj)}{s:Shared}{σ:St}{H:Hp}{x:Str}{u:Value}{pos:Pos}{Q:Value→Shared→Prop} (I:Inv X pins σ H s) (hg:Gl X x) (hm:X.mg x=some u) (h:Q u s)
  (hd:(x == ("__debug__":Str))=false:=by decide):wpAny (model X.prog X.w) X.A (eval (.Name x pos) X.env) Q E s:=
 Calls.Name_function_global I.ok.kind hg (Calls.loadGlobal_global (by rw[I.ok.glob];exact I.mod.glob.keeps I.bk) hm h) hd
theorem ze8 {E:Value→Shared→Prop}{pins:List (Addr×Obj)}{s:Shared}{σ:St}{H:Hp}{x:Str}{u:Value}{pos:Pos}{Q:Value→Shared→Prop} (I:Inv X pins σ H s) (hg:Gl X x) (hm:X.mg x=none) (hv:bootBuiltins x=some u) (h:Q u s)
  (hn:x≠"__name__":=by decide) (hd:(x == ("__debug__":Str))=false:=by decide):wpAny (model X.prog X.w) X.A (eval (.Name x pos) X.env) Q E s:=by
 obtain⟨mb,h1,h2⟩:=I.mod.blt
 exact Calls.Name_function_global I.ok.kind hg (Calls.loadGlobal_builtin (by rw[I.ok.glob];exact I.mod.glob.keeps I.bk) hm (by rw[I.ok.blt];exact h1.keeps I.bk) ((h2 x hn).trans hv) h) hd
theorem zfX {x:Str}{v:V}{u:Value}{pos:Pos} (hg:Gl X x) (hm:X.mg x=some u) (r:za3 v u) (hd:(x == ("__debug__":Str))=false:=by decide):PE X (.Name x pos) (tC v):=
 fun _ _ _ H _ I h=>zcv I hg hm ⟨v,H,I,r,h⟩ hd
theorem zkl {x:Str}{v:V}{u:Value}{pos:Pos} (hg:Gl X x) (hm:X.mg x=none) (hv:bootBuiltins x=some u) (r:za3 v u) (hn:x≠"__name__":=by decide) (hd:(x == ("__debug__":Str))=false:=by decide):PE X (.Name x pos) (tC v):=
 fun _ _ _ H _ I h=>ze8 I hg hm hv ⟨v,H,I,r,h⟩ hn hd
variable {a b:Expr}{ta tb:TE}{pos:Pos}
def PC (X:Cx) (op:CmpOp) (a b:Expr) (t:TE):Prop:=
 ∀ (pins:List (Addr×Obj)) (s:Shared) (σ:St) (H:Hp) (Q:VK),Inv X pins σ H s→t σ H Q →
  wpAny (model X.prog X.w) X.A (eval a X.env) (fun v s₁=>wpAny (model X.prog X.w) X.A (eval b X.env) (fun u s₂=>wpAny (model X.prog X.w) X.A (compareOp op v u) (EP X pins σ Q) X.xe s₂) X.xe s₁) X.xe s
theorem zi1 (b:Expr){op:CmpOp} (h:op≠.In) (h2:op≠.NotIn):behindInMarks op b=false:=by
 have e1:(op == CmpOp.In)=false:=by cases op <;> first|rfl|exact absurd rfl h
 have e2:(op == CmpOp.NotIn)=false:=by cases op <;> first|rfl|exact absurd rfl h2
 cases b <;> simp[behindInMarks,e1,e2]
def tB (t:TE):TT:=fun σ H Q=>t σ H fun x H1=>∃ c,x=.bl c∧Q c H1
theorem zjY {op:CmpOp}{t:TE} (h:PC X op a b t) (h1:behindInMarks op b=false:=by first|exact zi1 _ (by decide) (by decide)|rfl):PT X (.Compare a [op] [b] pos) (tB t):=by
 intro pins s σ H Q I hw
 refine wpAny_isTrue_Compare1 (thn (h pins s σ H _ I hw) fun v s1 h1=>thn h1 fun u s2 h2=>thn h2 fun c s3=>L2.ex5 fun x H1 I1 r1 q1=>?_) h1
 obtain⟨d,rfl,q⟩:=q1
 cases r1
 exact wpAny_truthy_bool ⟨H1,I1,q⟩
theorem zbI {e:Expr}{t:TE} (h:PE X e t) (he:∀ whole,isTrue e X.env whole=(do let v ← whole;standAt e.pos;holding [v] (truthy v)):=by intro _;rfl):PT X e (tB t):=by
 intro pins s σ H Q I hw
 refine isTrue_plain (thn (h pins s σ H _ I hw) fun v s1=>L2.ex5 fun x H1 I1 r1 q1=>?_) (he _)
 obtain⟨d,rfl,q⟩:=q1
 cases r1
 exact wpAny_truthy_bool ⟨H1,I1,q⟩
variable {tA tB':TT}{zbH:List Expr}
def tAnd (t u:TT):TT:=fun σ H Q=>t σ H fun c H1=>if c=true then u σ H1 Q else Q false H1
def tOr (t u:TT):TT:=fun σ H Q=>t σ H fun c H1=>if c=true then Q true H1 else u σ H1 Q
def tNot (t:TT):TT:=fun σ H Q=>t σ H fun c H1=>Q (!c) H1
theorem zfY (ha:PT X a tA):PW X (.BoolOp .And [a] pos) tA:=by
 intro wh pins s σ H Q I h
 refine isTrue_and (thn (ha pins s σ H Q I h) fun c s1 e=>?_)
 cases c with
 | true=>exact isTrue_and_nil e
 | false=>exact e
theorem ze9 (ha:PT X a tA):PW X (.BoolOp .Or [a] pos) tA:=by
 intro wh pins s σ H Q I h
 refine isTrue_or (thn (ha pins s σ H Q I h) fun c s1 e=>?_)
 cases c with
 | false=>exact isTrue_or_nil e
 | true=>exact e
theorem zgo (ha:PT X a tA) (hb:PW X (.BoolOp .And (b::zbH) pos) tB'):PW X (.BoolOp .And (a::b::zbH) pos) (tAnd tA tB'):=by
 intro wh pins s σ H Q I h
 refine isTrue_and (thn (ha pins s σ H _ I h) fun c s1=>L2.ex3 fun H1 I1 q1=>?_)
 cases c with
 | true=>exact hb wh pins s1 σ H1 Q I1 q1
 | false=>exact⟨H1,I1,q1⟩
theorem zfa (ha:PT X a tA) (hb:PW X (.BoolOp .Or (b::zbH) pos) tB'):PW X (.BoolOp .Or (a::b::zbH) pos) (tOr tA tB'):=by
 intro wh pins s σ H Q I h
 refine isTrue_or (thn (ha pins s σ H _ I h) fun c s1=>L2.ex3 fun H1 I1 q1=>?_)
 cases c with
 | true=>exact⟨H1,I1,q1⟩
 | false=>exact hb wh pins s1 σ H1 Q I1 q1
theorem zcI (ha:PT X a tA):PT X (.UnaryOp .Not a pos) (tNot tA):=by
 intro pins s σ H Q I h
 exact isTrue_not (ha pins s σ H (fun c H1=>Q (!c) H1) I h)
def tAndV (ta tb:TE):TE:=fun σ H Q=>ta σ H fun x H1=>∃ c,x=.bl c∧if c=true then tb σ H1 Q else Q (.bl false) H1
def tOrV (ta tb:TE):TE:=fun σ H Q=>ta σ H fun x H1=>∃ c,x=.bl c∧if c=true then Q (.bl true) H1 else tb σ H1 Q
def tNotV (ta:TE):TE:=fun σ H Q=>ta σ H fun x H1=>∃ c,x=.bl c∧Q (.bl (!c)) H1
theorem zgp {op}{t:TE} (h:PE X a t):PE X (.BoolOp op [a] pos) t:=fun pins s σ H Q I hw=>BoolOp_one (h pins s σ H Q I hw)
theorem zgq (ha:PE X a ta) (hb:PE X (.BoolOp .And (b::zbH) pos) tb):PE X (.BoolOp .And (a::b::zbH) pos) (tAndV ta tb):=by
 intro pins s σ H Q I h
 refine BoolOp_and (thn (ha pins s σ H _ I h) fun v s1=>L2.ex5 fun x H1 I1 r1 q1=>?_)
 obtain⟨c,rfl,q1⟩:=q1
 cases r1
 refine wpAny_truthy_bool ?_
 cases c with
 | true=>exact hb pins s1 σ H1 Q I1 q1
 | false=>exact⟨.bl false,H1,I1,rfl,q1⟩
theorem pe_or (ha:PE X a ta) (hb:PE X (.BoolOp .Or (b::zbH) pos) tb):PE X (.BoolOp .Or (a::b::zbH) pos) (tOrV ta tb):=by
 intro pins s σ H Q I h
 refine BoolOp_or (thn (ha pins s σ H _ I h) fun v s1=>L2.ex5 fun x H1 I1 r1 q1=>?_)
 obtain⟨c,rfl,q1⟩:=q1
 cases r1
 refine wpAny_truthy_bool ?_
 cases c with
 | false=>exact hb pins s1 σ H1 Q I1 q1
 | true=>exact⟨.bl true,H1,I1,rfl,q1⟩
theorem pe_not (ha:PE X a ta):PE X (.UnaryOp .Not a pos) (tNotV ta):=by
 intro pins s σ H Q I h
 refine UnaryOp_ (thn (ha pins s σ H _ I h) fun v s1=>L2.ex5 fun x H1 I1 r1 q1=>?_)
 obtain⟨c,rfl,q1⟩:=q1
 cases r1
 exact not_of (wpAny_truthy_bool ⟨.bl (!c),H1,I1,rfl,q1⟩)
end
end L2
namespace L2
open PySem PySem.Spec PyProof.Rows
def SqL (K:PySem.W.Frag) (H:Hp) (a:Addr) (xs:List V):Prop:=
 Rd H a (.lst xs) ∨
  ∃ (o:Obj) (its:Array Value) (n:Nat),K.lookup a=some o∧o.cls=.type "list"∧o.dict=none∧o.data=.seq its n∧its.size≤sizeLine∧zaN xs its.toList
def SqT (K:PySem.W.Frag) (H:Hp) (a:Addr) (xs:List V):Prop:=
 Rd H a (.tup xs) ∨
  ∃ (o:Obj) (its:Array Value) (n:Nat),K.lookup a=some o∧o.cls=.type "tuple"∧o.data=.seq its n∧its.size≤sizeLine∧zaN xs its.toList
def absV:Value→Option V
 | .none=>some .non
 | .bool b=>some (.bl b)
 | .int i _=>some (.int i)
 | .str x _=>some (.str x)
 | .bytes b _=>some (.byt b)
 | .float b _=>some (.flt b)
 | .ref a=>some (.ref a)
 | .type n=>some (.ty n)
 | _=>none
theorem za3.abs {x:V}{u:Value} (r:za3 x u):absV u=some x:=by
 cases x with
 | non=>cases r;rfl
 | bl _=>cases r;rfl
 | int _=>obtain⟨t,rfl⟩:=r;rfl
 | str _=>obtain⟨t,rfl⟩:=r;rfl
 | byt _=>obtain⟨t,rfl⟩:=r;rfl
 | flt _=>obtain⟨t,rfl⟩:=r;rfl
 | ref _=>cases r;rfl
 | ty _=>cases r;rfl
theorem za3.inj {x y:V}{u:Value} (r:za3 x u) (q:za3 y u):x=y:=Option.some.inj (r.abs.symm.trans q.abs)
theorem zaN.inj:∀ {xs ys:List V}{us:List Value},zaN xs us→zaN ys us→xs=ys
 | _,_,_,.nil,.nil=>rfl
 | _,_,_,.cons r t,.cons r' t'=>by rw[r.inj r',zaN.inj t t']
section
variable {X:Cx}{pins:List (Addr×Obj)}{σ:St}{H:Hp}{s:Shared}{a:Addr}{xs ys:List V}
theorem SqL.of {K:PySem.W.Frag} (h:H a=some (.lst xs)):SqL K H a xs:=.inl (.inl h)
theorem SqT.of {K:PySem.W.Frag} (h:H a=some (.tup xs)):SqT K H a xs:=.inl (.inl h)
theorem Inv.list (I:Inv X pins σ H s) (h:SqL X.K H a xs):∃ its:List Value,zaN xs its∧PlainL s.heap a its.toArray∧xs.length≤sizeLine:=by
 rcases h with h|⟨o,its,n,hk,hc,hd,hs,hz,r⟩
 ·obtain⟨z,its,n,r,e⟩:=h.ok I.hok
  exact⟨its,r,⟨_,n,e,rfl,rfl,rfl⟩,z⟩
 ·refine⟨its.toList,r,⟨o,n,I.kIn a o hk,hc,hd,by simpa using hs⟩,?_⟩
  have e:=r.length
  simp only[Array.length_toList] at e
  omega
theorem Inv.tuple (I:Inv X pins σ H s) (h:SqT X.K H a xs):∃ its:List Value,zaN xs its∧IsTup s.heap a its.toArray∧xs.length≤sizeLine:=by
 rcases h with h|⟨o,its,n,hk,hc,hs,hz,r⟩
 ·obtain⟨z,its,r,p⟩:=h.ok I.hok
  exact⟨its,r,p,z⟩
 ·refine⟨its.toList,r,⟨o,I.kIn a o hk,hc,n,by simpa using hs⟩,?_⟩
  have e:=r.length
  simp only[Array.length_toList] at e
  omega
theorem Inv.list_inj (I:Inv X pins σ H s) (h:SqL X.K H a xs) (h':SqL X.K H a ys):xs=ys:=by
 obtain⟨its,r,⟨o,n,e,_,_,d⟩,_⟩:=I.list h
 obtain⟨its',r',⟨o',n',e',_,_,d'⟩,_⟩:=I.list h'
 rw[e] at e';cases e'
 rw[d] at d'
 injection d' with d1 _
 have:its=its':=by simpa using congrArg Array.toList d1
 subst this
 exact r.inj r'
theorem Inv.tuple_inj (I:Inv X pins σ H s) (h:SqT X.K H a xs) (h':SqT X.K H a ys):xs=ys:=by
 obtain⟨its,r,⟨o,e,_,n,d⟩,_⟩:=I.tuple h
 obtain⟨its',r',⟨o',e',_,n',d'⟩,_⟩:=I.tuple h'
 rw[e] at e';cases e'
 rw[d] at d'
 injection d' with d1 _
 have:its=its':=by simpa using congrArg Array.toList d1
 subst this
 exact r.inj r'
end
abbrev Cx.wish (X:Cx) (E:Value→Shared→Prop):Cx:={ X with xe:=E }
abbrev Cx.nox (X:Cx):Cx:=X.wish fun _ _=>False
theorem Cx.Ok.wish {X:Cx} (ok:X.Ok) (E:Value→Shared→Prop):(X.wish E).Ok:=
 ⟨ok.mod,ok.kind,ok.glob,ok.blt,ok.above,ok.inj,ok.has,ok.cab,ok.hd,ok.frames,ok.stk,ok.exf,ok.bs,ok.bsz,ok.noex,ok.exfs,ok.funs,ok.frf⟩
theorem Cx.Ok.unwish {X:Cx}{E:Value→Shared→Prop} (ok:(X.wish E).Ok):X.Ok:=
 ⟨ok.mod,ok.kind,ok.glob,ok.blt,ok.above,ok.inj,ok.has,ok.cab,ok.hd,ok.frames,ok.stk,ok.exf,ok.bs,ok.bsz,ok.noex,ok.exfs,ok.funs,ok.frf⟩
section
variable {X:Cx}{pins:List (Addr×Obj)}{σ:St}{H:Hp}{s:Shared}{E:Value→Shared→Prop}
theorem Inv.wish (I:Inv X pins σ H s) (E:Value→Shared→Prop):Inv (X.wish E) pins σ H s:=⟨I.ok.wish E,I.os,I.bare,I.base,I.loc,I.cell,I.free,I.freeC,I.pin,I.hok,I.len⟩
theorem Inv.unwish (I:Inv (X.wish E) pins σ H s):Inv X pins σ H s:=⟨I.ok.unwish,I.os,I.bare,I.base,I.loc,I.cell,I.free,I.freeC,I.pin,I.hok,I.len⟩
theorem SP.unwish {D:zfW}{f:Flow}{s':Shared} (h:SP (X.wish E) pins D f s'):SP X pins D f s':=by
 cases f with
 | next=>obtain⟨σ',H',I,q⟩:=h;exact⟨σ',H',I.unwish,q⟩
 | brk=>obtain⟨σ',H',I,q⟩:=h;exact⟨σ',H',I.unwish,q⟩
 | cont=>obtain⟨σ',H',I,q⟩:=h;exact⟨σ',H',I.unwish,q⟩
 | ret u=>obtain⟨v,σ',H',I,r,q⟩:=h;exact⟨v,σ',H',I.unwish,r,q⟩
theorem PSs.nox {st:List Stmt}{t:TS} (h:PSs X.nox st t):PSs X st t:=fun pins s σ H D I hw=>
 wpAny_mono (h pins s σ H D (I.wish _) hw) (fun _ _ q=>q.unwish) fun _ _ z=>False.elim z
end
section
variable {X:Cx}{st:Stmt}{zbH:List Stmt}{t u:TS}{e:Expr}{te:TE}{pos:Pos}
def tNext:TS:=fun D σ H=>D.nx σ H
def tSeq (t u:TS):TS:=fun D σ H=>t { D with nx:=u D } σ H
theorem zat:PSs X [] tNext:=fun _ _ σ H _ I h=>wpAny_execs_nil ⟨σ,H,I,h⟩
theorem zac (h1:PS X st t) (h2:PSs X zbH u):PSs X (st::zbH) (tSeq t u):=by
 intro pins s σ H D I h
 refine wpAny_execs_cons (thn (h1 pins s σ H { D with nx:=u D } I h) fun f s1 q=>?_)
 cases f with
 | next=>
  obtain⟨σ',H',I',q⟩:=q
  exact h2 pins s1 σ' H' D I' q
 | ret v=>exact q
 | brk=>exact q
 | cont=>exact q
theorem zaj (h1:PS X st t):PSs X [st] t:=by
 intro pins s σ H D I h
 refine wpAny_execs_cons (thn (h1 pins s σ H D I h) fun f s1 q=>?_)
 cases f with
 | next=>exact wpAny_execs_nil q
 | ret v=>exact q
 | brk=>exact q
 | cont=>exact q
theorem Inv.quiet {pins:List (Addr×Obj)}{σ:St}{H:Hp}{s:Shared} (I:Inv X pins σ H s):interactive X.env=false:=by simp[interactive,I.ok.kind]
def tDrop (te:TE):TS:=fun D σ H=>te σ H fun _ H1=>D.nx σ H1
theorem za4 (he:PE X e te) (hs:swapsWith e none pos.line X.env=pure false:=by rfl):PS X (.Expr e pos) (tDrop te):=by
 intro pins s σ H D I h
 exact wpAny_Expr_any (thn (he pins s σ H _ I h) fun v s1=>L2.ex5 fun x H1 I1 r1 q1=>⟨σ,H1,I1,q1⟩) I.quiet hs
def tRet (te:TE):TS:=fun D σ H=>te σ H D.rt
theorem zaA (he:PE X e te):PS X (.Return (some e) pos) (tRet te):=by
 intro pins s σ H D I h
 exact wpAny_Return_some (thn (he pins s σ H _ I h) fun v s1=>L2.ex5 fun x H1 I1 r1 q1=>⟨x,σ,H1,I1,r1,q1⟩)
def tIfS (c:TT) (t u:TS):TS:=fun D σ H=>c σ H fun b H1=>if b=true then t D σ H1 else u D σ H1
theorem za5 {c:Expr}{a b:List Stmt}{tc:TT} (hc:PT X c tc) (ha:PSs X a t) (hb:PSs X b u):PS X (.If c a b pos) (tIfS tc t u):=by
 intro pins s σ H D I h
 refine wpAny_If (thn (hc pins s σ H _ I h) fun d s1=>L2.ex3 fun H1 I1 q1=>?_)
 cases d with
 | true=>exact ha pins s1 σ H1 D I1 q1
 | false=>exact hb pins s1 σ H1 D I1 q1
end
abbrev TG:=V→St→Hp→(St→Hp→Prop)→Prop
abbrev TGs:=List V→St→Hp→(St→Hp→Prop)→Prop
def PG (X:Cx) (target:Expr) (t:TG):Prop:=
 ∀ (pins:List (Addr×Obj)) (s:Shared) (σ:St) (H:Hp) (v:V) (u:Value) (Q:St→Hp→Prop),Inv X pins σ H s→za3 v u→t v σ H Q →
  wpAny (model X.prog X.w) X.A (assign target X.env u) (fun _ s'=>∃ σ' H',Inv X pins σ' H' s'∧Q σ' H') X.xe s
def PGs (X:Cx) (ts:List Expr) (t:TGs):Prop:=
 ∀ (pins:List (Addr×Obj)) (s:Shared) (σ:St) (H:Hp) (vs:List V) (us:List Value) (Q:St→Hp→Prop),Inv X pins σ H s→zaN vs us→t vs σ H Q →
  wpAny (model X.prog X.w) X.A (assignInOrder ((assignEach ts X.env).map (·.2)) us) (fun _ s'=>∃ σ' H',Inv X pins σ' H' s'∧Q σ' H') X.xe s
section
variable {X:Cx}{pos:Pos}
def zaQ (i:Nat):TG:=fun v σ H Q=>Q (σ.set i (some v)) H
theorem zas {i:Nat}{x:Str} (hN:X.N.Nodup) (hi:X.N[i]?=some x) (hx:Loc X.env.scope x) (hf:X.fn x=true∨X.env.scope.names.lookup x=some .local:=by first|exact .inl rfl|exact .inr rfl|assumption):PG X (.Name x pos) (zaQ i):=by
 intro pins s σ H v u Q I r h
 exact wpAny_assign_Name (zez I hN hi hx r (fun s' I'=>⟨_,H,I',h⟩) hf)
def gNil:TGs:=fun vs σ H Q=>vs=[]∧Q σ H
def gCons (t:TG) (u:TGs):TGs:=fun vs σ H Q=>∃ v r,vs=v::r∧t v σ H fun σ' H'=>u r σ' H' Q
theorem zb9:PGs X [] gNil:=by
 intro pins s σ H vs us Q I r h
 obtain⟨e,h⟩:=h
 subst e
 cases r
 exact assignInOrder_nil ⟨σ,H,I,h⟩
theorem zaz {e:Expr}{es:List Expr}{t:TG}{u:TGs} (h1:PG X e t) (h2:PGs X es u)
  (hs:(assignEach (e::es) X.env).map (·.2)=assign e X.env::(assignEach es X.env).map (·.2):=by rfl):PGs X (e::es) (gCons t u):=by
 intro pins s σ H vs us Q I r h
 obtain⟨v,vr,e1,h⟩:=h
 subst e1
 cases r with
 | cons r rr=>
  rw[hs]
  refine assignInOrder_cons (thn (h1 pins s σ H _ _ _ I r h) fun _ s1=>L2.ex4 fun σ1 H1 I1 q1=>?_)
  exact h2 pins s1 σ1 H1 _ _ Q I1 rr q1
def gTup (K:PySem.W.Frag) (n:Nat) (t:TGs):TG:=fun v σ H Q=>∃ a xs,v=.ref a∧SqT K H a xs∧xs.length=n∧t xs σ H Q
theorem zjZ {es:List Expr}{k:Nat}{t:TGs}{n:Nat} (hc:X.calm=true) (h:PGs X es t)
  (hn:(assignEach es X.env).length=n:=by rfl) (hst:(assignEach es X.env).findIdx? (·.1)=none:=by rfl):PG X (.Tuple es k pos) (gTup X.K n t):=by
 intro pins s σ H v u Q I r hw
 obtain⟨a,xs,e1,hq,hl,hw⟩:=hw
 subst e1
 cases r
 obtain⟨its,rv,ht,hz⟩:=I.tuple hq
 refine zfT I.hd ht (by simp[hn,← hl,rv.length]) hst fun h' hx=>?_
 have I1:Inv X pins σ H { s with heap:=h' }:=I.kept (t':=s.toks) fun b o e=>hx b o (Nat.ne_of_lt (Heap.lt_size e)) e
 exact h pins _ σ H xs _ Q I1 (by simpa using rv) hw
def tAsg (te:TE) (g:TG):TS:=fun D σ H=>te σ H fun x H1=>g x σ H1 D.nx
theorem ps_asg {tg e:Expr}{te:TE}{g:TG} (he:PE X e te) (hg:PG X tg g) (hs:swapsWithSole [tg] e pos.line X.env=pure false:=by rfl) (hw:swappedStores [tg] e X.env=pure none:=by rfl)
  (h1:(assignEach [tg] X.env).map (·.2)=[assign tg X.env]:=by rfl):PS X (.Assign [tg] e pos) (tAsg te g):=by
 intro pins s σ H D I h
 refine wpAny_Assign_stores (thn (he pins s σ H _ I h) fun v s1=>L2.ex5 fun x H1 I1 r1 q1=>?_) hs hw
 rw[h1]
 exact thn (hg pins s1 σ H1 x v _ I1 r1 q1) fun _ s2 q=>q
theorem zaw {i:Nat}{x:Str}{e:Expr}{te:TE}{pos':Pos} (hN:X.N.Nodup) (hi:X.N[i]?=some x) (hx:Loc X.env.scope x) (he:PE X e te) (hs:swapsWith e (some (.Name x pos')) pos.line X.env=pure false:=by rfl) (hf:X.fn x=true∨X.env.scope.names.lookup x=some .local:=by first|exact .inl rfl|exact .inr rfl|assumption) :
  PS X (.Assign [.Name x pos'] e pos) (tAsg te (zaQ i)):=by
 intro pins s σ H D I h
 refine wpAny_Assign_Name (thn (he pins s σ H _ I h) fun v s1=>L2.ex5 fun y H1 I1 r1 q1=>?_) hs
 exact zez I1 hN hi hx r1 (fun s2 I2=>⟨_,H1,I2,q1⟩) hf
end
section
variable {X:Cx}{pos:Pos}
end
structure It where
 go:Nat→Hp→Prop
 yld:Nat→Hp→V→Hp→Prop
 stop:Nat→Hp→Prop
def zdn (X:Cx) (pins:List (Addr×Obj)) (H:Hp) (b:Addr):Prop:=
 H b=none∧b≠X.env.locals∧b∉X.fs∧(b∈X.ex∨X.s₀.heap.objs.size≤b)∧(∀ x c,X.env.cells.lookup x=some c→c≠b)∧∀ p∈X.pn++pins,p.1≠b
theorem Inv.fpOk {X:Cx}{pins:List (Addr×Obj)}{σ:St}{H H':Hp}{s:Shared}{b:Addr} (I:Inv X pins σ H s) (hb:s.heap.objs.size≤b) (hn:H' b=none):zdn X pins H' b:=by
 refine⟨hn,Nat.ne_of_gt (Nat.lt_of_lt_of_le I.lt hb),I.nofs hb,.inr (Nat.le_trans I.sz hb),fun x c e z=>?_,fun p hp z=>?_⟩
 ·obtain⟨v,q⟩:=I.cell x c e
  exact absurd (Nat.lt_of_lt_of_le q.lt (by rw[z];exact hb)) (Nat.lt_irrefl _)
 ·exact absurd (Nat.lt_of_lt_of_le (Heap.lt_size (I.pin p hp).1) (by rw[z];exact hb)) (Nat.lt_irrefl _)
structure zkm (P:Program) (w:World) (K:PySem.W.Frag) (tg:Expr) (J:It) (fp:List Addr) (it:Addr) (tn:Nat→Heap→Prop):Prop where
 mem:it∈fp
 obj:∀ i h,tn i h→∀ b∈fp,∃ o,h.get? b=some o∧∀ v,o.data≠.cell v
 keep:∀ i h h',tn i h→(∀ b∈fp,∀ o,h.get? b=some o→h'.get? b=some o)→tn i h'
 item:∀ (X:Cx),X.prog=P→X.w=w→X.K=K→X.calm=true→∀ (i:Nat) (pins:List (Addr×Obj)) (s:Shared) (σ:St) (H:Hp) (E:Value→Shared→Prop),Inv X pins σ H s→(∀ b∈fp,zdn X pins H b)→tn i s.heap→J.go i H →
  wpAny (model P w) X.A (pyNext (.ref it)) (fun r s1=>∃ u,r=some u ∧
   wpAny (model P w) X.A (letOwnedTupleGo tg (.ref it) u) (fun _ s2=>∃ x H',Inv X pins σ H' s2∧za3 x u∧J.yld i H x H'∧tn (i + 1) s2.heap∧∀ b∈fp,H' b=none) E s1) E s
 done:∀ (X:Cx),X.prog=P→X.w=w→X.K=K→X.calm=true→∀ (i:Nat) (pins:List (Addr×Obj)) (s:Shared) (σ:St) (H:Hp) (E:Value→Shared→Prop),Inv X pins σ H s→(∀ b∈fp,zdn X pins H b)→tn i s.heap→J.stop i H →
  wpAny (model P w) X.A (pyNext (.ref it)) (fun r s1=>r=none∧Inv X pins σ H s1) E s
 self:∀ (A:Around) (i:Nat) (s:Shared) (Q:Value→Shared→Prop) (E:Value→Shared→Prop),tn i s.heap→Q (.ref it) s→wpAny (model P w) A (pyIter (.ref it)) Q E s
abbrev TI:=St→Hp→(It→Hp→Prop)→Prop
def PIE (X:Cx) (pins:List (Addr×Obj)) (σ:St) (tg:Expr) (R:It→Hp→Prop) (itv:Value) (s2:Shared):Prop:=
 ∃ (it:Addr) (fp:List Addr) (tn:Nat→Heap→Prop) (J:It) (H':Hp),itv=.ref it∧Inv X pins σ H' s2∧zkm X.prog X.w X.K tg J fp it tn∧tn 0 s2.heap∧(∀ b∈fp,zdn X pins H' b)∧R J H'
def PI (X:Cx) (tg iter:Expr) (wi:TI):Prop:=
 ∀ (pins:List (Addr×Obj)) (s:Shared) (σ:St) (H:Hp) (R:It→Hp→Prop),Inv X pins σ H s→wi σ H R →
  wpAny (model X.prog X.w) X.A (eval iter X.env) (fun v s1=>wpAny (model X.prog X.w) X.A (pyIter v) (PIE X pins σ tg R) X.xe s1) X.xe s
theorem zi2 {M:Model}{A:Around}{E:Value→Shared→Prop}{s:Shared}{tg:Expr}{it:Addr}{u:Value}{o:Obj}{n:String}{vs:Array Value}{Q:Unit→Shared→Prop} (ho:s.heap.get? it=some o) (hc:o.cls=.type n) (hd:o.data=.fields vs)
    (hn:["enumerate","zip","dict_itemiterator","dict_reverseitemiterator","odict_iterator","itertools.zip_longest","itertools.pairwise"].contains n=false) (hQ:Q () s):wpAny M A (letOwnedTupleGo tg (.ref it) u) Q E s:=by
  unfold letOwnedTupleGo
  cases tg <;> first
    | exact wpAny_pure hQ
    | (cases u <;> first
        | exact wpAny_pure hQ
        | (refine wpAny_bind (wpAny_load ho ?_)
           rw[hc,hd]
           show wpAny M A (if (["enumerate","zip","dict_itemiterator","dict_reverseitemiterator","odict_iterator","itertools.zip_longest","itertools.pairwise"].contains n && vs[0]? == some (rawInt _))=true then _ else _) Q E s
           rw[if_neg (by intro h;rw[hn,Bool.false_and] at h;cases h)]
           exact wpAny_pure hQ))
def Itl (K:PySem.W.Frag) (a:Addr):It:=
 ⟨fun i H=>∃ xs x,SqL K H a xs∧xs[i]?=some x,fun i H x H'=>H'=H∧∀ xs,SqL K H a xs→xs[i]?=some x,fun i H=>∃ xs,SqL K H a xs∧xs.length≤i⟩
def Itr (lo:Int) (n:Nat):It:=⟨fun i _=>i<n,fun i H x H'=>H'=H∧x=.int (lo + i),fun i _=>n≤i⟩
theorem zhB {P:Program}{w:World}{K:PySem.W.Frag}{tg:Expr} (a it:Addr):zkm P w K tg (Itl K a) [it] it (fun i h=>h.IsListIter it a i) where
 mem:=by simp
 obj:=fun i h st b hb=>by
  have e:b=it:=by simpa using hb
  subst e
  obtain⟨o,e,c,d⟩:=st
  exact⟨o,e,fun v z=>by rw[d] at z;cases z⟩
 keep:=fun i h h' st k=>st.at fun o e=>k it (by simp) o e
 item:=by
  intro X hP hw hK hc i pins s σ H E I hf st hg
  subst hP hw hK
  obtain⟨xs,x,hq,hx⟩:=hg
  obtain⟨its,rv,p,hz⟩:=I.list hq
  obtain⟨u,hu,ru⟩:=rv.get hx
  obtain⟨f0,f1,f2,f3,f4,f5⟩:=hf it (by simp)
  refine wpAny_pyNext_list_item st p.isList (x:=u) (by simpa using hu) fun h' st' sb=>?_
  have I1:Inv X pins σ H { s with heap:=h' }:=I.turned (t':=s.toks) (fun b o hb e=>(sb.2 b hb).trans e) f0 f1 f3 f4 f5
  obtain⟨o,e,c,d⟩:=id st'
  exact⟨u,rfl,zi2 (s:={ s with heap:=h' }) e c d (by decide) ⟨x,H,I1,ru,⟨rfl,fun ys hy=>by rw[I.list_inj hy hq];exact hx⟩,st',fun b hb=>(hf b hb).1⟩⟩
 done:=by
  intro X hP hw hK hc i pins s σ H E I hf st hg
  subst hP hw hK
  obtain⟨xs,hq,hx⟩:=hg
  obtain⟨its,rv,p,hz⟩:=I.list hq
  obtain⟨f0,f1,f2,f3,f4,f5⟩:=hf it (by simp)
  have hl:=rv.length
  exact zdA I.hd st p.isList (by simp;omega) fun h' eb=>⟨rfl,I.turned (t':=s.toks) (fun b o hb e=>eb b o hb e) f0 f1 f3 f4 f5⟩
 self:=fun _ _ _ _ _ st h=>wpAny_pyIter_listiter st h
theorem zgX {P:Program}{w:World}{K:PySem.W.Frag}{tg:Expr} (it:Addr) (lo:Int) (n:Nat):zkm P w K tg (Itr lo n) [it] it (fun i h=>IsRangeIter h it (lo + (i:Nat) * 1) ((n:Int) - (i:Nat)) 1) where
 mem:=by simp
 obj:=fun i h st b hb=>by
  have e:b=it:=by simpa using hb
  subst e
  exact⟨_,st,fun v z=>by
   have z':Data.fields _=Data.cell v:=z
   cases z'⟩
 keep:=fun i h h' st k=>k it (by simp) _ st
 item:=by
  intro X hP hw hK hc i pins s σ H E I hf st hg
  subst hP hw hK
  obtain⟨f0,f1,f2,f3,f4,f5⟩:=hf it (by simp)
  refine wpAny_pyNext_range_item st (by have:i<n:=hg;omega) fun h' st0 sb=>?_
  have st':IsRangeIter h' it (lo + ((i + 1:Nat):Int) * 1) ((n:Int) - ((i + 1:Nat):Int)) 1:=by
   rw[show lo + ((i + 1:Nat):Int) * 1=lo + (i:Int) * 1 + 1 by omega,show(n:Int) - ((i + 1:Nat):Int)=(n:Int) - (i:Int) - 1 by omega]
   exact st0
  have I1:Inv X pins σ H { s with heap:=h',toks:=s.toks + 1 }:=I.turned (fun b o hb e=>sb.extBut b o hb e) f0 f1 f3 f4 f5
  exact⟨_,rfl,zi2 (s:={ s with heap:=h',toks:=s.toks + 1 }) (n:="range_iterator") st' rfl rfl (by decide) ⟨.int (lo + i),H,I1,⟨_,by rw[Int.mul_one]⟩,⟨rfl,rfl⟩,st',fun b hb=>(hf b hb).1⟩⟩
 done:=by
  intro X hP hw hK hc i pins s σ H E I hf st hg
  subst hP hw hK
  obtain⟨f0,f1,f2,f3,f4,f5⟩:=hf it (by simp)
  exact zgV I.hd st (by have:n≤i:=hg;omega) fun h' eb=>⟨rfl,I.turned (t':=s.toks) (fun b o hb e=>eb b o hb e) f0 f1 f3 f4 f5⟩
 self:=fun _ _ _ _ _ st h=>wpAny_pyIter_rangeiter st h
end L2
namespace L2
open PySem PySem.Spec PyProof.Rows
section
variable {X:Cx}{tg:Expr}
def iList (K:PySem.W.Frag) (tl:TE):TI:=fun σ H R=>tl σ H fun x H1=>∃ a,x=.ref a∧(∃ xs,SqL K H1 a xs)∧R (Itl K a) H1
theorem zbc {l:Expr}{tl:TE} (hl:PE X l tl):PI X tg l (iList X.K tl):=by
 intro pins s σ H R I h
 refine thn (hl pins s σ H _ I h) fun v s1=>L2.ex5 fun x H1 I1 r1 q1=>?_
 obtain⟨a,e,⟨xs,hq⟩,q⟩:=q1
 subst e
 cases r1
 obtain⟨its,rv,p,hz⟩:=I1.list hq
 refine wpAny_pyIter_list p.isList ?_
 refine⟨s1.heap.objs.size,[s1.heap.objs.size],_,_,H1,rfl,I1.kept (t':=s1.toks) fun b o e=>Heap.get?_push_of_some _ e,zhB a _,⟨_,Heap.get?_push_size _ rfl,rfl,rfl⟩,fun b hb=>?_,q⟩
 have e:b=s1.heap.objs.size:=by simpa using hb
 subst e
 exact I1.fpOk (Nat.le_refl _) (I1.hok.fresh (Nat.le_refl _))
theorem zi3 {pins:List (Addr×Obj)}{σ:St}{H:Hp}{s:Shared}{R:It→Hp→Prop}{E:Value→Shared→Prop}{lo hi:Int}{t u v:Tok}{tk:Nat} (I:Inv X pins σ H s) (h1:-(2 ^ 62)≤lo) (h2:lo<2 ^ 62) (h3:-(2 ^ 62)≤hi) (h4:hi<2 ^ 62)
  (q:R (Itr lo (hi - lo).toNat) H):wpAny (model X.prog X.w) X.A (pyIter (.ref s.heap.objs.size)) (PIE X pins σ tg R) E { s with heap:=s.heap.push { cls:=.type "range",data:=.fields #[.int lo t,.int hi u,.int 1 v] },toks:=tk }:=by
 refine wpAny_pyIter_range (IsRange.new ..) (small_one h1 h2 h3 h4) ?_
 have I1:Inv X pins σ H { s with heap:=s.heap.push { cls:=.type "range",data:=.fields #[.int lo t,.int hi u,.int 1 v] },toks:=tk }:=I.kept fun b o e=>Heap.get?_push_of_some _ e
 refine⟨(s.heap.push { cls:=.type "range",data:=.fields #[.int lo t,.int hi u,.int 1 v] }).objs.size,[(s.heap.push { cls:=.type "range",data:=.fields #[.int lo t,.int hi u,.int 1 v] }).objs.size],_,_,H,rfl,
  I1.kept (t':=tk) fun b o e=>Heap.get?_push_of_some _ e,zgX _ lo (hi - lo).toNat,?_,fun b hb=>?_,q⟩
 ·have e1:lo + ((0:Nat):Int) * 1=lo:=by simp
  have e2:(((hi - lo).toNat:Nat):Int) - ((0:Nat):Int)=Builtin.Range.rangeSize lo hi 1:=by rw[rangeSize_one];split <;> omega
  show IsRangeIter _ _ (lo + ((0:Nat):Int) * 1) ((((hi - lo).toNat:Nat):Int) - ((0:Nat):Int)) 1
  rw[e1,e2]
  exact Heap.get?_push_size _ rfl
 ·have e:b=(s.heap.push { cls:=.type "range",data:=.fields #[.int lo t,.int hi u,.int 1 v] }).objs.size:=by simpa using hb
  subst e
  exact I1.fpOk (Nat.le_refl _) (I1.hok.fresh (Nat.le_refl _))
def iRng1 (ta:TA):TI:=fun σ H R=>ta σ H fun vs H1=>∃ j:Int,vs=[.int j]∧-(2 ^ 62)≤j∧j<2 ^ 62∧R (Itr 0 j.toNat) H1
theorem zca {a:Expr}{ta:TA}{p pos:Pos} (hg:Gl X "range") (hm:X.mg "range"=none) (ha:PA X [a] ta) (hs:starEach [a] X.env=[(false,eval a X.env)]:=by rfl):PI X tg (.Call (.Name "range" p) [a] [] pos) (iRng1 ta):=by
 intro pins s σ H R I h
 refine Call_ (ze8 I hg hm boot_range (PyProof.Rows.callWith_type1 (thn (ha pos pins s σ H _ I h) fun us s1=>L2.ex5 fun vs H1 I1 r1 q1=>?_) hs rfl))
 obtain⟨j,e,q1,q2,q⟩:=q1
 subst e
 cases r1 with
 | cons r rr=>
  cases rr
  obtain⟨t,rfl⟩:=r
  exact call_range_1 (zi3 I1 (by omega) (by omega) q1 q2 (by simpa using q))
def tFor (wi:TI) (g:TG) (tb:TS):TS:=fun D σ H=>wi σ H fun J H1=>∃ W:Nat→Nat→St→Hp→Prop,(∃ m,W 0 m σ H1)∧∀ i m σ H,W i m σ H →
 (J.stop i H∧D.nx σ H)∨(J.go i H∧∃ N:St→Hp→Prop,(∀ σ' H',N σ' H'→∃ m',m'<m∧W (i + 1) m' σ' H')∧∀ x H',J.yld i H x H'→g x σ H' fun σ2 H2=>tb { D with nx:=N,ct:=N,bk:=D.nx } σ2 H2)
def zfb (fp:List Addr) (h:Heap):List (Addr×Obj):=fp.filterMap fun b=>(h.get? b).map fun o=>(b,o)
theorem zci {fp:List Addr}{h:Heap}{b:Addr}{o:Obj} (hb:b∈fp) (e:h.get? b=some o):(b,o)∈zfb fp h:=List.mem_filterMap.mpr ⟨b,hb,by rw[e];rfl⟩
theorem zhC {fp:List Addr}{h:Heap}{p:Addr×Obj} (hp:p∈zfb fp h):p.1∈fp∧h.get? p.1=some p.2:=by
 obtain⟨b,hb,e⟩:=List.mem_filterMap.mp hp
 cases q:h.get? b with
 | none=>rw[q] at e;cases e
 | some o=>
  rw[q] at e
  have e':(b,o)=p:=Option.some.inj e
  subst e'
  exact⟨hb,q⟩
theorem Inv.pinned {pins:List (Addr×Obj)}{σ:St}{H:Hp}{s:Shared}{fp:List Addr} (I:Inv X pins σ H s) (hf:∀ b∈fp,zdn X pins H b) (ho:∀ b∈fp,∃ o,s.heap.get? b=some o∧∀ v,o.data≠.cell v):Inv X (pins++zfb fp s.heap) σ H s:=
 I.pins_of fun p hp=>(List.mem_append.mp hp).elim (fun z=>I.pin p (List.mem_append_right _ z)) fun z=>by
  obtain⟨hb,e⟩:=zhC z
  obtain⟨f0,f1,f2,_⟩:=hf p.1 hb
  obtain⟨o,e',d⟩:=ho p.1 hb
  rw[e] at e';cases e'
  exact⟨e,f0,f1,f2,d⟩
theorem Inv.unpinned {pins pl:List (Addr×Obj)}{σ:St}{H:Hp}{s:Shared} (I:Inv X (pins++pl) σ H s):Inv X pins σ H s:=I.pins_of fun p hp=>I.pin p (List.mem_append_right _ (List.mem_append_left _ hp))
theorem zj0 {iter:Expr}{body:List Stmt}{wi:TI}{g:TG}{tb:TS}{pos:Pos} (hp:PassesOwn (model X.prog X.w) X.A X.env X.xe) (hc:X.calm=true) (hi:PI X tg iter wi) (hg:PG X tg g) (hb:PSs X body tb)
  (hs:∀ x,foldedSetIterable iter X.env x=pure x:=by intro _;rfl):PS X (.For tg iter body [] pos) (tFor wi g tb):=by
 intro pins s σ H D I h
 refine wpAny_For (thn (hi pins s σ H _ I h) fun v s1 h1=>thn h1 fun itv s2 h2=>?_) hs
 obtain⟨it,fp,tn,J,H2,e,I2,T,st2,f2,W,⟨m0,w0⟩,turn⟩:=h2
 subst e
 have stat:∀ {H':Hp},(∀ b∈fp,H' b=none)→∀ b∈fp,zdn X pins H' b:=fun hn b hb=>⟨hn b hb,(f2 b hb).2⟩
 refine codeAny_forLoop_any (fun n s'=>∃ i σ' H',Inv X pins σ' H' s'∧tn i s'.heap∧(∀ b∈fp,H' b=none)∧W i n σ' H') ?_ m0 ⟨0,σ,H2,I2,st2,fun b hb=>(f2 b hb).1,w0⟩
 rintro n s3 ⟨i,σ3,H3,I3,st3,fr3,w3⟩
 rcases turn i n σ3 H3 w3 with⟨stop,qn⟩|⟨go,N,hN,step⟩
 ·refine wpAny_passesOwn hp (thn (T.done X rfl rfl rfl hc i pins s3 σ3 H3 X.xe I3 (stat fr3) st3 stop) fun r s4 ⟨hr,I4⟩=>?_)
  subst hr
  exact wpAny_execs_nil ⟨σ3,H3,I4,qn⟩
 ·refine wpAny_passesOwn hp (thn (T.item X rfl rfl rfl hc i pins s3 σ3 H3 X.xe I3 (stat fr3) st3 go) fun r s4 ⟨u,hr,h4⟩=>?_)
  subst hr
  refine wpAny_passesOwn hp (thn h4 fun _ s5=>L2.ex5 fun x H5 I5 r5 hq_=>?_)
  obtain⟨y5,st5,fr5⟩:=hq_
  have I5':=I5.pinned (stat fr5) (T.obj _ _ st5)
  refine wpAny_passesOwn hp (thn (hg _ s5 σ3 H5 x u _ I5' r5 (step x H5 y5)) fun _ s6=>L2.ex4 fun σ6 H6 I6 q6=>?_)
  refine wpAny_passesOwn hp (thn (hb _ s6 σ6 H6 _ I6 q6) fun f s7 q7=>?_)
  have again:∀ {σ7:St}{H7:Hp},Inv X (pins++zfb fp s5.heap) σ7 H7 s7→N σ7 H7→∃ m,m<n∧∃ i σ' H',Inv X pins σ' H' s7∧tn i s7.heap∧(∀ b∈fp,H' b=none)∧W i m σ' H':=fun {σ7 H7} I7 n7=>by
   obtain⟨m',hm,w7⟩:=hN σ7 H7 n7
   refine⟨m',hm,i + 1,σ7,H7,I7.unpinned,T.keep _ _ _ st5 fun b hb o e=>(I7.pin (b,o) (List.mem_append_right _ (List.mem_append_right _ (zci hb e)))).1,fun b hb=>?_,w7⟩
   obtain⟨o,e,d⟩:=T.obj _ _ st5 b hb
   exact(I7.pin (b,o) (List.mem_append_right _ (List.mem_append_right _ (zci hb e)))).2.1
  cases f with
  | next=>obtain⟨σ7,H7,I7,n7⟩:=q7;exact again I7 n7
  | cont=>obtain⟨σ7,H7,I7,n7⟩:=q7;exact again I7 n7
  | brk=>obtain⟨σ7,H7,I7,q7⟩:=q7;exact⟨σ7,H7,I7.unpinned,q7⟩
  | ret v=>obtain⟨x7,σ7,H7,I7,r7,q7⟩:=q7;exact⟨x7,σ7,H7,I7.unpinned,r7,q7⟩
end
def WkW (J:It) (E:St→Hp→Prop) (B:(St→Hp→Prop)→V→St→Hp→Prop) (σ:St) (H:Hp):Prop:=∃ W:Nat→Nat→St→Hp→Prop,(∃ m,W 0 m σ H)∧∀ i m σ H,W i m σ H→(J.stop i H∧E σ H)∨(J.go i H∧∃ N:St→Hp→Prop,(∀ σ' H',N σ' H'→∃ m',m'<m∧W (i + 1) m' σ' H')∧∀ x H',J.yld i H x H'→B N x σ H')
theorem wk_ {J:It}{E:St→Hp→Prop}{B:(St→Hp→Prop)→V→St→Hp→Prop}{σ:St}{H:Hp}{n:Nat} (Pv:Nat→St→Hp→Prop) (h0:Pv 0 σ H) (hg:∀ i σ H,i≤n→Pv i σ H→(i<n→J.go i H)∧(n≤i→J.stop i H)) (hs:∀ i x σ H H',i<n→Pv i σ H→J.yld i H x H'→B (Pv (i + 1)) x σ H') (hd:∀ σ H,Pv n σ H→E σ H):WkW J E B σ H:=by
 refine⟨fun i m σ H=>m=n - i∧i≤n∧Pv i σ H,⟨n,by simp,Nat.zero_le _,h0⟩,?_⟩
 rintro i m σ H ⟨rfl,hi,p⟩
 obtain⟨q1,q2⟩:=hg i σ H hi p
 by_cases hlt:i<n
 ·exact .inr ⟨q1 hlt,Pv (i + 1),fun σ' H' p'=>⟨n - (i + 1),by omega,rfl,hlt,p'⟩,fun x H' y=>hs i x σ H H' hlt p y⟩
 ·have e:i=n:=by omega
  subst e
  exact .inl ⟨q2 (Nat.le_refl _),hd σ H p⟩
def ForW (J:It) (D:zfW) (g:TG) (tb:TS) (σ:St) (H:Hp):Prop:=WkW J D.nx (fun N x σ H'=>g x σ H' fun σ2 H2=>tb { D with nx:=N,ct:=N,bk:=D.nx } σ2 H2) σ H
theorem zi4 {K:PySem.W.Frag}{a:Addr}{xs:List V}{g:TG}{tb:TS}{D:zfW}{σ:St}{H:Hp} (Pv:Nat→St→Hp→Prop) (h0:Pv 0 σ H) (hl:∀ i σ H,i≤xs.length→Pv i σ H→SqL K H a xs)
  (hs:∀ i x σ H,xs[i]?=some x→Pv i σ H→g x σ H fun σ2 H2=>tb { D with nx:=Pv (i + 1),ct:=Pv (i + 1),bk:=D.nx } σ2 H2) (hd:∀ σ H,Pv xs.length σ H→D.nx σ H):ForW (Itl K a) D g tb σ H:=
 wk_ (n:=xs.length) Pv h0 (fun i σ H hi p=>⟨fun h=>⟨xs,xs[i],hl i σ H hi p,by simp[h]⟩,fun h=>⟨xs,hl i σ H hi p,h⟩⟩) (fun i x σ H H' hi p y=>by
 obtain⟨rfl,y⟩:=y
 exact hs i x σ _ (y xs (hl i σ _ (Nat.le_of_lt hi) p)) p) hd
end L2
namespace L2
open PySem PySem.Spec PyProof.Rows
abbrev R2:=V→V→Hp→VK→Prop
def OpR (X:Cx) (f:Value→Value→Sem Value) (r:R2):Prop:=
 ∀ (pins:List (Addr×Obj)) (s:Shared) (σ:St) (H:Hp) (x y:V) (v u:Value) (Q:VK),Inv X pins σ H s→za3 x v→za3 y u→r x y H Q →
  wpAny (model X.prog X.w) X.A (f v u) (EP X pins σ Q) X.xe s
def UnR (X:Cx) (f:Value→Sem Value) (r:V→Hp→VK→Prop):Prop:=
 ∀ (pins:List (Addr×Obj)) (s:Shared) (σ:St) (H:Hp) (x:V) (v:Value) (Q:VK),Inv X pins σ H s→za3 x v→r x H Q →
  wpAny (model X.prog X.w) X.A (f v) (EP X pins σ Q) X.xe s
def zcl (X:Cx) (f:Value) (r:List V→Hp→VK→Prop):Prop:=
 ∀ (pins:List (Addr×Obj)) (s:Shared) (σ:St) (H:Hp) (xs:List V) (us:List Value) (Q:VK),Inv X pins σ H s→zaN xs us→r xs H Q →
  wpAny (model X.prog X.w) X.A (call f us) (EP X pins σ Q) X.xe s
def tOp (r:R2) (ta tb:TE):TE:=fun σ H Q=>ta σ H fun x H1=>tb σ H1 fun y H2=>r x y H2 Q
def tUn (r:V→Hp→VK→Prop) (ta:TE):TE:=fun σ H Q=>ta σ H fun x H1=>r x H1 Q
def rI (C:Int→Int→Prop) (g:Int→Int→V):R2:=fun x y H Q=>∃ i j,x=.int i∧y=.int j∧C i j∧Q (g i j) H
def rI0 (g:Int→Int→V):R2:=fun x y H Q=>∃ i j,x=.int i∧y=.int j∧Q (g i j) H
def rU (g:Int→V):V→Hp→VK→Prop:=fun x H Q=>∃ i,x=.int i∧Q (g i) H
section
variable {X:Cx}{a b c:Expr}{ta tb tc:TE}{pos:Pos}
theorem binT (ha:PE X a ta) (hb:PE X b tb){pins:List (Addr×Obj)}{s:Shared}{σ:St}{H:Hp}{R:V→V→Hp→Prop} (I:Inv X pins σ H s)
  (h:ta σ H fun x H1=>tb σ H1 fun y H2=>R x y H2){Q:Value→Shared→Prop}{f:Value→Value→Sem Value}
  (hf:∀ v u s2 x y H2,Inv X pins σ H2 s2→za3 x v→za3 y u→R x y H2→wpAny (model X.prog X.w) X.A (f v u) Q X.xe s2) :
  wpAny (model X.prog X.w) X.A (eval a X.env) (fun v s₁=>wpAny (model X.prog X.w) X.A (eval b X.env) (fun u s₂=>wpAny (model X.prog X.w) X.A (f v u) Q X.xe s₂) X.xe s₁) X.xe s:=by
 refine thn (ha pins s σ H _ I h) fun v s1=>L2.ex5 fun x H1 I1 r1 q1=>?_
 refine thn (hb pins s1 σ H1 _ I1 q1) fun u s2=>L2.ex5 fun y H2 I2 r2 q2=>?_
 exact hf v u s2 x y H2 I2 r1 r2 q2
theorem zao {op:Operator}{r:R2} (ho:OpR X (binaryOp op) r) (ha:PE X a ta) (hb:PE X b tb):PE X (.BinOp a op b pos) (tOp r ta tb):=by
 intro pins s σ H Q I h
 exact wpAny_BinOp (binT ha hb I h fun v u s2 x y H2 I2 rx ry q=>ho pins s2 σ H2 x y v u Q I2 rx ry q)
theorem zi5 {op:UnaryOp}{r:V→Hp→VK→Prop} (ho:UnR X (unaryOp op) r) (ha:PE X a ta):PE X (.UnaryOp op a pos) (tUn r ta):=by
 intro pins s σ H Q I h
 exact UnaryOp_ (thn (ha pins s σ H _ I h) fun v s1=>L2.ex5 fun x H1 I1 r1 q1=>ho pins s1 σ H1 x v Q I1 r1 q1)
theorem opI {f:Value→Value→Sem Value}{C:Int→Int→Prop}{g:Int→Int→Int}
  (rule:∀ (i j:Int) (t u:Tok) (s:Shared) (Q:Value→Shared→Prop) (E:Value→Shared→Prop),C i j→Q (.int (g i j) s.toks) { s with toks:=s.toks + 1 }→wpAny (model X.prog X.w) X.A (f (.int i t) (.int j u)) Q E s) :
  OpR X f (rI C fun i j=>.int (g i j)):=by
 intro pins s σ H x y v u Q I rx ry h
 obtain⟨i,j,rfl,rfl,hc,q⟩:=h
 obtain⟨t,rfl⟩:=rx
 obtain⟨t',rfl⟩:=ry
 exact rule i j t t' s _ _ hc ⟨.int (g i j),H,I.tok _,⟨_,rfl⟩,q⟩
theorem opI0 {f:Value→Value→Sem Value}{g:Int→Int→Int}
  (rule:∀ (i j:Int) (t u:Tok) (s:Shared) (Q:Value→Shared→Prop) (E:Value→Shared→Prop),Q (.int (g i j) s.toks) { s with toks:=s.toks + 1 }→wpAny (model X.prog X.w) X.A (f (.int i t) (.int j u)) Q E s) :
  OpR X f (rI0 fun i j=>.int (g i j)):=by
 intro pins s σ H x y v u Q I rx ry h
 obtain⟨i,j,rfl,rfl,q⟩:=h
 obtain⟨t,rfl⟩:=rx
 obtain⟨t',rfl⟩:=ry
 exact rule i j t t' s _ _ ⟨.int (g i j),H,I.tok _,⟨_,rfl⟩,q⟩
theorem opB0 {f:Value→Value→Sem Value}{g:Int→Int→Bool}
  (rule:∀ (i j:Int) (t u:Tok) (s:Shared) (Q:Value→Shared→Prop) (E:Value→Shared→Prop),Q (.bool (g i j)) s→wpAny (model X.prog X.w) X.A (f (.int i t) (.int j u)) Q E s) :
  OpR X f (rI0 fun i j=>.bl (g i j)):=by
 intro pins s σ H x y v u Q I rx ry h
 obtain⟨i,j,rfl,rfl,q⟩:=h
 obtain⟨t,rfl⟩:=rx
 obtain⟨t',rfl⟩:=ry
 exact rule i j t t' s _ _ ⟨.bl (g i j),H,I,rfl,q⟩
def CDiv (i j:Int):Prop:=0<j∧j<1073741824
def CPow (i j:Int):Prop:=0≤j∧j≤1000000∧i.natAbs<2 ^ 64
def CMul (i j:Int):Prop:=(-(2 ^ 64)<i∧i<2 ^ 64)∨(-(2 ^ 64)<j∧j<2 ^ 64)
theorem CMul.ok {i j:Int} (h:CMul i j):IntMulOk i j:=by
 rcases h with⟨h1,h2⟩|⟨h1,h2⟩
 ·exact .of_left (intBits_le_64 h1 h2)
 ·exact .of_right (intBits_le_64 h1 h2)
theorem zbJ:OpR X (binaryOp .Add) (rI0 fun i j=>.int (i + j)):=opI0 fun _ _ _ _ _ _ _ q=>add_int q
theorem zdB:OpR X (binaryOp .Sub) (rI0 fun i j=>.int (i - j)):=opI0 fun _ _ _ _ _ _ _ q=>sub_int q
theorem zgr:OpR X (binaryOp .Mult) (rI CMul fun i j=>.int (i * j)):=opI fun _ _ _ _ _ _ _ hc q=>mul_int q hc.ok
theorem zeA:OpR X (binaryOp .FloorDiv) (rI CDiv fun i j=>.int (i / j)):=opI fun i j _ _ _ _ _ hc q=>by
 have h1:(0:Int)<j:=hc.1
 have h2:j<1073741824:=hc.2
 exact floordiv_int (by omega) (by rw[Int.fdiv_eq_ediv_of_nonneg i (by omega)];exact q) (.inl (PyProof.noPylong_small (by omega)))
theorem zbr:OpR X (binaryOp .Mod) (rI (fun _ j=>0<j) fun i j=>.int (i % j)):=opI fun i j _ _ _ _ _ hc q=>by
 have h1:(0:Int)<j:=hc
 exact mod_int' (by omega) (by rw[Int.fmod_eq_emod_of_nonneg i (by omega)];exact q)
theorem op_pow:OpR X (binaryOp .Pow) (rI CPow fun i j=>.int (i ^ j.toNat)):=opI fun _ _ _ _ _ _ _ hc q=>pow_int_small hc.1 hc.2.1 hc.2.2 q
theorem unI {f:Value→Sem Value}{g:Int→Int}
  (rule:∀ (i:Int) (t:Tok) (s:Shared) (Q:Value→Shared→Prop) (E:Value→Shared→Prop),Q (.int (g i) s.toks) { s with toks:=s.toks + 1 }→wpAny (model X.prog X.w) X.A (f (.int i t)) Q E s) :
  UnR X f (rU fun i=>.int (g i)):=by
 intro pins s σ H x v Q I rx h
 obtain⟨i,rfl,q⟩:=h
 obtain⟨t,rfl⟩:=rx
 exact rule i t s _ _ ⟨.int (g i),H,I.tok _,⟨_,rfl⟩,q⟩
theorem zgs:UnR X (unaryOp .USub) (rU fun i=>.int (-i)):=unI fun _ _ _ _ _ q=>neg_int q
end
def scal:V→V→Bool
 | .non,.non=>true | .non,.int _=>true | .int _,.non=>true | .non,.bl _=>true | .bl _,.non=>true | .non,.str _=>true | .str _,.non=>true
 | .int _,.int _=>true | .bl _,.bl _=>true | .str _,.str _=>true | .byt _,.byt _=>true
 | .int _,.str _=>true | .str _,.int _=>true | .bl _,.str _=>true | .str _,.bl _=>true
 | _,_=>false
def rEq:R2:=fun x y H Q=>scal x y=true∧Q (.bl (decide (x=y))) H
def rNe:R2:=fun x y H Q=>scal x y=true∧Q (.bl (!decide (x=y))) H
theorem zhD {i j:Int}:decide (V.int i=V.int j)=(i == j):=by
 rw[Bool.eq_iff_iff]
 simp
theorem zj1 {i j:Bool}:decide (V.bl i=V.bl j)=(i == j):=by
 rw[Bool.eq_iff_iff]
 simp
theorem zhE {i j:Str}:decide (V.str i=V.str j)=(i == j):=by
 rw[Bool.eq_iff_iff]
 simp
theorem zhF {i j:Array UInt8}:decide (V.byt i=V.byt j)=(i.toList == j.toList):=by
 rw[Bool.eq_iff_iff]
 cases i
 cases j
 simp
section
variable {X:Cx}{a b c:Expr}{ta tb tc:TE}{pos:Pos}
theorem zaG {pins:List (Addr×Obj)}{σ:St}{H:Hp}{s:Shared}{Q:VK}{k k':Bool} (I:Inv X pins σ H s) (q:Q (.bl k) H) (e:k=k'):EP X pins σ Q (.bool k') s:=by
 subst e
 exact⟨.bl k,H,I,rfl,q⟩
theorem zdo:OpR X (compareOp .Eq) rEq:=by
 intro pins s σ H x y v u Q I rx ry h
 obtain⟨hs,q⟩:=h
 cases x with
 | non=>
  cases rx
  cases y with
  | non=>cases ry;exact PySem.EqNone.eq_none_none (zaG I q (by simp))
  | bl j=>cases ry;exact PySem.EqNone.eq_none_bool (zaG I q (by simp))
  | int j=>obtain⟨t',rfl⟩:=ry;exact PySem.EqNone.eq_none_int (zaG I q (by simp))
  | str j=>obtain⟨t',rfl⟩:=ry;exact PySem.EqNone.eq_none_str (zaG I q (by simp))
  | _=>exact absurd (show false=true from hs) Bool.false_ne_true
 | bl i=>
  cases rx
  cases y with
  | non=>cases ry;exact PySem.EqNone.eq_bool_none (zaG I q (by simp))
  | bl j=>cases ry;exact eq_bool (zaG I q zj1)
  | str j=>obtain⟨t',rfl⟩:=ry;exact PySem.EqMixed.eq_bool_str (zaG I q (by simp))
  | _=>exact absurd (show false=true from hs) Bool.false_ne_true
 | int i=>
  obtain⟨t,rfl⟩:=rx
  cases y with
  | non=>cases ry;exact PySem.EqNone.eq_int_none (zaG I q (by simp))
  | int j=>obtain⟨t',rfl⟩:=ry;exact eq_int (zaG I q zhD)
  | str j=>obtain⟨t',rfl⟩:=ry;exact PySem.EqMixed.eq_int_str (zaG I q (by simp))
  | _=>exact absurd (show false=true from hs) Bool.false_ne_true
 | str i=>
  obtain⟨t,rfl⟩:=rx
  cases y with
  | non=>cases ry;exact PySem.EqNone.eq_str_none (zaG I q (by simp))
  | bl j=>cases ry;exact PySem.EqMixed.eq_str_bool (zaG I q (by simp))
  | int j=>obtain⟨t',rfl⟩:=ry;exact PySem.EqMixed.eq_str_int (zaG I q (by simp))
  | str j=>obtain⟨t',rfl⟩:=ry;exact eq_str (zaG I q zhE)
  | _=>exact absurd (show false=true from hs) Bool.false_ne_true
 | byt i=>
  obtain⟨t,rfl⟩:=rx
  cases y with
  | byt j=>obtain⟨t',rfl⟩:=ry;exact PySem.W.eq_bytes (zaG I q zhF)
  | _=>exact absurd (show false=true from hs) Bool.false_ne_true
 | _=>cases y <;> exact absurd (show false=true from hs) Bool.false_ne_true
theorem op_ne:OpR X (compareOp .NotEq) rNe:=by
 intro pins s σ H x y v u Q I rx ry h
 obtain⟨hs,q⟩:=h
 cases x with
 | non=>
  cases rx
  cases y with
  | non=>cases ry;exact PySem.EqNone.ne_none_none (zaG I q (by simp))
  | bl j=>cases ry;exact PySem.EqNone.ne_none_bool (zaG I q (by simp))
  | int j=>obtain⟨t',rfl⟩:=ry;exact PySem.EqNone.ne_none_int (zaG I q (by simp))
  | str j=>obtain⟨t',rfl⟩:=ry;exact PySem.EqNone.ne_none_str (zaG I q (by simp))
  | _=>exact absurd (show false=true from hs) Bool.false_ne_true
 | bl i=>
  cases rx
  cases y with
  | non=>cases ry;exact PySem.EqNone.ne_bool_none (zaG I q (by simp))
  | bl j=>cases ry;exact ne_bool (zaG I q (congrArg not zj1))
  | str j=>obtain⟨t',rfl⟩:=ry;exact PySem.EqMixed.ne_bool_str (zaG I q (by simp))
  | _=>exact absurd (show false=true from hs) Bool.false_ne_true
 | int i=>
  obtain⟨t,rfl⟩:=rx
  cases y with
  | non=>cases ry;exact PySem.EqNone.ne_int_none (zaG I q (by simp))
  | int j=>obtain⟨t',rfl⟩:=ry;exact ne_int (zaG I q (congrArg not zhD))
  | str j=>obtain⟨t',rfl⟩:=ry;exact PySem.EqMixed.ne_int_str (zaG I q (by simp))
  | _=>exact absurd (show false=true from hs) Bool.false_ne_true
 | str i=>
  obtain⟨t,rfl⟩:=rx
  cases y with
  | non=>cases ry;exact PySem.EqNone.ne_str_none (zaG I q (by simp))
  | bl j=>cases ry;exact PySem.EqMixed.ne_str_bool (zaG I q (by simp))
  | int j=>obtain⟨t',rfl⟩:=ry;exact PySem.EqMixed.ne_str_int (zaG I q (by simp))
  | str j=>obtain⟨t',rfl⟩:=ry;exact ne_str (zaG I q (congrArg not zhE))
  | _=>exact absurd (show false=true from hs) Bool.false_ne_true
 | byt i=>
  obtain⟨t,rfl⟩:=rx
  cases y with
  | byt j=>obtain⟨t',rfl⟩:=ry;exact PySem.W.ne_bytes (zaG I q (congrArg not zhF))
  | _=>exact absurd (show false=true from hs) Bool.false_ne_true
 | _=>cases y <;> exact absurd (show false=true from hs) Bool.false_ne_true
theorem zgY:OpR X (compareOp .Lt) (rI0 fun i j=>.bl (decide (i<j))):=opB0 fun _ _ _ _ _ _ _ q=>lt_int q
theorem op_le:OpR X (compareOp .LtE) (rI0 fun i j=>.bl (decide (i≤j))):=opB0 fun _ _ _ _ _ _ _ q=>le_int q
theorem zkn:OpR X (compareOp .Gt) (rI0 fun i j=>.bl (decide (j<i))):=opB0 fun _ _ _ _ _ _ _ q=>gt_int q
theorem zhG:OpR X (compareOp .GtE) (rI0 fun i j=>.bl (decide (j≤i))):=opB0 fun _ _ _ _ _ _ _ q=>ge_int q
theorem zfc:OpR X (compareOp .In) (fun x y H Q=>∃ i j,x=.str i∧y=.str j∧Q (.bl (!(Builtin.Str.occurrences j i 0 j.length 1).isEmpty)) H):=by
 intro pins s σ H x y v u Q I rx ry h
 obtain⟨i,j,rfl,rfl,q⟩:=h
 obtain⟨t,rfl⟩:=rx
 obtain⟨t',rfl⟩:=ry
 exact in_str (zaG I q rfl)
theorem zaB (b:Expr){op:CmpOp} (h:op≠.In:=by decide) (h2:op≠.NotIn:=by decide):behindInMarks op b=false:=by
 have e1:(op == CmpOp.In)=false:=by cases op <;> first|rfl|exact absurd rfl h
 have e2:(op == CmpOp.NotIn)=false:=by cases op <;> first|rfl|exact absurd rfl h2
 cases b <;> simp[behindInMarks,e1,e2]
theorem zcb {op:CmpOp}{r:R2} (ho:OpR X (compareOp op) r) (ha:PE X a ta) (hb:PE X b tb) (hm:behindInMarks op b=false):PE X (.Compare a [op] [b] pos) (tOp r ta tb):=by
 intro pins s σ H Q I h
 exact wpAny_Compare1 (binT ha hb I h fun v u s2 x y H2 I2 rx ry q=>ho pins s2 σ H2 x y v u Q I2 rx ry q) hm
def tTest (t:TE):TT:=fun σ H Q=>t σ H fun x H'=>∃ k,x=.bl k∧Q k H'
theorem zav {op:CmpOp}{r:R2} (ho:OpR X (compareOp op) r) (ha:PE X a ta) (hb:PE X b tb) (hm:behindInMarks op b=false):PT X (.Compare a [op] [b] pos) (tTest (tOp r ta tb)):=by
 intro pins s σ H Q I h
 refine wpAny_isTrue_Compare1 (thn (ha pins s σ H _ I h) fun v s1=>L2.ex5 fun x H1 I1 r1 q1=>thn (hb pins s1 σ H1 _ I1 q1) fun u s2=>L2.ex5 fun y H2 I2 r2 q2=>
  thn (ho pins s2 σ H2 x y v u _ I2 r1 r2 q2) fun c s3 ⟨z,H3,I3,r3,k,e,q3⟩=>?_) hm
 subst e
 cases r3
 exact wpAny_truthy_bool ⟨H3,I3,q3⟩
theorem zfd:(sizeLine:Nat)<2 ^ 63:=by rw[sizeLine_eq];decide
theorem zak:OpR X (binaryOp .Add) (fun x y H Q=>∃ i j,x=.str i∧y=.str j∧i.length + j.length≤sizeLine∧Q (.str (i++j)) H):=by
 intro pins s σ H x y v u Q I rx ry h
 obtain⟨i,j,rfl,rfl,hz,q⟩:=h
 obtain⟨t,rfl⟩:=rx
 obtain⟨t',rfl⟩:=ry
 exact add_str (fun t' tk=>⟨.str (i++j),H,I.tok _,⟨_,rfl⟩,q⟩) hz
theorem zcX {x:V}{us:List Value} (r:zaN [x] us):∃ u,us=[u]∧za3 x u:=by
 cases r with
 | cons r1 r2=>cases r2;exact⟨_,rfl,r1⟩
theorem zi6 {x y:V}{us:List Value} (r:zaN [x,y] us):∃ u w',us=[u,w']∧za3 x u∧za3 y w':=by
 cases r with
 | cons r1 r2=>
  cases r2 with
  | cons r3 r4=>cases r4;exact⟨_,_,rfl,r1,r3⟩
theorem zby:zcl X (.type "str") (fun xs H Q=>∃ i,xs=[.int i]∧i.natAbs.log2<1920∧Q (.str (toString i)) H):=by
 intro pins s σ H xs us Q I r h
 obtain⟨i,rfl,hz,q⟩:=h
 obtain⟨u,rfl,t,rfl⟩:=zcX r
 exact PySem.P.str_of_int hz ⟨.str _,H,I.tok _,⟨_,rfl⟩,q⟩
end
end L2
namespace L2
open PySem PySem.Spec PyProof.Rows
structure zko (h:Heap) (x dx C:Addr) (mA:Str→Option Value):Prop where
 obj:h.get? x=some (PySem.W.instObj C dx)
 ns:h.Ns1 dx mA
 ne:dx≠x
theorem zdC {h:Heap}{dx:Addr}{mA:Str→Option Value} (n:h.Ns1 dx mA):∃ od,h.get? dx=some od∧∀ name,PySem.W.lookIn name od=some (mA name):=by
 obtain⟨o,es,ep,ho,hd,hk,_,hm⟩:=n
 refine⟨o,ho,fun name=>?_⟩
 have e:=hm name
 unfold nsFind findBy at e
 rw[← Array.find?_toList] at e
 unfold PySem.W.lookIn
 rw[hd]
 dsimp only
 split
 ·rename_i y q
  rw[q] at e
  exact congrArg some e
 ·rename_i q
  rw[q] at e
  have a:es.toList.any (·.refKey)=false:=by
   rw[List.any_eq_false]
   intro y hy
   obtain⟨z,t,hkey⟩:=hk y (Array.mem_toList_iff.mp hy)
   simp[DictEntry.refKey,hkey]
  have a':¬ es.toList.any (·.refKey)=true:=by rw[a];exact Bool.false_ne_true
  rw[if_neg a']
  exact congrArg some e
theorem zko.look {h:Heap}{x dx C:Addr}{mA:Str→Option Value} (I:zko h x dx C mA):∃ od,PySem.W.InstAt h x (PySem.W.instObj C dx) C (some od)∧∀ name,PySem.W.lookIn name od=some (mA name):=
 let ⟨od,ho,hl⟩:=zdC I.ns
 ⟨od,⟨I.obj,rfl,rfl,ho⟩,hl⟩
section
variable {prog:Program}{w:World}{A:Around}{E:Value→Shared→Prop}{s:Shared}{K:PySem.W.Frag}{x dx C f:Addr}{mA:Str→Option Value}{name:Str}{v:Value}
theorem zkp {expr:Bool}{Q:Value→Shared→Prop} (X:K.In s.heap) (I:zko s.heap x dx C mA) (hg:PySem.W.plainGet K C name=true) (hh:PySem.W.hasDictIn K C=true)
  (ha:PySem.W.findIn K (.ref C) name=some none) (hv:mA name=some v) (hv':PySem.W.handedIn v=true) (h:Q v { s with toks:=s.toks + 1 }) :
  wpAny (model prog w) A (getAttr (.ref x) name expr) Q E s:=by
 obtain⟨od,J,hl⟩:=I.look
 exact PySem.W.get_value X J (PySem.W.plainGet_of hg).1 (PySem.W.findObj_own hh ha rfl (by rw[hl,hv])) hv' h
theorem zi7 {pl:Sem Bool}{Q:Value×List Value→Shared→Prop} (X:K.In s.heap) (I:zko s.heap x dx C mA) (hg:PySem.W.plainGet K C name=true)
  (hf:PySem.W.findIn K (.ref C) name=some (some (.ref f))) (ht:PySem.W.isFn K (.ref f)=true) (hv:mA name=none) (h:Q (.ref f,[.ref x]) s) :
  wpAny (model prog w) A (getMethod (.ref x) name pl) Q E s:=by
 obtain⟨od,J,hl⟩:=I.look
 exact PySem.W.method_fn X J (PySem.W.plainGet_of hg).1 (PySem.W.plainGet_of hg).2 hf (beq_iff_eq.mp ht) (by show(PySem.W.lookIn name od).map (·.isSome)=some false;rw[hl,hv];rfl) h
theorem zkq {ns:List Str}{Q:Unit→Shared→Prop} (X:K.In s.heap) (I:zko s.heap x dx C mA)
  (hs:PySem.W.findIn K (.ref C) "__setattr__"=some (some (.builtin "object.__setattr__"))) (hp:PySem.W.plainOver K C=true) (ht:PySem.W.takerIn K C name=some none) (hh:PySem.W.hasDictIn K C=true)
  (hw:PySem.Within mA ns) (hsz:ns.length≤sizeLine)
  (h:∀ h',zko h' x dx C (fun y=>if y=name then some v else mA y)→Heap.SameBut dx s.heap h'→Q () { s with heap:=h',toks:=s.toks + 2 }) :
  wpAny (model prog w) A (setAttr (.ref x) name v) Q E s:=by
 obtain⟨od,J,hl⟩:=I.look
 refine PySem.W.set_plain X J hs (PySem.W.osa_open (s:={ s with toks:=s.toks + 1 }) (r:=none) X J hp ht fun b=>?_)
 obtain⟨cd,hc,hd'⟩:=PySem.W.any_some hh
 have hx:s.heap.get? x=some ⟨.ref C,some dx,.plain,#[]⟩:=I.obj
 refine wpAny_bind (wpAny_pure (wpAny_bind (wpAny_bind (wpAny_loadPart hx (wpAny_bind (PySem.W.Looks.here (s:={ s with toks:=s.toks + 1 }) (PySem.W.looks_clsIn X hc) ?_))))))
 rw[hd']
 refine wpAny_pure (a:=some dx) (wpAny_bind (wpAny_pure (wpAny_bind ?_)))
 refine wpAny_nsSet1 (s:={ s with toks:=s.toks + 1 }) I.ns fun h' hn2 hs2=>?_
 obtain⟨oD,esD,epD,hoD,hdD,hcD⟩:=hn2.count (PySem.Within.cons name v hw)
 refine wpAny_bind (wpAny_lookBehind hoD (by rw[hdD];exact pastItsLine_dict (Nat.le_trans hcD (by rw[List.length_cons];omega))) ?_)
 exact wpAny_pure (h _ ⟨(hs2.2 _ (Ne.symm I.ne)).trans I.obj,hn2,I.ne⟩ hs2)
theorem zi8 {R:Result→Shared→Prop}{vs:List Value}{kw:List (Str×Value)} (X:K.In s.heap) (hm:PySem.W.makesIn K C=true)
  (hi:PySem.W.findIn K (.ref C) "__init__"=some (some (.ref f))) (hf:PySem.W.typeIn K (.ref f)=some (.type "function"))
  (h:codeAny (model prog w) (A.under (.builtin "type.__call__" ⟨.ref C::vs,kw⟩)) (.call (.ref f) ⟨.ref (s.heap.objs.size + 1)::vs,kw⟩) (PySem.W.InitBack (s.heap.objs.size + 1) R)
   { s with heap:=(s.heap.push PySem.W.emptyDict).push (PySem.W.instObj C s.heap.objs.size) }) :
  codeAny (model prog w) A (.call (.ref C) ⟨vs,kw⟩) R s:=by
 obtain⟨hh,g,d,t,os⟩:=s
 exact PySem.W.make_core (PySem.W.makes_of X hm) (PySem.W.looks_findIn X hi) (fun self=>PySem.W.bind_fn X self hf) (.inl rfl) h
end
def zdt (f:Str) (v:V):List (Str×V)→List (Str×V)
 | []=>[(f,v)]
 | (g,x)::r=>if g=f then(g,v)::r else(g,x)::zdt f v r
theorem zdD (f g:Str) (v:V):∀ fs:List (Str×V),(zdt f v fs).lookup g=if g=f then some v else fs.lookup g
 | []=>by
  show List.lookup g [(f,v)]=_
  by_cases h:g=f
  ·have hb:(g == f)=true:=beq_iff_eq.mpr h
   simp only[List.lookup,hb,if_pos h]
  ·have hb:(g == f)=false:=beq_eq_false_iff_ne.mpr h
   simp only[List.lookup,hb,if_neg h]
 | (k,x)::r=>by
  have ih:=zdD f g v r
  rw[show zdt f v ((k,x)::r)=(if k=f then(k,v)::r else(k,x)::zdt f v r) from rfl]
  by_cases hk:k=f
  ·rw[if_pos hk]
   by_cases h:g=k
   ·have hb:(g == k)=true:=beq_iff_eq.mpr h
    simp only[List.lookup,hb,if_pos (h.trans hk)]
   ·have hb:(g == k)=false:=beq_eq_false_iff_ne.mpr h
    simp only[List.lookup,hb,if_neg (fun e:g=f=>h (e.trans hk.symm))]
  ·rw[if_neg hk]
   by_cases h:g=k
   ·have hb:(g == k)=true:=beq_iff_eq.mpr h
    simp only[List.lookup,hb,if_neg (fun e:g=f=>hk (h.symm.trans e))]
   ·have hb:(g == k)=false:=beq_eq_false_iff_ne.mpr h
    simp only[List.lookup,hb]
    exact ih
theorem zdE (f:Str) (v:V):∀ fs:List (Str×V),f∈(zdt f v fs).map (·.1)∧∀ g,g∈fs.map (·.1)→g∈(zdt f v fs).map (·.1)
 | []=>⟨by simp[zdt],fun g h=>by simp at h⟩
 | (k,x)::r=>by
  obtain⟨i1,i2⟩:=zdE f v r
  rw[show zdt f v ((k,x)::r)=(if k=f then(k,v)::r else(k,x)::zdt f v r) from rfl]
  by_cases hk:k=f
  ·rw[if_pos hk]
   subst hk
   exact⟨by simp,fun g h=>by simpa using h⟩
  ·rw[if_neg hk]
   refine⟨?_,fun g h=>?_⟩
   ·rw[List.map_cons]
    exact List.mem_cons_of_mem _ i1
   ·rw[List.map_cons] at h ⊢
    rcases List.mem_cons.mp h with e|e
    ·exact List.mem_cons.mpr (.inl e)
    ·exact List.mem_cons_of_mem _ (i2 g e)
theorem zdF (f:Str) (v:V):∀ fs:List (Str×V),(zdt f v fs).length≤fs.length + 1
 | []=>by simp[zdt]
 | (k,x)::r=>by
  have ih:=zdF f v r
  rw[show zdt f v ((k,x)::r)=(if k=f then(k,v)::r else(k,x)::zdt f v r) from rfl]
  by_cases hk:k=f
  ·rw[if_pos hk,List.length_cons,List.length_cons];omega
  ·rw[if_neg hk,List.length_cons,List.length_cons];omega
theorem zfR.some_of {v:V}{o:Option Value} (r:zfR (some v) o):∃ u,o=some u∧za3 v u:=by
 cases o with
 | none=>exact(show False from r).elim
 | some u=>exact⟨u,rfl,r⟩
theorem zfR.none_of {o:Option Value} (r:zfR none o):o=none:=by
 cases o with
 | none=>rfl
 | some u=>exact(show False from r).elim
theorem zfe {v:V}{u:Value} (r:za3 v u):PySem.W.handedIn u=true:=by
 cases v with
 | non=>cases (show u=Value.none from r);rfl
 | bl b=>cases (show u=Value.bool b from r);rfl
 | int i=>obtain⟨t,e⟩:=(show ∃ t,u=Value.int i t from r);cases e;rfl
 | str x=>obtain⟨t,e⟩:=(show ∃ t,u=Value.str x t from r);cases e;rfl
 | byt b=>obtain⟨t,e⟩:=(show ∃ t,u=Value.bytes b t from r);cases e;rfl
 | flt b=>obtain⟨t,e⟩:=(show ∃ t,u=Value.float b t from r);cases e;rfl
 | ref a=>cases (show u=Value.ref a from r);rfl
 | ty n=>cases (show u=Value.type n from r);rfl
section
variable {P:Program}{w:World}{H H':Hp}{h h':Heap}{a C dx:Addr}{fs fs':List (Str×V)}
theorem zeB (hok:HOk P w H h) (e:H a=some (.ins C dx fs)):∃ mA,zko h a dx C mA∧(∀ f,zfR (fs.lookup f) (mA f))∧PySem.Within mA (fs.map (·.1))∧fs.length≤1000∧H dx=some (.own a):=by
 obtain⟨d,z,ne,ob,mA,n,r,q⟩:=(show zbf P w H h a (.ins C dx fs) from hok a _ e)
 exact⟨mA,⟨ob,n,ne⟩,r,q,z,d⟩
end
structure Cls (K:PySem.W.Frag) (C:Addr):Prop where
 pg:PySem.W.plainGet K C Str.empty=true
 hd:PySem.W.hasDictIn K C=true
 po:PySem.W.plainOver K C=true
 sa:PySem.W.findIn K (.ref C) "__setattr__"=some (some (.builtin "object.__setattr__"))
theorem Cls.get {K:PySem.W.Frag}{C:Addr} (c:Cls K C) (f:Str):PySem.W.plainGet K C f=true:=c.pg
def zbY (K:PySem.W.Frag) (C:Addr) (f:Str):Prop:=PySem.W.findIn K (.ref C) f=some none
theorem zbY.taker {K:PySem.W.Frag}{C:Addr}{f:Str} (n:zbY K C f):PySem.W.takerIn K C f=some none:=by
 unfold PySem.W.takerIn
 rw[show PySem.W.findIn K (.ref C) f=some none from n]
 rfl
structure Con (K:PySem.W.Frag) (C:Addr) (f:Str) (v:V) (u:Value):Prop where
 at_:PySem.W.findIn K (.ref C) f=some (some u)
 rel:za3 v u
 get:PySem.W.specialIn K u "__get__"=some none
 cp:PySem.W.copiedNames.contains f=false
structure Meth (K:PySem.W.Frag) (C:Addr) (m:Str) (f:Addr):Prop where
 at_:PySem.W.findIn K (.ref C) m=some (some (.ref f))
 fn:PySem.W.isFn K (.ref f)=true
 kp:PySem.W.keepIn K (.ref f)=true
section
variable {X:Cx}{pins:List (Addr×Obj)}{σ:St}{H:Hp}{s:Shared}{a C dx:Addr}{fs:List (Str×V)}{f:Str}{v:V}{A:Around}{E:Value→Shared→Prop}
theorem zgZ {b:Bool}{Q:Value→Shared→Prop} (I:Inv X pins σ H s) (e:H a=some (.ins C dx fs)) (c:Cls X.K C) (n:zbY X.K C f) (l:fs.lookup f=some v)
  (h:∀ u s',Inv X pins σ H s'→za3 v u→Q u s'):wpAny (model X.prog X.w) A (getAttr (.ref a) f b) Q E s:=by
 obtain⟨mA,O,r,_,_,_⟩:=zeB I.hok e
 obtain⟨u,hu,ru⟩:=zfR.some_of (v:=v) (o:=mA f) (by rw[← l];exact r f)
 exact zkp I.kIn O (c.get f) c.hd n hu (zfe ru) (h u _ (I.tok _) ru)
theorem zcY {m:Str}{g:Addr}{pl:Sem Bool}{Q:Value×List Value→Shared→Prop} (I:Inv X pins σ H s) (e:H a=some (.ins C dx fs)) (c:Cls X.K C) (k:Meth X.K C m g) (l:fs.lookup m=none)
  (h:Q (.ref g,[.ref a]) s):wpAny (model X.prog X.w) A (getMethod (.ref a) m pl) Q E s:=by
 obtain⟨mA,O,r,_,_,_⟩:=zeB I.hok e
 have hn:mA m=none:=zfR.none_of (by rw[← l];exact r m)
 exact zi7 I.kIn O (c.get m) k.at_ k.fn hn h
theorem zg0 {y:V}{u:Value}{Q:Unit→Shared→Prop} (I:Inv X pins σ H s) (e:H a=some (.ins C dx fs)) (c:Cls X.K C) (n:zbY X.K C f) (hl:fs.length<1000) (ry:za3 y u)
  (h:∀ s',Inv X pins σ (upd H a (.ins C dx (zdt f y fs))) s'→Q () s'):wpAny (model X.prog X.w) A (setAttr (.ref a) f u) Q E s:=by
 obtain⟨mA,O,r,wi,_,ho⟩:=zeB I.hok e
 have hz:(fs.map (·.1)).length≤sizeLine:=by rw[List.length_map,sizeLine_eq];omega
 refine zkq I.kIn O c.sa c.po n.taker c.hd wi hz fun h' O' sb=>h _ ?_
 have hd:∃ o,h'.get? dx=some o:=let ⟨o,_,_,e',_⟩:=O'.ns;⟨o,e'⟩
 refine I.write (x:=a) (e:=dx) (by rw[e];exact True.intro) (.inr ho) (fun b q hb z=>(sb.2 b hb).trans z) hd ?_
 refine⟨by rw[zaf O.ne];exact ho,?_,O.ne,O'.obj,_,O'.ns,fun g=>?_,fun g hg=>?_⟩
 ·have:=zdF f y fs;omega
 ·show zfR ((zdt f y fs).lookup g) (if g=f then some u else mA g)
  rw[zdD]
  by_cases q:g=f
  ·rw[if_pos q,if_pos q];exact ry
  ·rw[if_neg q,if_neg q];exact r g
 ·by_cases q:g=f
  ·rw[q];exact(zdE f y fs).1
  ·refine(zdE f y fs).2 g (wi g fun z=>hg ?_)
   show(if g=f then some u else mA g)=none
   rw[if_neg q];exact z
theorem Inv.made (I:Inv X pins σ H s):Inv X pins σ (upd (upd H s.heap.objs.size (.own (s.heap.objs.size + 1))) (s.heap.objs.size + 1) (.ins C s.heap.objs.size []))
  { s with heap:=(s.heap.push PySem.W.emptyDict).push (PySem.W.instObj C s.heap.objs.size) }:=by
 have e1:(s.heap.push PySem.W.emptyDict).get? s.heap.objs.size=some PySem.W.emptyDict:=Heap.get?_push_size s.heap rfl
 have e2:((s.heap.push PySem.W.emptyDict).push (PySem.W.instObj C s.heap.objs.size)).get? (s.heap.objs.size + 1)=some (PySem.W.instObj C s.heap.objs.size):=by
  have:=Heap.get?_push_size (s.heap.push PySem.W.emptyDict) (o:=PySem.W.instObj C s.heap.objs.size) rfl
  rwa [Heap.size_push] at this
 have e3:(s.heap.push PySem.W.emptyDict).Ns s.heap.objs.size (fun _=>none):=⟨PySem.W.emptyDict,#[],_,e1,rfl,(fun e he=>absurd he (by simp)),fun _=>rfl⟩
 have I1:=I.laid (a:=s.heap.objs.size) (o:=.own (s.heap.objs.size + 1)) (h':=s.heap.push PySem.W.emptyDict) (t':=s.toks) (fun b u q=>Heap.get?_push_of_some _ q) (Nat.le_refl _) ⟨_,e1⟩
 refine I1.laid (a:=s.heap.objs.size + 1) (o:=.ins C s.heap.objs.size []) (t':=s.toks) (fun b u q=>Heap.get?_push_of_some _ q) (Nat.le_of_eq (Heap.size_push _ _)) ?_
 have ne:s.heap.objs.size≠s.heap.objs.size + 1:=Nat.ne_of_lt (Nat.lt_succ_self _)
 refine⟨by rw[zaf ne,zab],Nat.zero_le _,ne,e2,fun _=>none,(Heap.Ns1.of_empty e3).at fun o q=>Heap.get?_push_of_some _ q,fun _=>True.intro,fun y hy=>absurd rfl hy⟩
theorem zhH {prog:Program}{w:World}{env:Env}{e:Expr}{f:Str}{pos:Pos}{s:Shared}{Q:Value→Shared→Prop} (hb:attributeBase e f env (eval e env)=eval e env)
  (h:wpAny (model prog w) A (eval e env) (fun o s₁=>wpAny (model prog w) A (getAttr o f true) Q E s₁) E s):wpAny (model prog w) A (eval (.Attribute e f pos) env) Q E s:=
 Attribute_any_ h (by rw[arm_eval_Attribute,hb])
end
def tFld (K:PySem.W.Frag) (ta:TE) (f:Str):TE:=fun σ H Q=>ta σ H fun x H1=>∃ a C dx fs v,x=.ref a∧H1 a=some (.ins C dx fs)∧Cls K C∧zbY K C f∧fs.lookup f=some v∧Q v H1
def sFld (K:PySem.W.Frag) (ta tv:TE) (f:Str):TS:=fun D σ H=>tv σ H fun y H1=>ta σ H1 fun x H2=>∃ a C dx fs,x=.ref a∧H2 a=some (.ins C dx fs)∧Cls K C∧zbY K C f∧fs.length<1000 ∧
 D.nx σ (upd H2 a (.ins C dx (zdt f y fs)))
section
variable {X:Cx}{o e value:Expr}{f:Str}{pos pos' tpos:Pos}{ta tv:TE}
theorem zbz (he:PE X e ta) (hb:attributeBase e f X.env (eval e X.env)=eval e X.env):PE X (.Attribute e f pos) (tFld X.K ta f):=by
 intro pins s σ H Q I h
 refine zhH hb (thn (he pins s σ H _ I h) fun u s1=>L2.ex5 fun x H1 I1 rx hq_=>?_)
 obtain⟨a,C,dx,fs,v,ex,ea,c,n,l,q⟩:=hq_
 subst ex
 obtain rfl:u=Value.ref a:=rx
 exact zgZ I1 ea c n l fun u' s2 I2 ru=>⟨v,H1,I2,ru,q⟩
theorem zee (ha:PE X o ta) (hv:PE X value tv) (hs:swapsWith value (some (.Attribute o f pos')) pos.line X.env=pure false):PS X (.Assign [.Attribute o f pos'] value pos) (sFld X.K ta tv f):=by
 intro pins s σ H D I h
 refine plainObj_wpAny_Assign_Attribute (thn (hv pins s σ H _ I h) fun u s1=>L2.ex5 fun y H1 I1 ry q=>thn (ha pins s1 σ H1 _ I1 q) fun ov s2=>L2.ex5 fun x H2 I2 rx hq_=>?_) hs
 obtain⟨a,C,dx,fs,ex,ea,c,n,l,q2⟩:=hq_
 subst ex
 obtain rfl:ov=Value.ref a:=rx
 exact zg0 I2 ea c n l ry fun s3 I3=>⟨σ,_,I3,q2⟩
end
section
variable {X:Cx}{pins:List (Addr×Obj)}{σ:St}{H:Hp}{s:Shared}{A:Around}{E:Value→Shared→Prop}{Q:Value→Shared→Prop}{c:Value}{b:Bool}
inductive zg1 (K:PySem.W.Frag) (H:Hp):V→Value→Prop where
 | non:zg1 K H .non (.type "NoneType")
 | bl (x:Bool):zg1 K H (.bl x) (.type "bool")
 | int (i:Int):zg1 K H (.int i) (.type "int")
 | str (x:Str):zg1 K H (.str x) (.type "str")
 | flt (x:UInt64):zg1 K H (.flt x) (.type "float")
 | lst {a:Addr}{xs:List V} (e:H a=some (.lst xs)):zg1 K H (.ref a) (.type "list")
 | frz {a:Addr}{o:Obj}{xs:List V} (e:H a=some (.frz o (.lst xs))):zg1 K H (.ref a) (.type "list")
 | tup {a:Addr}{xs:List V} (e:H a=some (.tup xs)):zg1 K H (.ref a) (.type "tuple")
 | dK {a:Addr}{kvs:List (Key×V)} (e:H a=some (.dK kvs)):zg1 K H (.ref a) (.type "dict")
 | dT {a:Addr}{kvs:List (List Key×V)} (e:H a=some (.dT kvs)):zg1 K H (.ref a) (.type "dict")
 | ins {a C dx:Addr}{fs:List (Str×V)} (e:H a=some (.ins C dx fs)) (cl:Cls K C) (ha:PySem.W.findIn K (.ref C) "__class__"=some (some (.builtin "object.__class__")))
   (hn:PySem.W.specialIn K (.builtin "object.__class__") "__get__"=some (some (.builtin "getset_descriptor.__get__"))) (htk:PySem.W.takesIn K (.builtin "object.__class__")=some true)
   (hm:PySem.W.mroIn K C (.type "object")=some true):zg1 K H (.ref a) (.ref C)
theorem zhI {x:V}{u t:Value} (I:Inv X pins σ H s) (rx:za3 x u) (ty:zg1 X.K H x t) (e:PySem.W.kitOne X.K t c=some b) (h:∀ tk,Q (.bool b) { s with toks:=tk }) :
  wpAny (model X.prog X.w) A (call (.builtin "isinstance") [u,c]) Q E s:=by
 cases ty with
 | non=>cases (show u=Value.none from rx);exact PySem.W.kia_one PySem.W.kitx_none I.kIn True.intro e (fun z=>nomatch z) h
 | bl y=>cases (show u=Value.bool y from rx);exact PySem.W.kia_one PySem.W.kitx_bool I.kIn True.intro e (fun z=>nomatch z) h
 | int i=>obtain⟨t,q⟩:=(show ∃ t,u=Value.int i t from rx);cases q;exact PySem.W.kia_one PySem.W.kitx_int I.kIn True.intro e (fun z=>nomatch z) h
 | str y=>obtain⟨t,q⟩:=(show ∃ t,u=Value.str y t from rx);cases q;exact PySem.W.kia_one PySem.W.kitx_str I.kIn True.intro e (fun z=>nomatch z) h
 | flt y=>obtain⟨t,q⟩:=(show ∃ t,u=Value.float y t from rx);cases q;exact PySem.W.kia_one PySem.W.kitx_float I.kIn True.intro e (fun z=>nomatch z) h
 | @lst a xs ea=>
  cases (show u=Value.ref a from rx)
  obtain⟨_,_,n,_,h1⟩:=(show zbf X.prog X.w H s.heap a (.lst xs) from I.hok a _ ea)
  exact PySem.W.kia_one PySem.W.kitx_list I.kIn ⟨_,h1,rfl⟩ e (fun z=>nomatch z) h
 | @frz a ob xs ea=>
  cases (show u=Value.ref a from rx)
  obtain⟨_,_,_,n,_,h1⟩:=(show zbf X.prog X.w H s.heap a (.frz ob (.lst xs)) from I.hok a _ ea)
  exact PySem.W.kia_one PySem.W.kitx_list I.kIn ⟨_,h1,rfl⟩ e (fun z=>nomatch z) h
 | @tup a xs ea=>
  cases (show u=Value.ref a from rx)
  obtain⟨_,_,_,p⟩:=(show zbf X.prog X.w H s.heap a (.tup xs) from I.hok a _ ea)
  obtain⟨o,h1,h2,_⟩:=p
  exact PySem.W.kia_one PySem.W.kitx_tuple I.kIn ⟨o,h1,h2⟩ e (fun z=>nomatch z) h
 | @dK a kvs ea=>
  cases (show u=Value.ref a from rx)
  obtain⟨_,_,vs,_,p⟩:=(show zbf X.prog X.w H s.heap a (.dK kvs) from I.hok a _ ea)
  obtain⟨o,es,ep,h1,h2,_⟩:=p
  exact PySem.W.kia_one PySem.W.kitx_dict I.kIn ⟨o,h1,h2.1⟩ e (fun z=>nomatch z) h
 | @dT a kvs ea=>
  cases (show u=Value.ref a from rx)
  obtain⟨_,_,xs,_,o,es,ep,h1,h2,_⟩:=(show zbf X.prog X.w H s.heap a (.dT kvs) from I.hok a _ ea)
  exact PySem.W.kia_one PySem.W.kitx_dict I.kIn ⟨o,h1,h2.1⟩ e (fun z=>nomatch z) h
 | @ins a C dx fs ea cl ha hn htk hm=>
  cases (show u=Value.ref a from rx)
  obtain⟨mA,O,_⟩:=zeB I.hok ea
  obtain⟨od,J,_⟩:=O.look
  exact PySem.W.kia_one (PySem.W.kitx_own (cl.get _) cl.hd ha hn htk hm) I.kIn J e (fun z=>nomatch z) h
end
end L2
namespace L2
open PySem PySem.Spec PyProof.Rows
structure zbQ (k:Nat) (A:Around):Prop where
 dp:A.depth + 3 * k + 5<recursionLimit
 un:A.units + 16 * k + 200<cLine
theorem zbQ.mono {j k:Nat}{A:Around} (r:zbQ k A) (h:j≤k):zbQ j A:=⟨by have:=r.dp;omega,by have:=r.un;omega⟩
theorem zbQ.deeper {k:Nat}{A:Around} (r:zbQ (k + 1) A) (env:Env):zbQ k (A.deeper env):=
 ⟨by have:=r.dp;show A.depth + 1 + 3 * k + 5<_;omega,by have:=r.un;show A.units + 3 + 16 * k + 200<_;omega⟩
theorem zg2 {A:Around}{C:Addr}{us:List Value}{kw:List (Str×Value)}:(A.under (.builtin "type.__call__" ⟨.ref C::us,kw⟩)).depth=A.depth + 1:=by
 first|rfl|simp[Around.under,Code.weight,Code.isCreation,Code.isGuard,Code.isCaller,Code.frames,Code.isFrame,guardIds]
theorem zg3 {A:Around}{C:Addr}{us:List Value}{kw:List (Str×Value)}:(A.under (.builtin "type.__call__" ⟨.ref C::us,kw⟩)).units=A.units + 1:=by
 first|rfl|simp[Around.under,Code.cUnits,Code.frames,Code.isFrame]
theorem zbQ.make {k:Nat}{A:Around} (r:zbQ (k + 1) A) (C:Addr) (us:List Value) (kw:List (Str×Value)):zbQ k (A.under (.builtin "type.__call__" ⟨.ref C::us,kw⟩)):=
 ⟨by have:=r.dp;rw[zg2];omega,by have:=r.un;rw[zg3];omega⟩
theorem zbQ.depth {k:Nat}{A:Around} (r:zbQ k A):A.depth<recursionLimit:=by have:=r.dp;omega
theorem zbQ.units {k:Nat}{A:Around} (r:zbQ k A):A.units + 64<cLine:=by have:=r.un;omega
def zlG:TA:=fun _ H Q=>Q [] H
def tCons (ta:TE) (tr:TA):TA:=fun σ H Q=>ta σ H fun x H1=>tr σ H1 fun xs H2=>Q (x::xs) H2
section
variable {X:Cx}{e:Expr}{es:List Expr}{te:TE}{t:TA}{pos:Pos}
theorem zae:PA X [] zlG:=fun _ _ _ _ H Q I h=>Calls.spliced_nil ⟨[],H,I,.nil,h⟩
theorem zaa (ha:PE X e te) (hr:PA X es t) (hs:starEach (e::es) X.env=(false,eval e X.env)::starEach es X.env:=by rfl):PA X (e::es) (tCons te t):=by
 intro pos pins s σ H Q I h
 rw[hs]
 show wpAny _ _ (spliced ((false,eval e X.env)::backTo pos (starEach es X.env))) _ _ s
 refine Calls.spliced_cons (thn (ha pins s σ H _ I h) fun u s1=>L2.ex5 fun x H1 I1 r1 q1=>?_)
 exact thn (hr pos pins s1 σ H1 _ I1 q1) fun us s2 ⟨xs,H2,I2,r2,q2⟩=>⟨x::xs,H2,I2,.cons r1 r2,q2⟩
def tTup (t:TA):TE:=fun σ H Q=>t σ H fun xs H1=>xs.length≤sizeLine∧∀ p,H1 p=none→Q (.ref p) (upd H1 p (.tup xs))
def tLst (t:TA):TE:=fun σ H Q=>t σ H fun xs H1=>xs.length≤sizeLine∧∀ p,H1 p=none→Q (.ref p) (upd H1 p (.lst xs))
theorem zbn {x1} (h:PA X es t):PE X (.Tuple es x1 pos) (tTup t):=by
 intro pins s σ H Q I hq
 refine wpAny_Tuple_spliced (thn (h pos pins s σ H _ I hq) fun us s1 ⟨xs,H1,I1,r,z,q⟩=>⟨by rw[← r.length];exact z,?_⟩)
 have hf:H1 s1.heap.objs.size=none:=I1.hok.fresh (Nat.le_refl _)
 refine⟨.ref s1.heap.objs.size,upd H1 s1.heap.objs.size (.tup xs),I1.laid (t':=s1.toks) (fun b u e=>Heap.get?_push_of_some _ e) (Nat.le_refl _) ?_,rfl,q _ hf⟩
 exact⟨z,us,r,⟨_,Heap.get?_push_size _ rfl,rfl,_,rfl⟩⟩
theorem zdb (h:PA X es t):PE X (.List es pos) (tLst t):=by
 intro pins s σ H Q I hq
 refine wpAny_List_spliced (thn (h pos pins s σ H _ I hq) fun us s1 ⟨xs,H1,I1,r,z,q⟩=>⟨by rw[← r.length];exact z,?_⟩)
 have hf:H1 s1.heap.objs.size=none:=I1.hok.fresh (Nat.le_refl _)
 refine⟨.ref s1.heap.objs.size,upd H1 s1.heap.objs.size (.lst xs),I1.laid (t':=s1.toks) (fun b u e=>Heap.get?_push_of_some _ e) (Nat.le_refl _) ?_,rfl,q _ hf⟩
 exact⟨z,us,0,r,Heap.get?_push_size _ rfl⟩
end
abbrev Sp:=List V→Hp→VK→XK→Prop
abbrev CXT:=List Env→Hp→Shared→XK→Value→Shared→Prop
structure zkr (P:Program) (w:World) (K:PySem.W.Frag) (mg:Str→Option Value) (base:Heap) (A:Around) (outer:List Env) (s:Shared) (H:Hp):Prop where
 frames:A.frames=some outer
 mod:Mod K mg base
 bs:∀ b o,base.get? b=some o→s.heap.get? b=some o∧H b=none
 bsz:base.objs.size≤s.heap.objs.size
 funs:s.heap.FunFrames base outer
 frf:∀ b∈frs outer,H b=none
 hok:HOk P w H s.heap
 bare:AllBare s.gens
 hd:zhA A H
def CE (outer:List Env) (P:Program) (w:World) (H:Hp) (s:Shared) (Q:VK) (u:Value) (s':Shared):Prop:=
 ∃ v H',s'.os=s.os∧AllBare s'.gens∧Un (frs outer) [] H H' s.heap s'.heap∧HOk P w H' s'.heap∧za3 v u∧Q v H'
def CR (CX:CXT) (outer:List Env) (P:Program) (w:World) (H:Hp) (s:Shared) (Q:VK) (E:XK) (r:Result) (s':Shared):Prop:=
 match r with
 | .ok (.ret u)=>CE outer P w H s Q u s'
 | .ok _=>False
 | .error e=>CX outer H s E e s'
structure zcZ (P:Program) (w:World) (K:PySem.W.Frag) (mg:Str→Option Value) (base:Heap) (CX:CXT) (k:Nat) (f:Addr) (fd:FuncData) (ps:List Str) (sp:Sp):Prop where
 len:∀ vs H Q E,sp vs H Q E→vs.length=ps.length
 run:∀ (A:Around) (outer:List Env) (s:Shared) (H:Hp) (args:Args) (us:List Value) (vs:List V) (Q:VK) (E:XK),zbQ k A→zkr P w K mg base A outer s H→BindsTo s fd args (ps.zip us)→zaN vs us→sp vs H Q E →
  codeAny (model P w) A (.call (.ref f) args) (CR CX outer P w H s Q E) s
theorem zkr.make {P:Program}{w:World}{K:PySem.W.Frag}{mg:Str→Option Value}{base:Heap}{A:Around}{outer:List Env}{s:Shared}{H:Hp} (e:zkr P w K mg base A outer s H) (C:Addr) (us:List Value) (kw:List (Str×Value)) :
  zkr P w K mg base (A.under (.builtin "type.__call__" ⟨.ref C::us,kw⟩)) outer s H:=⟨by first|exact e.frames|(simpa [Around.under,Code.envs,Code.isFrame,pushEnvs] using e.frames),e.mod,e.bs,e.bsz,e.funs,e.frf,e.hok,e.bare,e.hd⟩
section
variable {X:Cx}{pins:List (Addr×Obj)}{σ:St}{H:Hp}{s s':Shared}
theorem Inv.env0 (I:Inv X pins σ H s):zkr X.prog X.w X.K X.mg X.base X.A X.stack s H:=
 ⟨I.ok.frames,I.ok.mod,I.bs,Nat.le_trans I.ok.bsz I.sz,I.stack,I.stkFree,I.hok,I.bare,I.hdAt⟩
theorem Inv.after {Q:VK}{u:Value} (I:Inv X pins σ H s) (h:CE X.stack X.prog X.w H s Q u s'):EP X pins σ Q u s':=by
 obtain⟨v,H',os,bare,un,hok,r,q⟩:=h
 obtain⟨hh,g,d,t,os'⟩:=s'
 obtain rfl:os'=s.os:=os
 exact⟨v,H',I.call (h':=hh) (g':=g) (d':=d) (t':=t) (ch:=[]) un hok bare (fun b z=>absurd z (by simp)),r,q⟩
end
def tCall (sp:Sp) (dvs:List V) (E:XK) (t:TA):TE:=fun σ H Q=>t σ H fun vs H1=>sp (vs++dvs) H1 Q E
def zks (C:Addr) (m:Str) (sp:Sp) (dvs:List V) (E:XK) (ta:TE) (t:TA):TE:=fun σ H Q=>ta σ H fun x H1=>∃ a dx fs,x=.ref a∧H1 a=some (.ins C dx fs)∧fs.lookup m=none ∧
 t σ H1 fun vs H2=>sp (x::(vs++dvs)) H2 Q E
def tMake (C:Addr) (sp:Sp) (dvs:List V) (E:XK) (t:TA):TE:=fun σ H Q=>t σ H fun vs H1=>∀ x dx,H1 x=none→H1 dx=none→dx≠x →
 sp (.ref x::(vs++dvs)) (upd (upd H1 dx (.own x)) x (.ins C dx [])) (fun v H2=>v=.non∧Q (.ref x) H2) E
def zbK (K:PySem.W.Frag) (fd:FuncData) (ps:List Str) (ds:List Value):Prop:=
 ∀ (s:Shared) (us:List Value),K.In s.heap→(us++ds).length=ps.length→BindsTo s fd ⟨us,[]⟩ (ps.zip (us++ds))
theorem zbK.all {K:PySem.W.Frag}{fd:FuncData}{ps:List Str} (h:∀ us:List Value,us.length=ps.length→bindArgs fd ⟨us,[]⟩=pure (ps.zip us)):zbK K fd ps []:=fun s us _ hl=>by
 rw[List.append_nil] at hl ⊢
 exact .of_eq (h us hl)
def zdc (CX:CXT) (X:Cx) (E:XK):Prop:=∀ (pins:List (Addr×Obj)) (σ:St) (H:Hp) (s:Shared) (e:Value) (s':Shared),Inv X pins σ H s→CX X.stack H s E e s'→X.xe e s'
section
variable {X:Cx}{CX:CXT}{k:Nat}{f C:Addr}{fd:FuncData}{ps:List Str}{sp:Sp}{dvs:List V}{ds:List Value}{E:XK}{x m:Str}{p pos apos:Pos}{e o:Expr}{es:List Expr}{ta:TE}{t:TA}
theorem zhJ {pins:List (Addr×Obj)}{σ:St}{H:Hp}{s:Shared}{Q:VK}{us:List Value}{vs:List V} (F:zcZ X.prog X.w X.K X.mg X.base CX k f fd ps sp) (hr:zbQ k X.A) (hb:zbK X.K fd ps ds) (hd:zaN dvs ds) (hx:zdc CX X E)
  (I:Inv X pins σ H s) (r:zaN vs us) (h:sp (vs++dvs) H Q E):wpAny (model X.prog X.w) X.A (call (.ref f) us) (EP X pins σ Q) X.xe s:=by
 have r2:zaN (vs++dvs) (us++ds):=r.append hd
 have hl:(us++ds).length=ps.length:=by rw[← r2.length];exact F.len _ _ _ _ h
 refine wpAny_call (codeAny_mono (F.run X.A X.stack s H ⟨us,[]⟩ (us++ds) (vs++dvs) Q E hr I.env0 (hb s us I.kIn hl) r2 h) fun r s' hq=>?_)
 cases r with
 | error e=>exact hx pins σ H s e s' I hq
 | ok fl=>
  cases fl with
  | ret u=>exact I.after hq
  | next=>exact False.elim hq
  | brk=>exact False.elim hq
  | cont=>exact False.elim hq
theorem zkt (F:zcZ X.prog X.w X.K X.mg X.base CX k f fd ps sp) (hr:zbQ k X.A) (hg:Gl X x) (hm:X.mg x=some (.ref f)) (hk:PySem.W.keepIn X.K (.ref f)=true) (hb:zbK X.K fd ps ds) (hd:zaN dvs ds) (hx:zdc CX X E)
  (ha:PA X (e::es) t) (hdb:(x == ("__debug__":Str))=false:=by decide) (he:starEach (e::es) X.env=(false,eval e X.env)::starEach es X.env:=by rfl) (hpl:(backTo pos (starEach es X.env)).any (·.1)=false:=by rfl) :
  PE X (.Call (.Name x p) (e::es) [] pos) (tCall sp dvs E t):=by
 intro pins s σ H Q I h
 refine wpAny_Call_Name_kw (zcv I hg hm ?_ hdb)
 refine PySem.W.callWith_K (h₀:=X.base) I.ok.mod.kin hk (thn (ha pos pins s σ H _ I h) fun us s1=>L2.ex5 fun vs H1 I1 r q=>⟨I1.kIn,?_⟩) he hpl
 exact zhJ F hr hb hd hx I1 r q
theorem pe_meth {pl:Sem Bool} (he:PE X o ta) (c:Cls X.K C) (hm:Meth X.K C m f) (F:zcZ X.prog X.w X.K X.mg X.base CX k f fd ps sp) (hr:zbQ k X.A) (hb:zbK X.K fd ps ds) (hd:zaN dvs ds) (hx:zdc CX X E) (ha:PA X (e::es) t)
  (hst:starEach (e::es) X.env=(false,eval e X.env)::starEach es X.env:=by rfl) (hpl:(backTo pos (starEach es X.env)).any (·.1)=false:=by rfl)
  (ht:eval (.Call (.Attribute o m apos) (e::es) [] pos) X.env=(do
   let ov ← eval o X.env
   standAt apos.atName
   let (f,first) ← holding [ov] (getMethod ov m pl)
   callWith pos f first (backTo pos (starEach (e::es) X.env)) (backToKw pos (keywordEach [] X.env))):=by rfl) :
  PE X (.Call (.Attribute o m apos) (e::es) [] pos) (zks C m sp dvs E ta t):=by
 intro pins s σ H Q I h
 refine PySem.W.methodCall_KW (pl:=pl) (thn (he pins s σ H _ I h) fun u s1=>L2.ex5 fun x H1 I1 rx hq_=>?_) ht
 obtain⟨a,dx,fs,ex,ea,l,q⟩:=hq_
 subst ex
 obtain rfl:u=Value.ref a:=rx
 refine zcY I1 ea c hm l ?_
 refine PySem.W.callWith_K (first:=[.ref a]) (h₀:=X.base) I.ok.mod.kin hm.kp (thn (ha pos pins s1 σ H1 _ I1 q) fun us s2=>L2.ex5 fun vs H2 I2 r q2=>⟨I2.kIn,?_⟩) hst hpl
 exact zhJ (us:=.ref a::us) (vs:=.ref a::vs) F hr hb hd hx I2 (.cons rfl r) q2
theorem zi9 {pl:Sem Bool} (he:PE X o ta) (c:Cls X.K C) (hm:Meth X.K C m f) (F:zcZ X.prog X.w X.K X.mg X.base CX k f fd ps sp) (hr:zbQ k X.A) (hb:zbK X.K fd ps ds) (hd:zaN dvs ds) (hx:zdc CX X E)
  (ht:eval (.Call (.Attribute o m apos) [] [] pos) X.env=(do
   let ov ← eval o X.env
   standAt apos.atName
   let (f,first) ← holding [ov] (getMethod ov m pl)
   callWith pos f first (backTo pos (starEach [] X.env)) (backToKw pos (keywordEach [] X.env))):=by rfl) :
  PE X (.Call (.Attribute o m apos) [] [] pos) (zks C m sp dvs E ta zlG):=by
 intro pins s σ H Q I h
 refine PySem.W.methodCall_KW (pl:=pl) (thn (he pins s σ H _ I h) fun u s1=>L2.ex5 fun x H1 I1 rx hq_=>?_) ht
 obtain⟨a,dx,fs,ex,ea,l,q⟩:=hq_
 subst ex
 obtain rfl:u=Value.ref a:=rx
 refine zcY I1 ea c hm l ?_
 exact PySem.W.callWith_K0 (first:=[.ref a]) I1.kIn hm.kp (zhJ (us:=[.ref a]) (vs:=[.ref a]) F hr hb hd hx I1 (.cons rfl .nil) q)
structure Mk (K:PySem.W.Frag) (C f:Addr):Prop where
 makes:PySem.W.makesIn K C=true
 init:PySem.W.findIn K (.ref C) "__init__"=some (some (.ref f))
 fn:PySem.W.isFn K (.ref f)=true
 kp:PySem.W.keepIn K (.ref C)=true
theorem zja {pins:List (Addr×Obj)}{σ:St}{H:Hp}{s:Shared}{Q:VK}{us:List Value}{vs:List V} (M:Mk X.K C f) (F:zcZ X.prog X.w X.K X.mg X.base CX k f fd ps sp) (hr:zbQ (k + 1) X.A) (hb:zbK X.K fd ps ds) (hd:zaN dvs ds)
  (hx:zdc CX X E) (I:Inv X pins σ H s) (r:zaN vs us)
  (h:∀ x dx,H x=none→H dx=none→dx≠x→sp (.ref x::(vs++dvs)) (upd (upd H dx (.own x)) x (.ins C dx [])) (fun v H2=>v=.non∧Q (.ref x) H2) E) :
  wpAny (model X.prog X.w) X.A (call (.ref C) us) (EP X pins σ Q) X.xe s:=by
 have hq:=h (s.heap.objs.size + 1) s.heap.objs.size (I.hok.fresh (Nat.le_succ _)) (I.hok.fresh (Nat.le_refl _)) (Nat.ne_of_lt (Nat.lt_succ_self _))
 have I2:=Inv.made (C:=C) I
 have r2:zaN (V.ref (s.heap.objs.size + 1)::(vs++dvs)) (Value.ref (s.heap.objs.size + 1)::(us++ds)):=.cons rfl (r.append hd)
 have hl:(Value.ref (s.heap.objs.size + 1)::us++ds).length=ps.length:=by
  have e:=r2.length
  rw[F.len _ _ _ _ hq] at e
  exact e.symm
 refine wpAny_call (zi8 (f:=f) I.kIn M.makes M.init (beq_iff_eq.mp M.fn) (codeAny_mono (F.run _ X.stack _ _ ⟨Value.ref (s.heap.objs.size + 1)::us,[]⟩ (Value.ref (s.heap.objs.size + 1)::(us++ds)) _ _ E (hr.make C us [])
  (I2.env0.make C us []) (hb _ (Value.ref (s.heap.objs.size + 1)::us) I2.kIn hl) r2 hq) fun r s' hq'=>?_))
 cases r with
 | error e=>exact hx pins σ _ _ e s' I2 hq'
 | ok fl=>
  cases fl with
  | ret u=>
   obtain⟨v,H',I3,rv,ev,q3⟩:=I2.after hq'
   subst ev
   exact⟨rv,⟨V.ref (s.heap.objs.size + 1),H',I3,rfl,q3⟩⟩
  | next=>exact False.elim hq'
  | brk=>exact False.elim hq'
  | cont=>exact False.elim hq'
theorem zjb (M:Mk X.K C f) (F:zcZ X.prog X.w X.K X.mg X.base CX k f fd ps sp) (hr:zbQ (k + 1) X.A) (hg:Gl X x) (hm:X.mg x=some (.ref C)) (hb:zbK X.K fd ps ds) (hd:zaN dvs ds) (hx:zdc CX X E)
  (hdb:(x == ("__debug__":Str))=false:=by decide):PE X (.Call (.Name x p) [] [] pos) (tMake C sp dvs E zlG):=by
 intro pins s σ H Q I h
 refine wpAny_Call_Name_kw (zcv I hg hm ?_ hdb)
 exact PySem.W.callWith_K0 I.kIn M.kp (zja (us:=[]) M F hr hb hd hx I .nil h)
end
section
variable {X:Cx}{CX:CXT}{k:Nat}{f C:Addr}{fd:FuncData}{ps ks:List Str}{sp:Sp}{E:XK}{x m:Str}{p pos apos kpos:Pos}{e o:Expr}{es:List Expr}{kws:List Keyword}{te ta:TE}{t tk:TA}{nm:Option Str}
structure KBinds (K:PySem.W.Frag) (fd:FuncData) (ps ks:List Str) (g:List Value→List Value→List Value) (gV:List V→List V→List V):Prop where
 to:∀ (s:Shared) (us ws:List Value),K.In s.heap→(g us ws).length=ps.length→BindsTo s fd ⟨us,ks.zip ws⟩ (ps.zip (g us ws))
 rel:∀ {vs:List V}{us:List Value}{zs:List V}{ws:List Value},zaN vs us→zaN zs ws→zaN (gV vs zs) (g us ws)
variable {g:List Value→List Value→List Value}{gV:List V→List V→List V}
end
structure zau (N P:List Str) (sc:Scope):Prop where
 kind:sc.kind=.function
 co:sc.isCoroutine=false
 gen:sc.isGenerator=false
 nd:N.Nodup
 pre:N.take P.length=P
 par:∀ x∈P,sc.names.lookup x=some .local∨sc.names.lookup x=some .cell
 nofree:∀ y∈sc.names,y.2≠.free
theorem zff {kindOf:Str→Option NameKind}{x:Str}:∀ {binds:List (Str×Value)}{m:Str→Option Value},(∀ v,(x,v)∉binds)→bindL kindOf binds m x=m x
 | [],_,_=>rfl
 | (n,v)::r,m,h=>by
  unfold bindL
  rw[zff fun w hw=>h w (List.mem_cons_of_mem _ hw)]
  split
  ·have:x≠n:=by rintro rfl;exact h v List.mem_cons_self
   simp[this]
  ·rfl
theorem zfg {kindOf:Str→Option NameKind}{x:Str}:∀ {binds:List (Str×Value)}{m:Str→Option Value},(∀ v,(x,v)∉binds)→bindC kindOf binds m x=m x
 | [],_,_=>rfl
 | (n,v)::r,m,h=>by
  unfold bindC
  rw[zfg fun w hw=>h w (List.mem_cons_of_mem _ hw)]
  split
  ·rfl
  ·have:x≠n:=by rintro rfl;exact h v List.mem_cons_self
   simp[this]
theorem zfh {kindOf:Str→Option NameKind}{x:Str}{v:Value}:∀ {P:List Str}{vs:List Value}{i:Nat}{m:Str→Option Value},P.Nodup→P[i]?=some x→vs[i]?=some v→kindOf x=some .local →
  bindL kindOf (P.zip vs) m x=some v
 | [],_,_,_,_,h,_,_=>by simp at h
 | _::_,[],_,_,_,_,h,_=>by simp at h
 | p::P,w::vs,0,m,nd,h1,h2,hk=>by
  simp at h1 h2;subst h1;subst h2
  show bindL kindOf ((p,w)::P.zip vs) m p=_
  unfold bindL
  rw[zff fun v hv=>(List.nodup_cons.mp nd).1 (List.of_mem_zip hv).1,if_pos hk]
  simp
 | p::P,w::vs,i + 1,m,nd,h1,h2,hk=>by
  show bindL kindOf ((p,w)::P.zip vs) m x=_
  unfold bindL
  exact zfh (i:=i) (List.nodup_cons.mp nd).2 (by simpa using h1) (by simpa using h2) hk
theorem zfi {kindOf:Str→Option NameKind}{x:Str}{v:Value}:∀ {P:List Str}{vs:List Value}{i:Nat}{m:Str→Option Value},P.Nodup→P[i]?=some x→vs[i]?=some v→kindOf x≠some .local →
  bindC kindOf (P.zip vs) m x=some v
 | [],_,_,_,_,h,_,_=>by simp at h
 | _::_,[],_,_,_,_,h,_=>by simp at h
 | p::P,w::vs,0,m,nd,h1,h2,hk=>by
  simp at h1 h2;subst h1;subst h2
  show bindC kindOf ((p,w)::P.zip vs) m p=_
  unfold bindC
  rw[zfg fun v hv=>(List.nodup_cons.mp nd).1 (List.of_mem_zip hv).1,if_neg hk]
  simp
 | p::P,w::vs,i + 1,m,nd,h1,h2,hk=>by
  show bindC kindOf ((p,w)::P.zip vs) m x=_
  unfold bindC
  exact zfi (i:=i) (List.nodup_cons.mp nd).2 (by simpa using h1) (by simpa using h2) hk
def zeC (N:List Str) (vs:List V):St:=vs.map some++List.replicate (N.length - vs.length) none
def ziZ (CX:CXT) (P:Program) (w:World) (K:PySem.W.Frag) (mg:Str→Option Value) (base:Heap) (N:List Str) (qual:Str) (scope:Scope) (f:Addr) (cd:Value) (A:Around) (outer:List Env) (s:Shared) (H:Hp) (E:XK):Cx where
 prog:=P
 w:=w
 K:=K
 mg:=mg
 base:=base
 A:=A.deeper (envOfC qual scope s.heap.objs.size f cd)
 N:=N
 s₀:=s
 H₀:=H
 env:=envOfC qual scope s.heap.objs.size f cd
 outer:=outer
 stack:=envOfC qual scope s.heap.objs.size f cd::outer
 ex:=[]
 calm:=true
 fn:=fun _=>true
 pn:=[]
 xe:=fun e s'=>wpAny (model P w) (A.deeper (envOfC qual scope s.heap.objs.size f cd)) (leaving (envOfC qual scope s.heap.objs.size f cd) e) (fun _ s''=>CX outer H s E e s'') (fun e' s''=>CX outer H s E e' s'') s'
theorem zgt {sc:Scope}{n:Nat}{x:Str} (h:sc.names.lookup x=some .cell):∃ c,(cellsFrom n sc.names []).lookup x=some c:=by
 have q:=PySem.W.cellsFrom_some sc.names n [] (.inl h)
 exact Option.isSome_iff_exists.mp q
theorem zhK {CX:CXT}{P:Program}{w:World}{K:PySem.W.Frag}{mg:Str→Option Value}{base:Heap}{N ps:List Str}{qual:Str}{scope:Scope}{f:Addr}{cd:Value}{A:Around}{outer:List Env}{s s1:Shared}{H:Hp}{E:XK}{us:List Value}{vs:List V}
  (S:zau N ps scope) (e0:zkr P w K mg base A outer s H) (hl:vs.length=ps.length) (r:zaN vs us)
  (x:InCallC s s.heap.objs.size (bindL (envOfC qual scope s.heap.objs.size f cd).kindOf (ps.zip us) fun _=>none) (cellsFrom (s.heap.objs.size + 1) scope.names []) (bindC (envOfC qual scope s.heap.objs.size f cd).kindOf (ps.zip us) fun _=>none) s1) :
  Inv (ziZ CX P w K mg base N qual scope f cd A outer s H E) [] (zeC N vs) H s1:=by
 have hpl:ps.length≤N.length:=by have:=congrArg List.length S.pre;rw[List.length_take] at this;omega
 obtain⟨h1,tk,rfl,hk⟩:=x.done
 have noA:∀ b:Addr,b∉(ziZ CX P w K mg base N qual scope f cd A outer s H E).ex:=fun b z=>absurd (show b∈([]:List Addr) from z) (by simp)
 refine⟨⟨e0.mod,S.kind,rfl,rfl,Nat.le_refl _,fun y z c h1 h2=>?_,fun y hy=>?_,fun y c _ h=>?_,e0.hd,Around.frames_deeper e0.frames,.inr ⟨rfl,rfl⟩,fun b z=>absurd z (noA b),e0.bs,e0.bsz,fun b _ _=>noA b,fun b z=>absurd z (noA b),e0.funs,e0.frf⟩,
  rfl,e0.bare,Un.kept hk,⟨_,x.toInCall.ns,fun i y v h1 h2 h3=>?_⟩,fun y c h=>⟨_,x.cell y c h⟩,e0.hok.fresh (Nat.le_refl _),fun y c h=>?_,fun p hp=>absurd (show p∈([]:List (Addr×Obj)) from hp) (by simp),e0.hok.kept hk,?_⟩
 ·exact name_of_addr x.apart (PySem.mem_of_lookup h1) (PySem.mem_of_lookup h2)
 ·have hy:scope.names.lookup y=some .cell∨scope.names.lookup y=some .free:=hy
  rcases hy with hy|hy
  ·exact zgt hy
  ·exact absurd rfl (S.nofree _ (PySem.mem_of_lookup hy))
 ·exact Nat.le_of_lt (x.above y c (PySem.mem_of_lookup h))
 ·have hi:i<vs.length:=by
   unfold zeC at h2
   by_cases hi:i<vs.length
   ·exact hi
   ·rw[List.getElem?_append_right (by simpa using hi)] at h2
    rw[List.getElem?_replicate] at h2
    split at h2 <;> cases h2
  have ha:vs[i]?=some v:=by
   unfold zeC at h2
   rw[List.getElem?_append_left (by simpa using hi),List.getElem?_map] at h2
   cases e:vs[i]? with
   | none=>rw[e] at h2;cases h2
   | some a=>rw[e] at h2;cases h2;rfl
  obtain⟨u,hu,rv⟩:=r.get ha
  have hp:ps[i]?=some y:=by
   rw[← S.pre,List.getElem?_take_of_lt (by omega)];exact h1
  have ndP:ps.Nodup:=by rw[← S.pre];exact S.nd.sublist (List.take_sublist _ _)
  refine⟨u,rv,?_⟩
  rcases S.par y (List.mem_of_getElem? hp) with k|k
  ·exact .inl ⟨k,zfh ndP hp hu k⟩
  ·obtain⟨c,e⟩:=zgt (n:=s.heap.objs.size + 1) k
   refine .inr ⟨.inl k,c,e,?_⟩
   have q:=x.cell y c e
   rw[zfi ndP hp hu (by show scope.names.lookup y≠_;rw[k];decide)] at q
   exact q
 ·exact e0.hok.fresh (Nat.le_of_lt (x.above y c (PySem.mem_of_lookup h)))
 ·unfold zeC
  show _=N.length
  rw[List.length_append,List.length_map,List.length_replicate]
  omega
theorem fn_of {CX:CXT}{P:Program}{w:World}{K:PySem.W.Frag}{mg:Str→Option Value}{base:Heap}{k:Nat}{f:Addr}{name qual:Str}{params:Arguments}{body:List Stmt}{scope:Scope}{dV kV doc pm cdv ct oc:Value}{an od:Option Addr}
  {osl:Array (Option Value)}{N ps:List Str}{sp:Sp} (lk:K.lookup f=some ⟨oc,od,.func (PySem.W.fnOf name qual params body scope dV kV doc pm an cdv ct),osl⟩) (hcd:PySem.W.codeIn K cdv qual=true) (S:zau N ps scope)
  (len:∀ vs H Q E,sp vs H Q E→vs.length=ps.length)
  (hbody:∀ (A:Around) (outer:List Env) (s:Shared) (H:Hp) (vs:List V) (Q:VK) (E:XK),zbQ k (A.deeper (envOfC qual scope s.heap.objs.size f cdv))→sp vs H Q E →
   ∃ t,PSs (ziZ CX P w K mg base N qual scope f cdv A outer s H E) body t∧t { nx:=fun _ H'=>Q .non H',rt:=Q } (zeC N vs) H) :
  zcZ P w K mg base CX (k + 1) f (PySem.W.fnOf name qual params body scope dV kV doc pm an cdv ct) ps sp:=by
 refine⟨len,fun A outer s H args us vs Q E hr e0 hb r hsp=>?_⟩
 have hl:=len _ _ _ _ hsp
 have KX:K.In s.heap:=e0.mod.kin.keeps fun b o e=>(e0.bs b o e).1
 have lim:s.heap.NoLimit:=e0.mod.nolimit.keeps fun b o e=>(e0.bs b o e).1
 have hkind:∀ y∈ps.zip us,scope.names.lookup y.1=some .local∨(scope.names.lookup y.1=some .cell∧((cellsFrom (s.heap.objs.size + 1) scope.names []).lookup y.1).isSome=true):=fun⟨n,v⟩ hy=>by
  rcases S.par n (List.of_mem_zip hy).1 with q|q
  ·exact .inl q
  ·exact .inr ⟨q,PySem.W.cellsFrom_some _ _ _ (.inl q)⟩
 refine codeAny_call_function hr.depth (KX _ _ lk) rfl S.co S.gen rfl (PySem.W.codeRec_of KX hcd) (hb _ _ _ _ ?_)
 refine wpAny_newFunctionEnv_cells S.kind hkind fun env he s1 x=>?_
 subst he
 refine⟨lim.keeps x.toInCall.keep,codeAny_func ?_⟩
 obtain⟨t,ht,hq⟩:=hbody A outer s H vs Q E (hr.deeper _) hsp
 have I:Inv (ziZ CX P w K mg base N qual scope f cdv A outer s H E) [] (zeC N vs) H s1:=zhK S e0 hl r x
 refine wpAny_mono (ht [] s1 (zeC N vs) H _ I hq) (fun fl s' hs=>?_) fun e s' hs=>hs
 have fin:∀ {σ':St}{H':Hp}{v:V}{u:Value},Inv (ziZ CX P w K mg base N qual scope f cdv A outer s H E) [] σ' H' s'→za3 v u→Q v H'→CE outer P w H s Q u s':=
  fun {σ' H' v u} J rv q=>⟨v,H',J.os,J.bare,J.base,J.hok,rv,q⟩
 cases fl with
 | ret u=>
  obtain⟨v,σ',H',J,rv,q⟩:=hs
  exact fin J rv q
 | next=>
  obtain⟨σ',H',J,q⟩:=hs
  exact fin (v:=V.non) (u:=Value.none) J rfl q
 | brk=>
  obtain⟨_,_,_,q⟩:=hs
  exact False.elim q
 | cont=>
  obtain⟨_,_,_,q⟩:=hs
  exact False.elim q
end L2
namespace L2
open PySem PySem.Spec PyProof.Rows
section
variable {X:Cx}{x:Str}{p pos:Pos}{e:Expr}{es:List Expr}{t:TA}{id T:String}{r:List V→Hp→VK→Prop}
def tCB (r:List V→Hp→VK→Prop) (t:TA):TE:=fun σ H Q=>t σ H fun vs H1=>r vs H1 Q
theorem zaq (hc:zcl X (.builtin id) r) (hg:Gl X x) (hm:X.mg x=none) (hv:bootBuiltins x=some (.builtin id)) (ha:PA X (e::es) t) (hn:x≠"__name__":=by decide) (hdb:(x == ("__debug__":Str))=false:=by decide)
  (he:starEach (e::es) X.env=(false,eval e X.env)::starEach es X.env:=by rfl) (hpl:(backTo pos (starEach es X.env)).any (·.1)=false:=by rfl):PE X (.Call (.Name x p) (e::es) [] pos) (tCB r t):=by
 intro pins s σ H Q I h
 refine wpAny_Call_Name_kw (ze8 I hg hm hv ?_ hn hdb)
 exact PyProof.Rows.callWith_builtin1 (thn (ha pos pins s σ H _ I h) fun us s1=>L2.ex5 fun vs H1 I1 r1 q1=>hc pins s1 σ H1 vs us Q I1 r1 q1) he hpl
theorem zbs (hc:zcl X (.type T) r) (hg:Gl X x) (hm:X.mg x=none) (hv:bootBuiltins x=some (.type T)) (ha:PA X (e::es) t) (hn:x≠"__name__":=by decide) (hdb:(x == ("__debug__":Str))=false:=by decide)
  (he:starEach (e::es) X.env=(false,eval e X.env)::starEach es X.env:=by rfl) (hpl:(backTo pos (starEach es X.env)).any (·.1)=false:=by rfl):PE X (.Call (.Name x p) (e::es) [] pos) (tCB r t):=by
 intro pins s σ H Q I h
 refine wpAny_Call_Name_kw (ze8 I hg hm hv ?_ hn hdb)
 exact PyProof.Rows.callWith_type1 (thn (ha pos pins s σ H _ I h) fun us s1=>L2.ex5 fun vs H1 I1 r1 q1=>hc pins s1 σ H1 vs us Q I1 r1 q1) he hpl
end
end L2
namespace HT
open PySem PyProof.Rows
section
open PySem.SeqAt
open PySem.AutoSeq1 (wpAny_loadPart')
open PySem.MeetsSeq PySem.MeetsSeq2 PySem.MeetsSeq3
end
section
variable {prog:Program}{w:World}{A:Around}{E:Value→Shared→Prop}{s:Shared}
def sIx (n d:Nat):Option Int→Nat
 | none=>d
 | some v=>if v<0 then(v + (n:Int)).toNat else min v.toNat n
theorem zgu (n d:Nat):sIx n d none=d:=rfl
theorem zcw (n d k:Nat):sIx n d (some (k:Int))=min k n:=by
 show(if (k:Int)<0 then((k:Int) + (n:Int)).toNat else min (k:Int).toNat n)=min k n
 rw[if_neg (by omega),Int.toNat_natCast]
theorem sIx_le (n d:Nat) (hd:d≤n) (o:Option Int):sIx n d o≤n:=by
 cases o with
 | none=>exact hd
 | some v=>
  show(if v<0 then(v + (n:Int)).toNat else min v.toNat n)≤n
  by_cases hv:v<0
  ·rw[if_pos hv];omega
  ·rw[if_neg hv];exact Nat.min_le_right _ _
theorem zhL (v:Int) (n d:Nat):(if v<0 then max (v + (n:Int)) 0 else min v (n:Int))=((sIx n d (some v):Nat):Int):=by
 show(if v<0 then max (v + (n:Int)) 0 else min v (n:Int))=(((if v<0 then(v + (n:Int)).toNat else min v.toNat n):Nat):Int)
 by_cases hv:v<0
 ·simp only[if_pos hv];omega
 ·simp only[if_neg hv];omega
theorem zg4 (lo hi:Option Int) (n:Nat):Builtin.Slice.sliceAdjust lo hi 1 (n:Int)=(((sIx n 0 lo:Nat):Int),((sIx n n hi:Nat):Int)):=by
 have h1:¬ ((1:Int)<0):=by omega
 unfold Builtin.Slice.sliceAdjust
 simp only[h1,if_false]
 refine Prod.ext ?_ ?_
 ·cases lo with
  | none=>rfl
  | some v=>exact zhL v n 0
 ·cases hi with
  | none=>rfl
  | some v=>exact zhL v n n
theorem zg5 (i j:Nat):Builtin.Slice.slicePlaces (i:Int) (j:Int) 1=j - i:=by
 unfold Builtin.Slice.slicePlaces
 have h1:(1:Int) > 0:=by omega
 simp only[h1,if_true,Int.ediv_one]
 split <;> omega
theorem zef {v:Value}{o:Option Int}{Q:Option Int→Shared→Prop} (p:IsPart v o) (h:Q o s):wpAny (model prog w) A (Builtin.Slice.slicePartIndex v) Q E s:=by
 cases p with
 | none=>exact slicePart_none h
 | int i t=>exact slicePart_int h
theorem zbZ {sl:Addr}{vl vu:Value}{lo hi:Option Int}{n:Nat}{Q:Int×Int×Nat→Shared→Prop} (hs:s.heap.IsSliceOf sl vl vu .none) (pl:IsPart vl lo) (pu:IsPart vu hi)
  (h:Q (((sIx n 0 lo:Nat):Int),1,sIx n n hi - sIx n 0 lo) s):wpAny (model prog w) A (Builtin.Slice.sliceApplied (.ref sl) (pure (n:Int))) Q E s:=by
 obtain⟨os,hos,hcs,hds⟩:=id hs
 unfold Builtin.Slice.sliceApplied Builtin.Slice.sliceFields
 refine wpAny_bind (wpAny_bind (wpAny_field hos hds (x:=vl) rfl (wpAny_bind (wpAny_field hos hds (x:=vu) rfl (wpAny_bind (wpAny_field hos hds (x:=.none) rfl (wpAny_pure ?_)))))))
 refine wpAny_bind (slicePart_none ?_)
 show wpAny _ _ (if ((1:Int) == 0)=true then _ else _) _ _ s
 rw[if_neg (by decide)]
 refine wpAny_bind (zef pl (wpAny_bind (zef pu (wpAny_bind (wpAny_pure ?_)))))
 show wpAny _ _ (match Builtin.Slice.sliceAdjust lo hi 1 (n:Int) with|(lo,hi)=>pure (lo,(1:Int),Builtin.Slice.slicePlaces lo hi 1)) _ _ s
 rw[zg4 lo hi n]
 show wpAny _ _ (pure (((sIx n 0 lo:Nat):Int),(1:Int),Builtin.Slice.slicePlaces ((sIx n 0 lo:Nat):Int) ((sIx n n hi:Nat):Int) 1)) _ _ s
 rw[zg5]
 exact wpAny_pure h
theorem zjc (xs:Array Value) (i k:Nat):((List.range k).filterMap fun(m:Nat)=>xs[((i:Int) + (m:Int) * 1).toNat]?).toArray=((xs.toList.drop i).take k).toArray:=by
 have e:(fun(m:Nat)=>xs[((i:Int) + (m:Int) * 1).toNat]?)=fun m=>xs[i + m]?:=by
  funext m
  have:((i:Int) + (m:Int) * 1).toNat=i + m:=by omega
  rw[this]
 rw[e]
 have:=pick_run xs i k
 rw[List.filterMap_map] at this
 have e2:((fun x=>xs[x]?) ∘ fun x=>i + x)=fun m=>xs[i + m]?:=rfl
 rw[e2] at this
 rw[this]
theorem zc0 {t sl:Addr}{items:Array Value}{vl vu:Value}{lo hi:Option Int}{Q:Value→Shared→Prop} (ht:IsTup s.heap t items) (hs:s.heap.IsSliceOf sl vl vu .none) (pl:IsPart vl lo) (pu:IsPart vu hi)
  (hw:¬ (sIx items.size 0 lo=0∧sIx items.size items.size hi=items.size))
  (h:Q (.ref s.heap.objs.size) { s with heap:=s.heap.push { cls:=.type "tuple",data:=.seq ((items.toList.drop (sIx items.size 0 lo)).take (sIx items.size items.size hi - sIx items.size 0 lo)).toArray } })
  (hsz:items.size≤sizeLine):wpAny (model prog w) A (getItem (.ref t) (.ref sl)) Q E s:=by
 have htake:sizeOk (.seq ((items.toList.drop (sIx items.size 0 lo)).take (sIx items.size items.size hi - sIx items.size 0 lo)).toArray):=by
  show((items.toList.drop (sIx items.size 0 lo)).take (sIx items.size items.size hi - sIx items.size 0 lo)).toArray.size≤sizeLine
  rw[List.size_toArray,List.length_take,List.length_drop,Array.length_toList]
  omega
 have hj:sIx items.size items.size hi≤items.size:=sIx_le _ _ (Nat.le_refl _) hi
 obtain⟨os,hos,hcs,hds⟩:=id hs
 have hTs:s.TypeIs (.ref sl) "slice":=⟨os,hos,hcs⟩
 unfold getItem
 try with_reducible refine wpAny_holding ?_
 first|refine wpAny_bind (wpAny_pure ?_)|skip
 refine wpAny_bind (wpAny_sequenceKey ht.typeIs (by decide) ?_)
 refine wpAny_bind (wpAny_callSpecial?_slot (name:=Str.ofString "__getitem__") ht.typeIs PyProof.Rows.slot_tuple_getitem
  (wpAny_call_entry PyProof.Rows.slot_tuple_getitem ht.typeIs entry_tuple_getitem ?_ (args_tuple_getitem _ _)))
 show wpAny _ _ (Builtin.Tuple.tupleItemsOf (.ref t) >>= _) _ _ s
 refine wpAny_bind (tupleItemsOf_ ht ?_)
 refine wpAny_bind (wpAny_typeOf hTs ?_)
 rw[if_pos (by decide)]
 refine wpAny_bind (zbZ hs pl pu ?_)
 have hno:¬ ((((sIx items.size 0 lo:Nat):Int) == 0 && (1:Int) == 1 && (sIx items.size items.size hi - sIx items.size 0 lo) == items.size)=true):=by
  intro q
  rw[Bool.and_eq_true,Bool.and_eq_true] at q
  have q1:((sIx items.size 0 lo:Nat):Int)=0:=eq_of_beq q.1.1
  have q2:sIx items.size items.size hi - sIx items.size 0 lo=items.size:=eq_of_beq q.2
  exact hw ⟨by omega,by omega⟩
 show wpAny _ _ (if (((sIx items.size 0 lo:Nat):Int) == 0 && (1:Int) == 1 && (sIx items.size items.size hi - sIx items.size 0 lo) == items.size)=true then _ else _) _ _ s
 rw[if_neg hno,zjc]
 first
  | exact wpAny_bind (m:=Builtin.Tuple.tupleExact _) (wpAny_newObj_type (wpAny_pure ⟨_,rfl,wpAny_pure h⟩) htake)
  | exact wpAny_bind (m:=Builtin.Tuple.tupleExact _) (wpAny_newObj_type (wpAny_bind (wpAny_pure (wpAny_pure ⟨_,rfl,wpAny_pure h⟩))) htake)
  | exact wpAny_bind (wpAny_bind (m:=Builtin.Tuple.tupleExact _) (wpAny_newObj_type (wpAny_pure (wpAny_pure ⟨_,rfl,wpAny_pure h⟩)) htake))
  | exact wpAny_bind (wpAny_bind (m:=Builtin.Tuple.tupleExact _) (wpAny_newObj_type (wpAny_pure ⟨_,rfl,wpAny_pure h⟩) htake))
end
end HT
namespace L2
open PySem PySem.Spec PyProof.Rows
abbrev TO:=St→Hp→(Option Int→Hp→Prop)→Prop
def PO (X:Cx) (e:Option Expr) (t:TO):Prop:=
 ∀ (pins:List (Addr×Obj)) (s:Shared) (σ:St) (H:Hp) (Q:Option Int→Hp→Prop),Inv X pins σ H s→t σ H Q →
  wpAny (model X.prog X.w) X.A (evalPart e X.env) (fun u s'=>∃ o H',Inv X pins σ H' s'∧IsPart u o∧Q o H') X.xe s
def zku:TO:=fun _ H Q=>Q none H
def tPart (t:TE):TO:=fun σ H Q=>t σ H fun x H1=>∃ i,x=.int i∧Q (some i) H1
section
variable {X:Cx}{e:Expr}{te:TE}{lo hi:Option Expr}{tl th:TO}{pos p2:Pos}
theorem zbt:PO X none zku:=by
 intro pins s σ H Q I h
 rw[evalPart_none]
 exact wpAny_pure ⟨none,H,I,.none,h⟩
theorem za9 (h:PE X e te):PO X (some e) (tPart te):=by
 intro pins s σ H Q I hw
 rw[evalPart_some]
 refine thn (h pins s σ H _ I hw) fun u s1=>L2.ex5 fun x H1 I1 r1 q1=>?_
 obtain⟨i,rfl,q⟩:=q1
 obtain⟨t,rfl⟩:=r1
 exact⟨some i,H1,I1,.int i t,q⟩
def SlR (X:Cx) (r:V→Option Int→Option Int→Hp→VK→Prop):Prop:=
 ∀ (pins:List (Addr×Obj)) (s:Shared) (σ:St) (H:Hp) (x:V) (v vl vu:Value) (lo hi:Option Int) (sl:Addr) (Q:VK),Inv X pins σ H s→za3 x v→s.heap.IsSliceOf sl vl vu .none→IsPart vl lo→IsPart vu hi→r x lo hi H Q →
  ∃ T id,typeLookup (.type T) "__getitem__"=pure (some (.builtin id))∧s.TypeIs v T∧wpAny (model X.prog X.w) X.A (getItem v (.ref sl)) (EP X pins σ Q) X.xe s
def tSl (r:V→Option Int→Option Int→Hp→VK→Prop) (te:TE) (tl th:TO):TE:=fun σ H Q=>te σ H fun x H1=>tl σ H1 fun l H2=>th σ H2 fun u H3=>r x l u H3 Q
theorem zaY {r:V→Option Int→Option Int→Hp→VK→Prop} (hr:SlR X r) (he:PE X e te) (hl:PO X lo tl) (hu:PO X hi th):PE X (.Subscript e (.Slice lo hi none p2) pos) (tSl r te tl th):=by
 intro pins s σ H Q I h
 refine Subscript_ (thn (he pins s σ H _ I h) fun v s1=>L2.ex5 fun x H1 I1 r1 q1=>?_)
 refine wpAny_Slice (thn (hl pins s1 σ H1 _ I1 q1) fun vl s2 ⟨l,H2,I2,pl,q2⟩=>thn (hu pins s2 σ H2 _ I2 q2) fun vu s3=>L2.ex5 fun u H3 I3 pu q3=>?_)
 rw[evalPart_none]
 refine wpAny_pure ?_
 have I4:Inv X pins σ H3 { s3 with heap:=s3.heap.push { cls:=.type "slice",data:=.fields #[vl,vu,.none] } }:=I3.kept (t':=s3.toks) fun b ob q=>Heap.get?_push_of_some _ q
 obtain⟨T,id,hT,ht,hg⟩:=hr pins { s3 with heap:=s3.heap.push { cls:=.type "slice",data:=.fields #[vl,vu,.none] } } σ H3 x v vl vu l u s3.heap.objs.size Q I4 r1 (Heap.IsSliceOf.new ..) pl pu q3
 show wpAny (model X.prog X.w) X.A (subscriptTail e (.Slice lo hi none p2) v (.ref s3.heap.objs.size)) (EP X pins σ Q) X.xe { s3 with heap:=s3.heap.push { cls:=.type "slice",data:=.fields #[vl,vu,.none] } }
 exact tail_any (ops:=[.ref s3.heap.objs.size,v]) ht hT hg (by with_unfolding_all rfl)
def zdu (xs:List V) (lo hi:Option Int):List V:=(xs.drop (HT.sIx xs.length 0 lo)).take (HT.sIx xs.length xs.length hi - HT.sIx xs.length 0 lo)
theorem zdG (xs:List V) (lo hi:Option Int):(zdu xs lo hi).length≤xs.length:=by
 unfold zdu
 rw[List.length_take,List.length_drop]
 omega
def rSlT (K:PySem.W.Frag):V→Option Int→Option Int→Hp→VK→Prop:=fun x lo hi H Q=>∃ a xs,x=.ref a∧SqT K H a xs ∧
 ¬ (HT.sIx xs.length 0 lo=0∧HT.sIx xs.length xs.length hi=xs.length)∧∀ p,H p=none→Q (.ref p) (upd H p (.tup (zdu xs lo hi)))
theorem sl_tup:SlR X (rSlT X.K):=by
 intro pins s σ H x v vl vu lo hi sl Q I rx hs pl pu h
 obtain⟨a,xs,rfl,hx,hw,q⟩:=h
 cases rx
 obtain⟨its,r,ht,hz⟩:=I.tuple hx
 have hlen:its.toArray.size=xs.length:=by rw[List.size_toArray];exact r.length.symm
 refine⟨"tuple",_,PyProof.Rows.slot_tuple_getitem.lookup,ht.typeIs,?_⟩
 refine HT.zc0 ht hs pl pu (by rw[hlen];exact hw) ?_ (by rw[hlen];exact hz)
 rw[hlen]
 refine⟨.ref s.heap.objs.size,_,I.laid (t':=s.toks) (o:=.tup (zdu xs lo hi)) (fun b ob q=>Heap.get?_push_of_some _ q) (Nat.le_refl _) ?_,rfl,q _ (I.hok.fresh (Nat.le_refl _))⟩
 exact⟨Nat.le_trans (zdG xs lo hi) hz,_,(r.drop (HT.sIx xs.length 0 lo)).take (HT.sIx xs.length xs.length hi - HT.sIx xs.length 0 lo),IsTup.new _ _⟩
end
end L2
namespace L2
open PySem PySem.Spec PyProof.Rows
def ixN (n:Nat) (i:Int):Option Nat:=if 0≤i then(if i<n then some i.toNat else none) else if -(n:Int)≤i then some (i + n).toNat else none
def atI {α:Type} (xs:List α) (i:Int):Option α:=(ixN xs.length i).bind fun j=>xs[j]?
theorem zkv {n:Nat}{i:Int}{j:Nat} (h:ixN n i=some j):seqIndex? i n=some j∧j<n∧-(n:Int)≤i∧i<n:=by
 unfold ixN at h
 by_cases h0:0≤i
 ·rw[if_pos h0] at h
  by_cases h1:i<n
  ·rw[if_pos h1] at h
   have e:i.toNat=j:=Option.some.inj h
   exact⟨by rw[seqIndex_of h0 h1,e],by omega,by omega,h1⟩
  ·rw[if_neg h1] at h;cases h
 ·rw[if_neg h0] at h
  by_cases h1:-(n:Int)≤i
  ·rw[if_pos h1] at h
   have e:(i + n).toNat=j:=Option.some.inj h
   exact⟨by rw[seqIndex_neg (by omega) h1,e],by omega,h1,by omega⟩
  ·rw[if_neg h1] at h;cases h
theorem zfZ {α:Type}{xs:List α}{i:Int}{v:α} (h:atI xs i=some v):∃ j,seqIndex? i xs.length=some j∧xs[j]?=some v∧j<xs.length∧-(xs.length:Int)≤i∧i<xs.length:=by
 unfold atI at h
 cases e:ixN xs.length i with
 | none=>rw[e] at h;cases h
 | some j=>
  rw[e] at h
  obtain⟨h1,h2,h3,h4⟩:=zkv e
  exact⟨j,h1,h,h2,h3,h4⟩
def zkw (b:Expr):Prop:=∀ o i,subscripted b false o i=operate [o,i] (getItem o i)
def IxR (X:Cx) (r:R2):Prop:=
 ∀ (value slice:Expr) (pins:List (Addr×Obj)) (s:Shared) (σ:St) (H:Hp) (x y:V) (v u:Value) (Q:VK),Inv X pins σ H s→za3 x v→za3 y u→r x y H Q →
  subscripted slice false v u=operate [v,u] (getItem v u)→wpAny (model X.prog X.w) X.A (subscriptTail value slice v u) (EP X pins σ Q) X.xe s
def MtR (X:Cx) (id:String) (r:V→List V→Hp→VK→Prop):Prop:=
 ∀ (pins:List (Addr×Obj)) (s:Shared) (σ:St) (H:Hp) (x:V) (xs:List V) (v:Value) (us:List Value) (Q:VK),Inv X pins σ H s→za3 x v→zaN xs us→r x xs H Q →
  wpAny (model X.prog X.w) X.A (call (.builtin id) (v::us)) (EP X pins σ Q) X.xe s
section
variable {X:Cx}{a b:Expr}{ta tb:TE}{pos:Pos}
theorem zaZ {r:R2} (hr:IxR X r) (ha:PE X a ta) (hb:PE X b tb) (hs:zkw b):PE X (.Subscript a b pos) (tOp r ta tb):=by
 intro pins s σ H Q I h
 exact Subscript_ (binT ha hb I h fun v u s2 x y H2 I2 rx ry q=>hr a b pins s2 σ H2 x y v u Q I2 rx ry q (hs _ _))
def rIxL (K:PySem.W.Frag):R2:=fun x y H Q=>∃ p xs i v,x=.ref p∧y=.int i∧SqL K H p xs∧atI xs i=some v∧Q v H
def rIxT (K:PySem.W.Frag):R2:=fun x y H Q=>∃ p xs i v,x=.ref p∧y=.int i∧SqT K H p xs∧atI xs i=some v∧Q v H
def rIxS:R2:=fun x y H Q=>∃ z i c,x=.str z∧y=.int i∧z.length≤sizeLine∧atI z.cps.toList i=some c∧Q (.str ⟨#[c]⟩) H
theorem zaH:IxR X (rIxL X.K):=by
 intro value slice pins s σ H x y v u Q I rx ry h hs
 obtain⟨p,xs,i,z,rfl,rfl,hq,he,q⟩:=h
 cases rx
 obtain⟨t,rfl⟩:=ry
 obtain⟨its,r,pl,hz⟩:=I.list hq
 obtain⟨j,h1,h2,h3,h4,h5⟩:=zfZ he
 obtain⟨w,ew,rw'⟩:=r.get h2
 have hl:=r.length
 have hn:=zfd
 have fin:EP X pins σ Q w s:=⟨z,H,I,rw',q⟩
 by_cases h0:0≤i
 ·have hj:i.toNat=j:=by
   rw[seqIndex_of h0 h5] at h1
   exact Option.some.inj h1
  exact item_listR pl.isList h0 (by omega) (by rw[hj];simpa using ew) fin hs
 ·have hj:(i + (its.toArray.size:Int)).toNat=j:=by
   rw[seqIndex_neg (by omega) h4] at h1
   rw[List.size_toArray,← hl]
   exact Option.some.inj h1
  exact subscriptTail_builtinR (x:=w) pl.isList.typeIs slot_list_getitem.lookup
   (wpAny_getItem_list_neg (Q:=fun r s'=>r=w∧EP X pins σ Q r s') pl.isList (by omega) (by rw[List.size_toArray] <;> omega) (by omega) (by rw[hj];simpa using ew) ⟨rfl,fin⟩) hs
theorem zeg:IxR X (rIxT X.K):=by
 intro value slice pins s σ H x y v u Q I rx ry h hs
 obtain⟨p,xs,i,z,rfl,rfl,hq,he,q⟩:=h
 cases rx
 obtain⟨t,rfl⟩:=ry
 obtain⟨its,r,pl,hz⟩:=I.tuple hq
 obtain⟨j,h1,h2,h3,h4,h5⟩:=zfZ he
 obtain⟨w,ew,rw'⟩:=r.get h2
 have hl:=r.length
 have hn:=zfd
 have fin:EP X pins σ Q w s:=⟨z,H,I,rw',q⟩
 exact subscriptTail_builtinR (x:=w) pl.typeIs slot_tuple_getitem.lookup
  (getItem_tuple (j:=j) (Q:=fun r s'=>r=w∧EP X pins σ Q r s') pl (by omega) (by omega) (by rw[List.size_toArray,← hl];exact h1) (by simpa using ew) ⟨rfl,fin⟩) hs
theorem zj2:IxR X rIxS:=by
 intro value slice pins s σ H x y v u Q I rx ry h hs
 obtain⟨z,i,c,rfl,rfl,hz,he,q⟩:=h
 obtain⟨t,rfl⟩:=rx
 obtain⟨t',rfl⟩:=ry
 obtain⟨j,h1,h2,h3,h4,h5⟩:=zfZ he
 have hl:z.cps.toList.length=z.length:=by simp[Str.length]
 rw[hl] at h1 h4 h5
 have hn:=zfd
 exact tail_any (typeIs_str s z t) slot_str_getitem.lookup (getItem_str (c:=c) (by
  have e1:decide (i< -(2 ^ 63:Int))=false:=decide_eq_false (by omega)
  have e2:decide (i ≥ 2 ^ 63)=false:=decide_eq_false (by omega)
  rw[e1,e2,Bool.or_false]) (by rw[h1];simpa using h2) ⟨.str ⟨#[c]⟩,H,I.tok _,⟨_,rfl⟩,q⟩) hs
theorem zfj (lo hi:Option Int) (n:Nat):(sliceBounds lo hi none n).1=((HT.sIx n 0 lo:Nat):Int)∧(sliceBounds lo hi none n).2.1=((HT.sIx n n hi:Nat):Int)∧(sliceBounds lo hi none n).2.2=1:=by
 refine⟨?_,?_,rfl⟩
 ·cases lo with
  | none=>simp[sliceBounds,HT.sIx]
  | some i=>
   simp only[sliceBounds,HT.sIx,Option.getD_none,show(1:Int) > 0 by decide,if_true]
   by_cases h:i<0
   ·simp only[h,if_true] <;> omega
   ·simp only[h,if_false] <;> omega
 ·cases hi with
  | none=>simp[sliceBounds,HT.sIx]
  | some i=>
   simp only[sliceBounds,HT.sIx,Option.getD_none,show(1:Int) > 0 by decide,if_true]
   by_cases h:i<0
   ·simp only[h,if_true] <;> omega
   ·simp only[h,if_false] <;> omega
theorem zeD (its:List Value) (lo hi:Option Int):slicePick its.toArray lo hi none=((its.drop (HT.sIx its.length 0 lo)).take (HT.sIx its.length its.length hi - HT.sIx its.length 0 lo)).toArray:=by
 obtain⟨h1,h2,h3⟩:=zfj lo hi its.toArray.size
 unfold slicePick
 rw[h1,h2,h3]
 simp only[sliceRange_one,pick_run,List.size_toArray] <;> rfl
def rSlL (K:PySem.W.Frag):V→Option Int→Option Int→Hp→VK→Prop:=fun x lo hi H Q=>∃ a xs,x=.ref a∧SqL K H a xs∧∀ p,H p=none→Q (.ref p) (upd H p (.lst (zdu xs lo hi)))
theorem zbu:SlR X (rSlL X.K):=by
 intro pins s σ H x v vl vu lo hi sl Q I rx hs pl pu h
 obtain⟨a,xs,rfl,hx,q⟩:=h
 cases rx
 obtain⟨its,r,ht,hz⟩:=I.list hx
 have hlen:=r.length
 refine⟨"list",_,slot_list_getitem.lookup,ht.isList.typeIs,?_⟩
 refine wpAny_getItem_list_slice ht.isList hs pl pu .none (by simp) ?_ (by rw[List.size_toArray] <;> omega)
 rw[zeD,← hlen]
 refine⟨.ref s.heap.objs.size,_,I.laid (t':=s.toks) (o:=.lst (zdu xs lo hi)) (fun b ob q=>Heap.get?_push_of_some _ q) (Nat.le_refl _) ?_,rfl,q _ (I.hok.fresh (Nat.le_refl _))⟩
 exact⟨Nat.le_trans (zdG xs lo hi) hz,_,0,(r.drop (HT.sIx xs.length 0 lo)).take (HT.sIx xs.length xs.length hi - HT.sIx xs.length 0 lo),Heap.get?_push_size _ rfl⟩
def zdp:V→Bool
 | .non=>true
 | .bl _=>true
 | .int _=>true
 | .str _=>true
 | _=>false
def eqV:V→V→Bool
 | .non,.non=>true
 | .bl a,.bl b=>a == b
 | .bl a,.int b=>(if a then 1 else 0) == b
 | .int a,.bl b=>a == (if b then 1 else 0)
 | .int a,.int b=>a == b
 | .str a,.str b=>a == b
 | _,_=>false
theorem zbj {A:Around}{s:Shared}{y x:V}{u v:Value} (ry:za3 y u) (rx:za3 x v) (fy:zdp y=true) (fx:zdp x=true):SeqAt.EqAt A s u v (eqV y x):=by
 cases y with
 | non=>
  cases ry
  cases x with
  | non=>cases rx;exact SeqAt.EqAt.same _
  | bl b=>cases rx;exact SeqAt.EqAt.none_bool b
  | int b=>obtain⟨t,rfl⟩:=rx;exact SeqAt.EqAt.none_int b t
  | str b=>obtain⟨t,rfl⟩:=rx;exact SeqAt.EqAt.none_str b t
  | _=>exact absurd (show false=true from fx) Bool.false_ne_true
 | bl a=>
  cases ry
  cases x with
  | non=>cases rx;exact SeqAt.EqAt.bool_none a
  | bl b=>cases rx;exact SeqAt.EqAt.bool_bool a b
  | int b=>obtain⟨t,rfl⟩:=rx;exact SeqAt.EqAt.bool_int a b t
  | str b=>obtain⟨t,rfl⟩:=rx;exact SeqAt.EqAt.bool_str a b t
  | _=>exact absurd (show false=true from fx) Bool.false_ne_true
 | int a=>
  obtain⟨t',rfl⟩:=ry
  cases x with
  | non=>cases rx;exact SeqAt.EqAt.int_none a t'
  | bl b=>cases rx;exact SeqAt.EqAt.int_bool a t' b
  | int b=>obtain⟨t,rfl⟩:=rx;exact SeqAt.EqAt.int_int a t' b t
  | str b=>obtain⟨t,rfl⟩:=rx;exact SeqAt.EqAt.int_str a t' b t
  | _=>exact absurd (show false=true from fx) Bool.false_ne_true
 | str a=>
  obtain⟨t',rfl⟩:=ry
  cases x with
  | non=>cases rx;exact SeqAt.EqAt.str_none a t'
  | bl b=>cases rx;exact SeqAt.EqAt.str_bool a t' b
  | int b=>obtain⟨t,rfl⟩:=rx;exact SeqAt.EqAt.str_int a t' b t
  | str b=>obtain⟨t,rfl⟩:=rx;exact SeqAt.EqAt.str_str a t' b t
  | _=>exact absurd (show false=true from fx) Bool.false_ne_true
 | _=>exact absurd (show false=true from fy) Bool.false_ne_true
def eqU (x:V) (u:Value):Bool:=match u with
 | .none=>eqV .non x
 | .bool b=>eqV (.bl b) x
 | .int i _=>eqV (.int i) x
 | .str z _=>eqV (.str z) x
 | _=>false
theorem zj3 {x y:V}{u:Value} (r:za3 y u) (f:zdp y=true):eqU x u=eqV y x:=by
 cases y with
 | non=>cases r;rfl
 | bl b=>cases r;rfl
 | int i=>obtain⟨t,rfl⟩:=r;rfl
 | str z=>obtain⟨t,rfl⟩:=r;rfl
 | _=>exact absurd (show false=true from f) Bool.false_ne_true
theorem zdH {x:V}:∀ {xs:List V}{us:List Value},zaN xs us→xs.all zdp=true→us.any (eqU x)=xs.any fun y=>eqV y x
 | _,_,.nil,_=>rfl
 | y::xs,u::us,.cons r t,f=>by
  rw[List.all_cons,Bool.and_eq_true] at f
  rw[List.any_cons,List.any_cons,zj3 r f.1,zdH t f.2]
theorem zcJ {A:Around}{s:Shared}{x:V}{v:Value} (rx:za3 x v) (fx:zdp x=true):∀ {xs:List V}{us:List Value},zaN xs us→xs.all zdp=true→∀ u∈us,SeqAt.EqAt A s u v (eqU x u)
 | _,_,.nil,_=>fun u hu=>by cases hu
 | y::xs,u::us,.cons r t,f=>fun u' hu=>by
  rw[List.all_cons,Bool.and_eq_true] at f
  rcases List.mem_cons.mp hu with rfl|hu
  ·rw[zj3 r f.1];exact zbj r rx f.1 fx
  ·exact zcJ rx fx t f.2 u' hu
def inV (x:V) (xs:List V):Bool:=xs.any fun y=>eqV y x
def rIn (K:PySem.W.Frag) (neg:Bool):R2:=fun x y H Q=>∃ p xs,y=.ref p∧(SqL K H p xs∨SqT K H p xs)∧zdp x=true∧xs.all zdp=true∧Q (.bl (if neg then !inV x xs else inV x xs)) H
theorem zhM:OpR X (compareOp .In) (rIn X.K false):=by
 intro pins s σ H x y v u Q I rx ry h
 obtain⟨p,xs,rfl,hq,fx,fs,q⟩:=h
 cases ry
 rcases hq with hq|hq
 ·obtain⟨its,r,pl,hz⟩:=I.list hq
  refine SeqAt.in_listAt (eqU x) pl.isList (fun w hw=>zcJ rx fx r fs w (by simpa using hw)) ⟨.bl _,H,I,rfl,?_⟩
  rw[show its.toArray.any (eqU x)=its.any (eqU x) by simp,zdH r fs]
  exact q
 ·obtain⟨its,r,pl,hz⟩:=I.tuple hq
  refine SeqAt.in_tupleAt (eqU x) pl (fun w hw=>zcJ rx fx r fs w (by simpa using hw)) ⟨.bl _,H,I,rfl,?_⟩
  rw[show its.toArray.any (eqU x)=its.any (eqU x) by simp,zdH r fs]
  exact q
theorem zdd:OpR X (compareOp .NotIn) (rIn X.K true):=by
 intro pins s σ H x y v u Q I rx ry h
 obtain⟨p,xs,rfl,hq,fx,fs,q⟩:=h
 cases ry
 rcases hq with hq|hq
 ·obtain⟨its,r,pl,hz⟩:=I.list hq
  refine SeqAt.notIn_listAt (eqU x) pl.isList (fun w hw=>zcJ rx fx r fs w (by simpa using hw)) ⟨.bl _,H,I,rfl,?_⟩
  rw[show its.toArray.any (eqU x)=its.any (eqU x) by simp,zdH r fs]
  exact q
 ·obtain⟨its,r,pl,hz⟩:=I.tuple hq
  refine SeqAt.notIn_tupleAt (eqU x) pl (fun w hw=>zcJ rx fx r fs w (by simpa using hw)) ⟨.bl _,H,I,rfl,?_⟩
  rw[show its.toArray.any (eqU x)=its.any (eqU x) by simp,zdH r fs]
  exact q
theorem zar:zcl X (.builtin "len") (fun xs H Q=>∃ p ys,xs=[.ref p]∧(SqL X.K H p ys∨SqT X.K H p ys)∧Q (.int ys.length) H):=by
 intro pins s σ H xs us Q I r h
 obtain⟨p,ys,rfl,hq,q⟩:=h
 obtain⟨u,rfl,rx⟩:=zcX r
 cases rx
 have hn:=zfd
 rcases hq with hq|hq
 ·obtain⟨its,r',pl,hz⟩:=I.list hq
  have hlen:=r'.length
  exact Calls.call_len_list pl.isList (by simp only[List.size_toArray] <;> omega) ⟨.int ys.length,H,I.tok _,⟨s.toks + 1,by rw[List.size_toArray,hlen]⟩,q⟩
 ·obtain⟨its,r',pl,hz⟩:=I.tuple hq
  have hlen:=r'.length
  exact len_tuple pl (by simp only[List.size_toArray] <;> omega) ⟨.int ys.length,H,I.tok _,⟨s.toks + 1,by rw[List.size_toArray,hlen]⟩,q⟩
theorem zbA:zcl X (.builtin "len") (fun xs H Q=>∃ z,xs=[.str z]∧z.length≤sizeLine∧Q (.int z.length) H):=by
 intro pins s σ H xs us Q I r h
 obtain⟨z,rfl,hz,q⟩:=h
 obtain⟨u,rfl,t,rfl⟩:=zcX r
 have hn:=zfd
 exact len_str (by omega) ⟨.int z.length,H,I.tok _,⟨_,rfl⟩,q⟩
theorem zfk:zcl X (.type "list") (fun xs H Q=>∃ p ys,xs=[.ref p]∧(SqL X.K H p ys∨SqT X.K H p ys)∧∀ l,H l=none→Q (.ref l) (upd H l (.lst ys))):=by
 intro pins s σ H xs us Q I r h
 obtain⟨p,ys,rfl,hq,q⟩:=h
 obtain⟨u,rfl,rx⟩:=zcX r
 cases rx
 have fin:∀ (its:List Value),zaN ys its→ys.length≤sizeLine→∀ (h':Heap) (c':Nat),(∀ b o',s.heap.get? b=some o'→h'.get? b=some o') →
   h'.get? s.heap.objs.size=some { cls:=.type "list",dict:=none,data:=.seq its.toArray c',slots:=#[] }→EP X pins σ Q (.ref s.heap.objs.size) { s with heap:=h' }:=fun its r' hz h' c' kp e=>
  ⟨.ref s.heap.objs.size,_,I.laid (t':=s.toks) kp (Nat.le_refl _) (show zbf X.prog X.w _ h' _ (.lst ys) from⟨hz,its,c',r',e⟩),rfl,q _ (I.hok.fresh (Nat.le_refl _))⟩
 rcases hq with hq|hq
 ·obtain⟨its,r',pl,hz⟩:=I.list hq
  have hlen:=r'.length
  obtain⟨o,ho,hc,n,hd⟩:=pl.isList
  exact call_list_seq p (.inl rfl) ho hc hd (fun h' c' kp e=>fin its r' hz h' c' kp e) (by simp only[List.size_toArray] <;> omega)
 ·obtain⟨its,r',pl,hz⟩:=I.tuple hq
  have hlen:=r'.length
  obtain⟨o,ho,hc,n,hd⟩:=pl
  exact call_list_seq p (.inr rfl) ho hc hd (fun h' c' kp e=>fin its r' hz h' c' kp e) (by simp only[List.size_toArray] <;> omega)
def tyV (K:PySem.W.Frag) (T:String) (x:V) (H:Hp):Prop:=match x with
 | .str _=>T="str"
 | .int _=>T="int"
 | .ref p=>(T="list"∧∃ xs,SqL K H p xs)∨(T="tuple"∧∃ o,K.lookup p=some o∧o.cls=.type "tuple"∧o.dict=none) ∨
   (T="dict"∧((∃ kvs,H p=some (.dK kvs))∨∃ kvs,H p=some (.dT kvs)))∨(T="set"∧∃ S n,H p=some (.set S n))
 | _=>False
theorem zj4 {pins:List (Addr×Obj)}{σ:St}{H:Hp}{s:Shared}{T:String}{x:V}{v:Value} (I:Inv X pins σ H s) (r:za3 x v) (ty:tyV X.K T x H) :
  s.TypeIs v T∧∀ a,v=.ref a→∃ ob,s.heap.get? a=some ob∧ob.dict=none:=by
 cases x with
 | str z=>
  obtain⟨t,rfl⟩:=r
  cases (show T="str" from ty)
  exact⟨typeIs_str s z t,fun _ e=>nomatch e⟩
 | int i=>
  obtain⟨t,rfl⟩:=r
  cases (show T="int" from ty)
  exact⟨typeIs_int s i t,fun _ e=>nomatch e⟩
 | ref p=>
  cases r
  rcases ty with⟨rfl,xs,hq⟩|⟨rfl,o,hk,hc,hd⟩|⟨rfl,hk⟩|⟨rfl,S,n,hk⟩
  ·obtain⟨its,_,pl,_⟩:=I.list hq
   refine⟨pl.isList.typeIs,fun a e=>?_⟩
   cases e
   obtain⟨o,n,e,c,hd,_⟩:=pl
   exact⟨o,e,hd⟩
  ·refine⟨⟨o,I.kIn p o hk,hc⟩,fun a e=>?_⟩
   cases e
   exact⟨o,I.kIn _ o hk,hd⟩
  ·have z:∃ o,s.heap.get? p=some o∧o.ExactDict:=by
    rcases hk with⟨kvs,hk⟩|⟨kvs,hk⟩
    ·obtain⟨_,_,_,_,o,_,_,e,ex,_⟩:=I.hok p _ hk
     exact⟨o,e,ex⟩
    ·obtain⟨_,_,_,_,o,_,_,e,ex,_⟩:=I.hok p _ hk
     exact⟨o,e,ex⟩
   obtain⟨o,e,ex⟩:=z
   refine⟨⟨o,e,ex.1⟩,fun a e2=>?_⟩
   cases e2
   exact⟨o,e,ex.2.1⟩
  ·obtain⟨o,_,_,_,e,ex,_⟩:=I.hok p _ hk
   refine⟨⟨o,e,ex.1⟩,fun a e2=>?_⟩
   cases e2
   exact⟨o,e,ex.2.1⟩
 | _=>exact False.elim ty
def tBM0 (K:PySem.W.Frag) (T:String) (r:V→List V→Hp→VK→Prop) (to:TE):TE:=fun σ H Q=>to σ H fun x H1=>tyV K T x H1∧r x [] H1 Q
def tBM (K:PySem.W.Frag) (T:String) (r:V→List V→Hp→VK→Prop) (to:TE) (t:TA):TE:=fun σ H Q=>to σ H fun x H1=>tyV K T x H1∧t σ H1 fun xs H2=>r x xs H2 Q
variable {o e:Expr}{es:List Expr}{to:TE}{t:TA}{name:Str}{apos cpos:Pos}{T id:String}{r:V→List V→Hp→VK→Prop}
theorem pe_bm0 (pa:PlainAttrs T) (slot:Slot T name id) (hty:typeOf (.builtin id)=pure (.type "method_descriptor")) (hm:MtR X id r) (ho:PE X o to)
  (hbase:attributeBase o name X.env (eval o X.env)=eval o X.env:=by rfl) (hline:(apos.endLine == cpos.line)=true:=by rfl):PE X (.Call (.Attribute o name apos) [] [] cpos) (tBM0 X.K T r to):=by
 intro pins s σ H Q I h
 refine wpAny_Call_method0_late hbase hline (thn (ho pins s σ H _ I h) fun v s1=>L2.ex5 fun x H1 I1 r1 hq_=>?_)
 obtain⟨ty,q1⟩:=hq_
 obtain⟨h1,h2⟩:=zj4 I1 r1 ty
 exact⟨T,id,pa,slot,hty,h1,h2,Calls.callWith_builtin rfl (PySem.evalArgs_none (hm pins s1 σ H1 x [] v [] Q I1 r1 .nil q1))⟩
theorem zb4 (pa:PlainAttrs T) (slot:Slot T name id) (hty:typeOf (.builtin id)=pure (.type "method_descriptor")) (hm:MtR X id r) (ho:PE X o to) (ha:PA X (e::es) t)
  (hbase:attributeBase o name X.env (eval o X.env)=eval o X.env:=by rfl)
  (hfew:((backTo cpos (starEach (e::es) X.env)).all (fun x=>!x.1) && (backToKw cpos (keywordEach [] X.env)).all (fun x=>x.1.isSome)
   && decide ((e::es).length + ([]:List Keyword).length + (if ([]:List Keyword).isEmpty then 0 else 1)<30))=true:=by rfl)
  (hline:(apos.endLine == cpos.line)=true:=by rfl) (hs:starEach (e::es) X.env=(false,eval e X.env)::starEach es X.env:=by rfl) (hplain:(backTo cpos (starEach es X.env)).any (·.1)=false:=by rfl) :
  PE X (.Call (.Attribute o name apos) (e::es) [] cpos) (tBM X.K T r to t):=by
 intro pins s σ H Q I h
 refine wpAny_Call_method_late hbase hfew hline rfl (thn (ho pins s σ H _ I h) fun v s1=>L2.ex5 fun x H1 I1 r1 hq_=>?_)
 obtain⟨ty,q1⟩:=hq_
 obtain⟨h1,h2⟩:=zj4 I1 r1 ty
 refine⟨T,id,pa,slot,hty,h1,h2,?_⟩
 have hA:=ha cpos pins s1 σ H1 _ I1 q1
 rw[hs] at hA ⊢
 refine Calls.callWith_builtin (by show(false || (backTo cpos (starEach es X.env)).any (·.1))=false;rw[hplain] <;> rfl) (Calls.evalArgs_plain ?_)
 exact thn hA fun us s2=>L2.ex5 fun vs H2 I2 r2 q2=>hm pins s2 σ H2 x vs v us Q I2 r1 r2 q2
end
end L2
namespace L2
open PySem PySem.Spec PyProof.Rows
def MtM (X:Cx) (id:String) (r:V→List V→Hp→VK→Prop):Prop:=
 ∀ (pins:List (Addr×Obj)) (s:Shared) (σ:St) (H:Hp) (x:V) (xs:List V) (v:Value) (us:List Value) (Q:VK),Inv X pins σ H s→za3 x v→zaN xs us→r x xs H Q →
  wpAny (model X.prog X.w) X.A (call (.builtin id) (v::us)) (EP X pins σ Q) X.xe s
theorem zaN.one:∀ {x:V}{us:List Value},zaN [x] us→∃ u,us=[u]∧za3 x u
 | _,_,.cons r .nil=>⟨_,rfl,r⟩
section
variable {X:Cx}{pins:List (Addr×Obj)}{σ:St}{H:Hp}{s:Shared}{l b:Addr}{xs ys zs:List V}
theorem Inv.lset {its its':List Value}{n:Nat}{f:Array Value→Array Value}{t':Nat} (I:Inv X pins σ H s) (hH:H l=some (.lst xs))
  (e:s.heap.get? l=some { cls:=.type "list",data:=.seq its.toArray n }) (hf:f its.toArray=its'.toArray) (hv:zaN ys its') (hz:ys.length≤sizeLine) :
  Inv X pins σ (upd H l (.lst ys)) { s with heap:=s.heap.update l (Obj.mapSeq f),toks:=t' }:=by
 have q:=PySem.IsL.update e f
 rw[hf] at q
 refine I.write (x:=l) (e:=l) (by rw[hH];exact trivial) (.inl rfl) (fun b' u hb hu=>(Heap.get?_update_other s.heap (Obj.mapSeq f) (Ne.symm hb)).trans hu) ⟨_,q⟩ ?_
 exact⟨hz,its',_,hv,q⟩
theorem Inv.lnew {its:List Value}{t':Nat} (I:Inv X pins σ H s) (hv:zaN ys its) (hz:ys.length≤sizeLine) :
  Inv X pins σ (upd H s.heap.objs.size (.lst ys)) { s with heap:=s.heap.push { cls:=.type "list",data:=.seq its.toArray },toks:=t' }:=
 I.laid (fun _ _ q=>Heap.get?_push_of_some _ q) (Nat.le_refl _) ⟨hz,its,0,hv,Heap.get?_push_size _ rfl⟩
theorem Inv.fresh (I:Inv X pins σ H s):H s.heap.objs.size=none:=I.hok.fresh (Nat.le_refl _)
theorem Inv.lstM (I:Inv X pins σ H s) (hH:H l=some (.lst xs)):xs.length≤sizeLine∧∃ (its:List Value) (n:Nat),zaN xs its∧xs.length=its.length∧s.heap.get? l=some { cls:=.type "list",data:=.seq its.toArray n }:=by
 obtain⟨z,its,n,r,e⟩:=I.hok l _ hH
 exact⟨z,its,n,r,r.length,e⟩
theorem zjd {n:Nat} (h:n≤sizeLine):Builtin.List.listTooLong n=false:=by
 unfold Builtin.List.listTooLong
 exact decide_eq_false (by omega)
end
section
variable {X:Cx}
def zkx:V→List V→Hp→VK→Prop:=fun x vs H Q=>∃ l xs y,x=.ref l∧vs=[y]∧H l=some (.lst xs)∧xs.length<sizeLine∧Q .non (upd H l (.lst (xs++[y])))
theorem zbv:MtM X "list.append" zkx:=by
 intro pins s σ H x vs v us Q I rx rv h
 obtain⟨l,xs,y,rfl,rfl,hH,hz,q⟩:=h
 cases rx
 obtain⟨u,rfl,ru⟩:=rv.one
 obtain⟨z,its,n,r,hl,e⟩:=I.lstM hH
 refine call_meets F.slot_list_append ⟨_,e,rfl⟩ F.entry_list_append (F.args_list_append_2 _ _) (PySem.list_append l its.toArray n u (by rw[List.size_toArray];omega)) ⟨e,?_⟩
 refine⟨.non,_,I.lset (its':=its++[u]) hH e (by simp) (r.append (.cons ru .nil)) ?_,rfl,q⟩
 rw[List.length_append,List.length_singleton]
 omega
def zky:V→List V→Hp→VK→Prop:=fun x vs H Q=>∃ l b xs zs,x=.ref l∧vs=[.ref b]∧H l=some (.lst xs)∧H b=some (.lst zs)∧xs.length + zs.length≤sizeLine∧Q .non (upd H l (.lst (xs++zs)))
theorem zdI:MtM X "list.extend" zky:=by
 intro pins s σ H x vs v us Q I rx rv h
 obtain⟨l,b,xs,zs,rfl,rfl,hH,hB,hz,q⟩:=h
 cases rx
 obtain⟨u,rfl,ru⟩:=rv.one
 cases ru
 obtain⟨z,its,n,r,hl,e⟩:=I.lstM hH
 obtain⟨z2,its2,n2,r2,hl2,e2⟩:=I.lstM hB
 have hsz:its.toArray.size + its2.toArray.size≤sizeLine:=by rw[List.size_toArray,List.size_toArray];omega
 have hlong:¬ (!its.toArray.isEmpty && Builtin.List.listTooLong (its.toArray.size + its2.toArray.size))=true:=by
  rw[zjd hsz,Bool.and_false]
  exact Bool.false_ne_true
 refine call_meets F.slot_list_extend ⟨_,e,rfl⟩ F.entry_list_extend (F.args_list_extend_2 _ _)
  (AutoSeq1.list_extend_list_list_0 l its.toArray n b its2.toArray n2 hlong (by rw[List.size_toArray];omega) (by omega)) ⟨e,e2,?_⟩
 refine⟨.non,_,I.lset (its':=its++its2) hH e (by simp) (r.append r2) ?_,rfl,q⟩
 rw[List.length_append]
 omega
def rCat:R2:=fun x y H Q=>∃ l b xs zs,x=.ref l∧y=.ref b∧H l=some (.lst xs)∧H b=some (.lst zs)∧xs.length + zs.length≤sizeLine∧∀ p,H p=none→Q (.ref p) (upd H p (.lst (xs++zs)))
theorem zbb:OpR X (binaryOp .Add) rCat:=by
 intro pins s σ H x y v u Q I rx ry h
 obtain⟨l,b,xs,zs,rfl,rfl,hH,hB,hz,q⟩:=h
 cases rx
 cases ry
 obtain⟨z,its,n,r,hl,e⟩:=I.lstM hH
 obtain⟨z2,its2,n2,r2,hl2,e2⟩:=I.lstM hB
 refine PySem.P.add_list e e2 ?_ (by rw[List.size_toArray,List.size_toArray];omega)
 have ea:its.toArray++its2.toArray=(its++its2).toArray:=by simp
 rw[ea]
 exact⟨.ref _,_,I.lnew (t':=s.toks) (r.append r2) (by rw[List.length_append];omega),rfl,q _ I.fresh⟩
end
section
variable {prog:Program}{w:World}{A:Around}{E:Value→Shared→Prop}{s:Shared}
end
section
variable {X:Cx}
end
end L2
namespace L2
open PySem PySem.Spec PyProof.Rows
section
variable {κ:Type} [DecidableEq κ]
def zde (kvs:List (κ×V)) (k:κ):Option V:=(kvs.find? fun kv=>decide (kv.1=k)).map (·.2)
def zg6 (kvs:List (κ×V)) (k:κ) (v:V):List (κ×V):=
 if (kvs.any fun kv=>decide (kv.1=k))=true then kvs.map (fun kv=>if kv.1=k then(kv.1,v) else kv) else kvs++[(k,v)]
theorem za8 {p:κ×V}{r:List (κ×V)}{k:κ} (e:p.1=k):zde (p::r) k=some p.2:=by simp[zde,List.find?_cons,e]
theorem zaC {p:κ×V}{r:List (κ×V)}{k:κ} (e:¬ p.1=k):zde (p::r) k=zde r k:=by simp[zde,List.find?_cons,e]
theorem zeE (k:κ):∀ kvs:List (κ×V),(kvs.any fun kv=>decide (kv.1=k))=(zde kvs k).isSome
 | []=>rfl
 | p::r=>by
  rw[List.any_cons]
  by_cases e:p.1=k
  ·simp only[za8 e,decide_eq_true e,Bool.true_or,Option.isSome_some]
  ·rw[zaC e,decide_eq_false e,Bool.false_or];exact zeE k r
theorem zfl (k j:κ) (y:V):∀ kvs:List (κ×V),zde kvs k=none→zde (kvs++[(k,y)]) j=if j=k then some y else zde kvs j
 | [],_=>by
  by_cases e:k=j
  ·rw[if_pos e.symm];exact za8 (p:=(k,y)) e
  ·rw[if_neg (fun z=>e z.symm)];exact zaC (p:=(k,y)) e
 | p::r,hn=>by
  rw[List.cons_append]
  have hk:¬ p.1=k:=fun z=>by rw[za8 z] at hn;cases hn
  rw[zaC hk] at hn
  have ih:=zfl k j y r hn
  by_cases e:p.1=j
  ·rw[za8 e,za8 e,if_neg (fun z=>hk (e.trans z))]
  ·rw[zaC e,zaC e,ih]
theorem zdJ (kvs:List (κ×V)) (k:κ) (v:V):(zg6 kvs k v).length≤kvs.length + 1:=by
 unfold zg6
 split
 ·rw[List.length_map];omega
 ·rw[List.length_append,List.length_cons,List.length_nil];omega
theorem zgv {kvs:List (κ×V)}{k:κ} (v:V) (h:zde kvs k=none):zg6 kvs k v=kvs++[(k,v)]:=by
 unfold zg6
 rw[zeE,h]
 exact if_neg (by decide)
theorem zfR.isSome_eq {o:Option V}{u:Option Value} (r:zfR o u):o.isSome=u.isSome:=by
 cases o with
 | none=>cases u with
  | none=>rfl
  | some _=>exact(show False from r).elim
 | some _=>cases u with
  | none=>exact(show False from r).elim
  | some _=>rfl
theorem KV.val {kvs:List (κ×V)}{vs:List (κ×Value)} (r:KV kvs vs) (k:κ):zfR (zde kvs k) (valueAt vs k):=by
 unfold KV at r
 induction r with
 | nil=>exact True.intro
 | @cons p q ps qs h t ih=>
  obtain⟨h1,h2⟩:=h
  by_cases e:p.1=k
  ·have e':q.1=k:=h1.symm.trans e
   have b:valueAt (q::qs) k=some q.2:=by simp[valueAt,List.find?_cons,e']
   rw[za8 e,b];exact h2
  ·have e':¬ q.1=k:=fun z=>e (h1.trans z)
   have b:valueAt (q::qs) k=valueAt qs k:=by simp[valueAt,List.find?_cons,e']
   rw[zaC e,b];exact ih
theorem KV.any {kvs:List (κ×V)}{vs:List (κ×Value)} (r:KV kvs vs) (k:κ):(kvs.any fun kv=>decide (kv.1=k))=vs.any fun kv=>decide (kv.1=k):=by
 unfold KV at r
 induction r with
 | nil=>rfl
 | cons h t ih=>rw[List.any_cons,List.any_cons,ih,h.1]
theorem KV.repl {kvs:List (κ×V)}{vs:List (κ×Value)} (r:KV kvs vs) (k:κ){y:V}{u:Value} (ry:za3 y u) :
  KV (kvs.map fun kv=>if kv.1=k then(kv.1,y) else kv) (vs.map fun kv=>if kv.1=k then(kv.1,u) else kv):=by
 unfold KV at r ⊢
 induction r with
 | nil=>exact .nil
 | @cons p q ps qs h t ih=>
  rw[List.map_cons,List.map_cons]
  refine .cons ?_ ih
  obtain⟨h1,h2⟩:=h
  by_cases e:p.1=k
  ·rw[if_pos e,if_pos (h1.symm.trans e)];exact⟨h1,ry⟩
  ·rw[if_neg e,if_neg (fun z=>e (h1.trans z))];exact⟨h1,h2⟩
theorem KV.put {kvs:List (κ×V)}{vs:List (κ×Value)} (r:KV kvs vs) (k:κ){y:V}{u:Value} (ry:za3 y u):KV (zg6 kvs k y) (stored vs k u):=by
 unfold zg6 stored
 rw[r.any k]
 by_cases e:(vs.any fun kv=>decide (kv.1=k))=true
 ·rw[if_pos e,if_pos e];exact r.repl k ry
 ·rw[if_neg e,if_neg e];exact Paired.snoc r ⟨rfl,ry⟩
theorem KV.length {kvs:List (κ×V)}{vs:List (κ×Value)} (r:KV kvs vs):kvs.length=vs.length:=Paired.length r
end
theorem zhN {P:Program}{w:World}{k:Key}{u:Value} (r:za3 (kV k) u):(zaI P w).is k u=true:=by
 cases k with
 | inl i=>obtain⟨t,e⟩:=(show ∃ t,u=Value.int i t from r);subst e;exact zfU P w i t
 | inr x=>obtain⟨t,e⟩:=(show ∃ t,u=Value.str x t from r);subst e;exact zfV P w x t
theorem zfm {P:Program}{w:World}:∀ {ks:List Key}{us:List Value},zaN (ks.map kV) us→ItemsAre (zaI P w) ks us
 | [],_,r=>by rw[List.map_nil] at r;cases r;exact .nil
 | k::ks,_,r=>by
  rw[List.map_cons] at r
  cases r with
  | cons h t=>exact .cons (zhN h) (zfm t)
abbrev KT (H:Hp):List (List Key×V)→List (List Key×Addr×Value)→Prop:=Paired fun p q=>p.1=q.1∧H q.2.1=some (.tup (p.1.map kV))∧za3 p.2 q.2.2
theorem KT.val {H:Hp}{kvs:List (List Key×V)}{xs:List (List Key×Addr×Value)} (r:KT H kvs xs) (k:List Key):zfR (zde kvs k) ((atKey xs k).map (·.2)):=by
 induction r with
 | nil=>exact True.intro
 | @cons p q ps qs h t ih=>
  obtain⟨h1,_,h2⟩:=h
  by_cases e:p.1=k
  ·have e':q.1=k:=h1.symm.trans e
   have b:atKey (q::qs) k=some q.2:=by simp[atKey,List.find?_cons,e']
   rw[za8 e,b];exact h2
  ·have e':¬ q.1=k:=fun z=>e (h1.trans z)
   have b:atKey (q::qs) k=atKey qs k:=by simp[atKey,List.find?_cons,e']
   rw[zaC e,b];exact ih
theorem KT.repl {H:Hp}{kvs:List (List Key×V)}{xs:List (List Key×Addr×Value)} (r:KT H kvs xs) (k:List Key){y:V}{u:Value} (ry:za3 y u) :
  KT H (kvs.map fun kv=>if kv.1=k then(kv.1,y) else kv) (xs.map (putAt k u)):=by
 induction r with
 | nil=>exact .nil
 | @cons p q ps qs h t ih=>
  rw[List.map_cons,List.map_cons]
  refine .cons ?_ ih
  obtain⟨h1,h2,h3⟩:=h
  unfold putAt
  by_cases e:p.1=k
  ·rw[if_pos e,if_pos (h1.symm.trans e)];exact⟨h1,h2,ry⟩
  ·rw[if_neg e,if_neg (fun z=>e (h1.trans z))];exact⟨h1,h2,h3⟩
theorem KT.put {H:Hp}{kvs:List (List Key×V)}{xs:List (List Key×Addr×Value)} (r:KT H kvs xs) (k:List Key){b:Addr}{y:V}{u:Value} (hb:H b=some (.tup (k.map kV))) (ry:za3 y u) :
  KT H (zg6 kvs k y) (storedH xs k b u):=by
 have e:(kvs.any fun kv=>decide (kv.1=k))=(atKey xs k).isSome:=by
  rw[zeE,(r.val k).isSome_eq,Option.isSome_map]
 unfold zg6 storedH
 rw[e]
 by_cases q:(atKey xs k).isSome=true
 ·rw[if_pos q,if_pos q];exact r.repl k ry
 ·rw[if_neg q,if_neg q];exact Paired.snoc r ⟨rfl,hb,ry⟩
theorem KT.keeps {H H':Hp}{kvs:List (List Key×V)}{xs:List (List Key×Addr×Value)} (r:KT H kvs xs) (ht:∀ b ys,H b=some (.tup ys)→H' b=some (.tup ys)):KT H' kvs xs:=
 Paired.mapP r fun _ _ z=>⟨z.1,ht _ _ z.2.1,z.2.2⟩
section
variable {P:Program}{w:World}{H:Hp}{h:Heap}{a:Addr}
theorem rd_of {u:HO} (ok:HOk P w H h) (e:Rd H a u):zbf P w H h a u:=e.ok ok
theorem zkz {kvs:List (Key×V)} (ok:HOk P w H h) (e:Rd H a (.dK kvs)):kvs.length≤sizeLine∧(a == sysModules)=false∧∃ vs,KV kvs vs∧h.DictOf (zaI P w) a vs:=
 show zbf P w H h a (.dK kvs) from rd_of ok e
theorem zje {kvs:List (Key×V)} (ok:HOk P w H h) (e:H a=some (.dK kvs)):kvs.length≤sizeLine∧(a == sysModules)=false∧∃ vs,KV kvs vs∧h.DictOf (zaI P w) a vs:=zkz ok (.inl e)
theorem zhO {ks:List Key} (ok:HOk P w H h) (e:H a=some (.tup (ks.map kV))):(tupleKind (zaI P w)).is h ks a:=by
 obtain⟨_,its,r,o,h1,h2,n,h3⟩:=(show zbf P w H h a (.tup (ks.map kV)) from ok a _ e)
 exact⟨o,its.toArray,n,h1,h2,h3,by simpa using zfm r⟩
theorem dt_rd {kvs:List (List Key×V)} (ok:HOk P w H h) (e:Rd H a (.dT kvs)):kvs.length≤sizeLine∧(a == sysModules)=false ∧
  ∃ xs,KT H kvs xs∧h.DictOfH (tupleKind (zaI P w)) a xs:=by
 obtain⟨z,y,xs,r,o,es,ep,h1,h2,h3,h4,h5⟩:=(show zbf P w H h a (.dT kvs) from rd_of ok e)
 refine⟨z,y,xs,r,o,es,ep,h1,h2,h3,h4,fun x hx=>?_,h5⟩
 have all:∀ {l:List (List Key×V)}{m:List (List Key×Addr×Value)},KT H l m→∀ x∈m,(tupleKind (zaI P w)).is h x.1 x.2.1:=by
  intro l m q
  induction q with
  | nil=>intro x hx;exact nomatch hx
  | @cons p q ps qs hq t ih=>
   intro x hx
   rcases List.mem_cons.mp hx with e|hx
   ·subst e
    exact zhO ok (by rw[← hq.1];exact hq.2.1)
   ·exact ih x hx
 exact all r x hx
theorem dt_of {kvs:List (List Key×V)} (ok:HOk P w H h) (e:H a=some (.dT kvs)):kvs.length≤sizeLine∧(a == sysModules)=false ∧
  ∃ xs,KT H kvs xs∧h.DictOfH (tupleKind (zaI P w)) a xs:=dt_rd ok (.inl e)
end
def DGet (H:Hp) (a:Addr) (y:V) (r:Option V):Prop:=
 (∃ kvs k,Rd H a (.dK kvs)∧y=kV k∧r=zde kvs k)∨∃ kvs k b,Rd H a (.dT kvs)∧y=.ref b∧H b=some (.tup (k.map kV))∧r=zde kvs k
def zlH (H:Hp) (a:Addr) (y v:V) (H':Hp):Prop:=
 (∃ kvs k,H a=some (.dK kvs)∧y=kV k∧kvs.length<sizeLine∧H'=upd H a (.dK (zg6 kvs k v))) ∨
 ∃ kvs k b,H a=some (.dT kvs)∧y=.ref b∧H b=some (.tup (k.map kV))∧kvs.length<sizeLine∧H'=upd H a (.dT (zg6 kvs k v))
theorem DGet.k {H:Hp}{a:Addr}{kvs:List (Key×V)}{k:Key} (e:H a=some (.dK kvs)):DGet H a (kV k) (zde kvs k):=.inl ⟨kvs,k,.inl e,rfl,rfl⟩
theorem zlH.k {H:Hp}{a:Addr}{kvs:List (Key×V)}{k:Key}{v:V} (e:H a=some (.dK kvs)) (hl:kvs.length<sizeLine):zlH H a (kV k) v (upd H a (.dK (zg6 kvs k v))):=.inl ⟨kvs,k,e,rfl,hl,rfl⟩
section
variable {X:Cx}{pins:List (Addr×Obj)}{σ:St}{H:Hp}{s:Shared}{a:Addr}{y v:V}{u r:Value}{o:Option V}{A:Around}{E:Value→Shared→Prop}
theorem Inv.big (I:Inv X pins σ H s):sysModules<s.heap.objs.size:=by
 have h:mainGlobals<s.heap.objs.size:=(I.mod.glob.keeps I.bk).lt
 exact Nat.lt_trans (by decide) h
theorem d_in {Q:Value→Shared→Prop} (hu:A.units + 1<cLine) (I:Inv X pins σ H s) (g:DGet H a y o) (ry:za3 y u) (h:∀ s',Inv X pins σ H s'→Q (.bool o.isSome) s') :
  wpAny (model X.prog X.w) A (compareOp .In u (.ref a)) Q E s:=by
 rcases g with⟨kvs,k,e,ey,l⟩|⟨kvs,k,b,e,ey,eb,l⟩
 ·subst ey
  obtain⟨z,hd,vs,rel,dd⟩:=zkz I.hok e
  refine wpAny_in_of (zhN ry) hd dd.mapOf ?_
  rw[← (rel.val k).isSome_eq,← l]
  exact h _ (I.tok _)
 ·subst ey
  cases (show u=Value.ref b from ry)
  obtain⟨z,hd,xs,rel,dd⟩:=dt_rd I.hok e
  refine wpAny_in_heap (tupleKind_room_in1 hu) (zhO I.hok eb) hd dd ?_
  have q:=(rel.val k).isSome_eq
  rw[Option.isSome_map] at q
  rw[← q,← l]
  exact h _ (I.tok _)
theorem zhP {h':Heap}{t':Nat}{ob:HO} (I:Inv X pins σ H s) (mu:Mut (H a)) (hs:Heap.SameBut a s.heap h') (he:∃ q,h'.get? a=some q) (new:zbf X.prog X.w (upd H a ob) h' a ob) :
  Inv X pins σ (upd H a ob) { s with heap:=h',toks:=t' }:=
 I.write (x:=a) (e:=a) mu (.inl rfl) (fun b q hb z=>(hs.2 b hb).trans z) he new
theorem dk_new {P:Program}{w:World}{H':Hp}{h':Heap}{kvs:List (Key×V)}{vs:List (Key×Value)} (z:kvs.length≤sizeLine) (hd:(a == sysModules)=false) (rel:KV kvs vs) (dd:h'.DictOf (zaI P w) a vs) :
  zbf P w H' h' a (.dK kvs):=⟨z,hd,vs,rel,dd⟩
theorem zhQ {H':Hp}{Q:Unit→Shared→Prop} (hu:A.units + 1<cLine) (I:Inv X pins σ H s) (g:zlH H a y v H') (ry:za3 y u) (rv:za3 v r) (h:∀ s',Inv X pins σ H' s'→Q () s') :
  wpAny (model X.prog X.w) A (setItem (.ref a) u r) Q E s:=by
 rcases g with⟨kvs,k,e,ey,l,eH⟩|⟨kvs,k,b,e,ey,eb,l,eH⟩
 ·subst ey eH
  obtain⟨z,hd,vs,rel,dd⟩:=zje I.hok e
  have hz:vs.length≤sizeLine:=by rw[← rel.length];exact z
  have hl:(zg6 kvs k v).length≤sizeLine:=by have:=zdJ kvs k v;omega
  refine wpAny_setItem_pairs (hsz:=hz) (zhN ry) dd fun h' dd' hs=>h _ ?_
  have he:∃ q,h'.get? a=some q:=let ⟨q,_,_,hq,_⟩:=dd';⟨q,hq⟩
  exact zhP I (by rw[e];exact True.intro) hs he (dk_new hl hd (rel.put k rv) dd')
 ·subst ey eH
  cases (show u=Value.ref b from ry)
  obtain⟨z,hd,xs,rel,dd⟩:=dt_of I.hok e
  have hz:xs.length≤sizeLine:=by rw[← Paired.length rel];exact z
  have hl:(zg6 kvs k v).length≤sizeLine:=by have:=zdJ kvs k v;omega
  refine wpAny_setItem_heap (hsz:=hz) (tupleKind_room_in1 hu) (zhO I.hok eb) dd fun h' dd' hs=>h _ ?_
  obtain⟨q,es,ep,hq,h2,h3,h4,_,h5⟩:=dd'
  refine zhP I (by rw[e];exact True.intro) hs ⟨q,hq⟩ ⟨hl,hd,_,(rel.put k eb rv).keeps fun c ys ec=>?_,q,es,ep,hq,h2,h3,h4,h5⟩
  rw[zaf (zb8 ec e (fun z=>nomatch z))]
  exact ec
end
section
variable {X:Cx}{pins:List (Addr×Obj)}{σ:St}{H:Hp}{s:Shared}{a:Addr}{kvs:List (Key×V)}{k:Key}{u:Value}{A:Around}{E:Value→Shared→Prop}
theorem d_len {Q:Value→Shared→Prop} (I:Inv X pins σ H s) (e:Rd H a (.dK kvs)) (h:∀ t s',Inv X pins σ H s'→Q (.int kvs.length t) s'):wpAny (model X.prog X.w) A (call (.builtin "len") [.ref a]) Q E s:=by
 obtain⟨z,hd,vs,rel,dd⟩:=zkz I.hok e
 refine call_len_dict hd dd (by rw[← rel.length];rw[sizeLine_eq] at z;omega) ?_
 rw[← rel.length]
 exact h _ _ (I.tok _)
end
def NoSl (i:Expr):Prop:=∀ ov iv,subscripted i false ov iv=operate [ov,iv] (getItem ov iv)
theorem zkA {prog:Program}{w:World}{A:Around}{E:Value→Shared→Prop}{s:Shared}{env:Env}{value slice:Expr}{pos:Pos}{T id:String}{Q:Value→Shared→Prop}
  (hl:typeLookup (.type T) "__getitem__"=pure (some (.builtin id))) (hs:NoSl slice)
  (h:wpAny (model prog w) A (eval value env) (fun o s₁=>wpAny (model prog w) A (eval slice env) (fun i s₂=>s₂.TypeIs o T∧wpAny (model prog w) A (getItem o i) Q E s₂) E s₁) E s) :
  wpAny (model prog w) A (eval (.Subscript value slice pos) env) Q E s:=by
 refine Subscript_ (wpAny_mono h (fun o s₁ h₁=>wpAny_mono h₁ (fun i s₂ h₂=>?_) fun _ _ x=>x) fun _ _ x=>x)
 obtain⟨hT,h₂⟩:=h₂
 unfold subscriptTail
 refine wpAny_bind ?_
 rw[getitemInPython_of_ne hT.not_modules]
 refine wpAny_bind (wpAny_specialOf hT hl ?_)
 have fin:wpAny (model prog w) A (subscripted slice false o i) (fun r s₃=>wpAny (model prog w) A (letTemporaryGo value o r >>= fun _=>pure r) Q E s₃) E s₂:=by
  rw[hs o i]
  exact wpAny_operating (wpAny_mono h₂ (fun r s₃ h₃=>wpAny_bind (wpAny_letTemporaryGo (wpAny_pure h₃))) fun _ _ x=>x)
 first
  | exact wpAny_pure (wpAny_bind fin)
  | exact wpAny_bind (wpAny_pure (wpAny_bind fin))
  | exact wpAny_bind fin
def tDIn (ty td:TE):TE:=fun σ H Q=>ty σ H fun y H1=>td σ H1 fun x H2=>∃ a o,x=.ref a∧DGet H2 a y o∧Q (.bl o.isSome) H2
def sDPut (td ty tv:TE):TS:=fun D σ H=>tv σ H fun v H1=>td σ H1 fun x H2=>ty σ H2 fun y H3=>∃ a H4,x=.ref a∧zlH H3 a y v H4∧D.nx σ H4
section
variable {X:Cx}{o i e value:Expr}{pos pos' tpos:Pos}{td ty tv:TE}
theorem pc_din (hu:X.A.units + 1<cLine) (hi:PE X i ty) (ho:PE X o td):PC X .In i o (tDIn ty td):=by
 intro pins s σ H Q I h
 refine thn (hi pins s σ H _ I h) fun iv s1=>L2.ex5 fun y H1 I1 ry q1=>thn (ho pins s1 σ H1 _ I1 q1) fun u s2=>L2.ex5 fun x H2 I2 rx hq_=>?_
 obtain⟨a,ov,ex,g,q2⟩:=hq_
 subst ex
 obtain rfl:u=Value.ref a:=rx
 exact d_in hu I2 g ry fun s3 I3=>⟨.bl ov.isSome,H2,I3,rfl,q2⟩
theorem zhR (hu:X.A.units + 1<cLine) (ho:PE X o td) (hi:PE X i ty) (hv:PE X value tv) (hs:swapsWith value (some (.Subscript o i pos')) pos.line X.env=pure false) :
  PS X (.Assign [.Subscript o i pos'] value pos) (sDPut td ty tv):=by
 intro pins s σ H D I h
 refine wpAny_Assign_Subscript (thn (hv pins s σ H _ I h) fun r s1=>L2.ex5 fun v H1 I1 rv q1=>thn (ho pins s1 σ H1 _ I1 q1) fun u s2=>L2.ex5 fun x H2 I2 rx q2=>thn (hi pins s2 σ H2 _ I2 q2) fun iv s3=>L2.ex5 fun y H3 I3 ry hq_=>?_) hs
 obtain⟨a,H4,ex,g,q3⟩:=hq_
 subst ex
 obtain rfl:u=Value.ref a:=rx
 exact zhQ hu I3 g ry rv fun s4 I4=>⟨σ,H4,I4,q3⟩
end
theorem zjf {P:Program}{w:World}{H:Hp} (h:Heap) (hb:sysModules<h.objs.size):zbf P w H (h.push { cls:=.type "dict",data:=.dict #[] }) h.objs.size (.dK []):=
 ⟨Nat.zero_le _,beq_eq_false_iff_ne.mpr (Ne.symm (Nat.ne_of_lt hb)),[],.nil,Heap.DictOf.new h⟩
def tDNewK:TE:=fun _ H Q=>∀ p,H p=none→Q (.ref p) (upd H p (.dK []))
section
variable {X:Cx}{pos:Pos}
theorem zgw:PE X (.Dict [] [] pos) tDNewK:=fun pins s σ H Q I h=>
 wpAny_Dict_empty ⟨.ref s.heap.objs.size,_,I.laid (a:=s.heap.objs.size) (o:=.dK []) (t':=s.toks) (fun _ _ q=>Heap.get?_push_of_some _ q) (Nat.le_refl _) (zjf s.heap I.big),rfl,h _ (I.hok.fresh (Nat.le_refl _))⟩
end
structure M1 (X:Cx) (o:Expr) (m:Str) (apos:Pos) (e:Expr) (cpos:Pos):Prop where
 base:attributeBase o m X.env (eval o X.env)=eval o X.env
 few:((backTo cpos (starEach [e] X.env)).all (fun x=>!x.1) && (backToKw cpos (keywordEach [] X.env)).all (fun x=>x.1.isSome)
  && decide (([e]:List Expr).length + ([]:List Keyword).length + (if ([]:List Keyword).isEmpty then 0 else 1)<30))=true
 line:(apos.endLine == cpos.line)=true
 trees:backTo cpos (starEach [e] X.env)=[(false,eval e X.env)]
structure M2 (X:Cx) (o:Expr) (m:Str) (apos:Pos) (e f:Expr) (cpos:Pos):Prop where
 base:attributeBase o m X.env (eval o X.env)=eval o X.env
 few:((backTo cpos (starEach [e,f] X.env)).all (fun x=>!x.1) && (backToKw cpos (keywordEach [] X.env)).all (fun x=>x.1.isSome)
  && decide (([e,f]:List Expr).length + ([]:List Keyword).length + (if ([]:List Keyword).isEmpty then 0 else 1)<30))=true
 line:(apos.endLine == cpos.line)=true
 trees:backTo cpos (starEach [e,f] X.env)=[(false,eval e X.env),(false,eval f X.env)]
section
variable {X:Cx}{pins:List (Addr×Obj)}{σ:St}{H:Hp}{s:Shared}{a:Addr}{y d:V}{u r:Value}{o:Option V}{A:Around}{E:Value→Shared→Prop}
end
section
variable {X:Cx}{o e f:Expr}{apos cpos:Pos}{td ty tx:TE}
end
section
variable {X:Cx}{pins:List (Addr×Obj)}{σ:St}{H:Hp}{s:Shared}{a:Addr}{kvs:List (Key×V)}{A:Around}{E:Value→Shared→Prop}
end
section
variable {X:Cx}{pins:List (Addr×Obj)}{σ:St}{H:Hp}{s:Shared}{a:Addr}{y:V}{u:Value}{A:Around}{E:Value→Shared→Prop}
end
end L2
namespace Att
open PySem PySem.W PySem.Calls PyProof.Rows
theorem zdK {P:Params}{h:Heap}:∀ (ns:List Int) (vs:List Value),WellAll P h vs (ns.map WData.int)→IntsAre vs ns:=by
 intro ns
 induction ns with
 | nil=>
  intro vs w
  rw[List.map_nil] at w
  cases w
  exact .nil
 | cons n ns ih=>
  intro vs w
  rw[List.map_cons] at w
  cases w with
  | cons a b=>
   cases a
   exact .cons _ _ (ih _ b)
theorem zhS {l:OpenLaw}{n:Nat} (hn:l.most=some n){P:Params}{h:Heap}{args:List WData}{vals:List Value}
  (hpre:l.row.toRowW.claim.pre args=true) (hwl:WellAll P h vals args) :
  ∃ a vs ns,vals=[Value.ref a]∧args=[WData.list (ns.map WData.int)]∧h.get? a=some { cls:=.type "list",data:=.seq vs.toArray }∧IntsAre vs ns∧ns.length≤n:=by
 have hsh:WShape.hasAll [] args [.list .int]=true:=(pre_splitW hpre).1
 have hc:l.pre.holds [] { args:=args }=true:=(pre_splitW hpre).2
 obtain⟨d,r,rfl,h1,h2⟩:=hasAllW_cons hsh
 obtain rfl:=hasAllW_nil h2
 obtain⟨xs,rfl,h3⟩:=hasW_list h1
 obtain⟨ns,rfl⟩:=items_int h3
 have hlen:ns.length≤n:=by
  unfold OpenLaw.pre at hc
  have h4:(WTm.not (.lt (.lit (.int (n:Int))) (.len (.arg 0)))).holds [] { args:=[.list (ns.map .int)] }=true:=by
   have h4:=(holds_andW hc).1
   rw[hn] at h4
   exact h4
  have h5:=condW_of h4 (w_not (w_lt w_lit (w_len_list (w_arg rfl))))
  rw[List.length_map] at h5
  refine Nat.le_of_not_lt fun q=>?_
  have q':(n:Int)<((ns.length:Nat):Int):=by omega
  first
   | (rw[decide_eq_true q'] at h5;exact absurd h5 (by decide))
   | (simp at h5;omega)
 cases hwl with
 | cons w1 w2=>
  cases w2
  cases w1 with
  | list ho hall=>exact⟨_,_,ns,rfl,rfl,ho,zdK ns _ hall,hlen⟩
theorem zhT (l:OpenLaw) (args:List WData):l.row.toRowW.claim.post args (.bool true) args=true:=
 postW_of (r:=l.row.toRowW) (X:=(true == true))
  (show WShape.has [] (.bool true) .bool=true by first|rfl|decide|simp[WShape.has,WShape.arms,WShape.armsAll])
  (show(WTm.eq .res (.lit (.bool true))).value [] { args:=args,res:=some (.bool true),after:=args }=some (.bool (true == true)) from w_eq_bool (w_res rfl) w_lit) rfl
theorem zf0 {l:OpenLaw}{n:Nat}{q:Program}{loose:List Str}{XP:(Str→Option Value)→Heap→Prop}{YP:World→Heap→Prop}{d:DefRec}
  (hn:l.most=some n) (hdf:d.params.defaults=[])
  (call:∀ (w:World) (s₀ s₁:Shared) (mg mb:Str→Option Value) (fa:Addr) (o:Obj) (pm cd doc:Value) (a:Addr) (vs:List Value) (ns:List Int),
   Ground q loose [] XP w s₀ mg mb s₁.heap→YP w s₁.heap →
   s₁.heap.get? fa=some o→o.data=.func (docDef d.name d.params d.body d.scope pm cd doc)→s₁.heap.CodeRec cd d.name→mg d.name=some (.ref fa) →
   s₁.heap.get? a=some { cls:=.type "list",data:=.seq vs.toArray }→IntsAre vs ns→ns.length≤n→s₁.gens=#[] →
   codeAny (model l.prog w) callerA (.call (.ref fa) ⟨[.ref a],[]⟩) (fun r s'=>r=.ok (.ret (.bool true))∧OldK s₁.heap s'.heap∧s'.os=s₁.os∧AllBare s'.gens) s₁) :
  WalkO q loose XP YP l.row.toRowW d [] (fun f vs=>PySem.call f vs):=by
 intro w s₀ s₁ mg mb G Y fa o pm cd doc dV kV ho hd hcd hD hmg hg args vals as hpre hlay hrd hwl hlo
 obtain rfl:dV=.none:=Dflts.none hD hdf
 obtain rfl:kV=.none:=Dflts.noKw hD
 obtain⟨a,vs,ns,rfl,rfl,hobj,hints,hlen⟩:=zhS hn hpre hwl
 refine enter_call (codeAny_mono (call w s₀ s₁ mg mb fa o pm cd doc a vs ns G Y ho (fd_plain hd) hcd hmg hobj hints hlen hg) fun r s' hq=>?_)
 obtain⟨rfl,h2,h3,h4⟩:=hq
 exact⟨.inl ⟨.bool true,.bool true,[],rfl,fun _=>rfl,.bool true,zhT l _,fun _=>⟨List.Pairwise.nil,fun _ hm=>(nomatch hm)⟩⟩,h2,h3,h4⟩
section
variable {prog:Program}{w:World}{A:Around}{E:Value→Shared→Prop}{s:Shared}{K:Frag}
end
end Att
namespace L2
open PySem PySem.Spec PyProof.Rows
theorem zfn:∀ {vs:List Value}{ns:List Int},IntsAre vs ns→zaN (ns.map V.int) vs
 | _,_,.nil=>.nil
 | _,_,.cons n t h=>.cons ⟨t,rfl⟩ (zfn h)
end L2
namespace L2
open PySem PySem.Spec PyProof.Rows
end L2
namespace L2
open PySem PySem.Spec PyProof.Rows
def zbd (s:Stmt) (j:Nat):Stmt:=match s with
 | .ClassDef _ _ _ body _ _ _ _ _ _ _=>body.getD j (.Pass ⟨0,0,0,0⟩)
 | _=>.Pass ⟨0,0,0,0⟩
def zcx (s:Stmt):Arguments:=match s with
 | .FunctionDef _ a _ _ _ _ _ _ _ _=>a
 | _=>{ posonlyargs:=[],args:=[],vararg:=none,kwonlyargs:=[],kw_defaults:=[],kwarg:=none,defaults:=[] }
def zbR (s:Stmt):List Stmt:=match s with
 | .FunctionDef _ _ b _ _ _ _ _ _ _=>b
 | _=>[]
def zah (s:Stmt):Scope:=match s with
 | .FunctionDef _ _ _ _ _ _ sc _ _ _=>sc
 | _=>{ kind:=.function,names:=[],isGenerator:=false,isCoroutine:=false }
abbrev CX0:CXT:=fun _ _ _ _ _ _=>False
abbrev E0:XK:=fun _ _ _=>False
theorem zkB {X:Cx}:zdc CX0 X E0:=fun _ _ _ _ _ _ _ h=>h.elim
structure Fun (K:PySem.W.Frag) (x qual:Str) (st:Stmt) (f:Addr) (fd:FuncData):Prop where
 ex:∃ (oc:Value) (od:Option Addr) (kV doc pm:Value) (an:Option Addr) (cdv ct:Value) (osl:Array (Option Value)),
  fd=PySem.W.fnOf x qual (zcx st) (zbR st) (zah st) .none kV doc pm an cdv ct∧K.lookup f=some ⟨oc,od,.func fd,osl⟩∧PySem.W.codeIn K cdv qual=true
 kp:PySem.W.keepIn K (.ref f)=true
section
variable {P:Program}{w:World}{K:PySem.W.Frag}{mg:Str→Option Value}{base:Heap}
end
theorem zkC {A:Around}{k:Nat} (hr:zbQ k A):A.units + 1<cLine:=Nat.lt_of_le_of_lt (Nat.add_le_add_left (by decide:1≤64) _) hr.units
section
variable {X:Cx}
theorem pv (i:Nat){x:Str}{pos:Pos} (hN:X.N[i]?=some x:=by rfl) (hv:Vis X.env.scope x:=by first|exact Or.inl rfl|exact Or.inr (Or.inl rfl)|exact Or.inr (Or.inr rfl)) (hd:(x == ("__debug__":Str))=false:=by decide)
  (hcd:(x == ("__classdict__":Str))=false:=by decide):PE X (.Name x pos) (tVar i):=pe_var hN hv hd hcd
theorem zfo:zcl X (.builtin "len") (fun xs H Q=>∃ a kvs,xs=[V.ref a]∧H a=some (.dK kvs)∧Q (.int kvs.length) H):=by
 intro pins s σ H xs us Q I r h
 obtain⟨a,kvs,rfl,ha,q⟩:=h
 obtain⟨u,rfl,ru⟩:=zcX r
 cases ru
 exact d_len I (.inl ha) fun t s' I'=>⟨.int kvs.length,H,I',⟨t,rfl⟩,q⟩
end
theorem zjg {A B:Prop} (h:B):if false=true then A else B:=by
 rw[if_neg Bool.false_ne_true]
 exact h
theorem zgx {A B:Prop} (h:A):if true=true then A else B:=by
 rw[if_pos rfl]
 exact h
def zan (H H':Hp):Prop:=∀ b o,H b=some o→H' b=some o
theorem zan.refl (H:Hp):zan H H:=fun _ _ h=>h
theorem zan.trans {H H1 H2:Hp} (a:zan H H1) (b:zan H1 H2):zan H H2:=fun c o h=>b c o (a c o h)
theorem zan.seq {K:PySem.W.Frag}{H H':Hp}{a:Addr}{xs:List V} (e:zan H H') (h:SqL K H a xs):SqL K H' a xs:=by
 rcases h with(h|⟨o,h⟩)|h
 ·exact .inl (.inl (e _ _ h))
 ·exact .inl (.inr ⟨o,e _ _ h⟩)
 ·exact .inr h
section
variable {κ:Type} [DecidableEq κ]
end
end L2
namespace L2
open PySem PySem.Spec PyProof.Rows
def zcm (cells:List (Str×Addr)):List (Str×NameKind)→List (Str×Addr)→List (Str×Addr)
 | [],acc=>acc
 | (n,k)::r,acc=>zcm cells r (if (k == NameKind.free)=true then(n,(cells.lookup n).getD 0)::acc else acc)
theorem zcc {scope:Scope}{env:Env} (h:∀ y∈scope.names,y.2=.free→(env.cells.lookup y.1).isSome=true) :
  closureFor scope env=pure (zcm env.cells scope.names []):=by
 simp only[closureFor]
 generalize scope.names=l at h ⊢
 generalize ([]:List (Str×Addr))=acc
 induction l generalizing acc with
 | nil=>rfl
 | cons x r ih=>
  obtain⟨n,k⟩:=x
  have hr:=fun y hy=>h y (List.mem_cons_of_mem _ hy)
  by_cases hk:k=.free
  ·subst hk
   obtain⟨c,hc⟩:=Option.isSome_iff_exists.mp (h (n,.free) List.mem_cons_self rfl)
   have ih':=ih hr ((n,c)::acc)
   simp only[List.forIn_cons,cellOf,hc,zcm,beq_self_eq_true,if_true,Option.getD_some] at ih' ⊢
   exact ih'
  ·have hb:(k == NameKind.free)=false:=by simpa using hk
   have ih':=ih hr acc
   simp only[List.forIn_cons,zcm,hb,Bool.false_eq_true,if_false] at ih' ⊢
   exact ih'
theorem zdv {cells:List (Str×Addr)}{x:Str}{c:Addr}:∀ {l:List (Str×NameKind)}{acc:List (Str×Addr)},(∀ y∈l,y.2=.free→(cells.lookup y.1).isSome=true) →
  (zcm cells l acc).lookup x=some c→acc.lookup x=some c∨cells.lookup x=some c
 | [],_,_,h=>.inl h
 | (n,k)::r,acc,hf,h=>by
  have hr:∀ y∈r,y.2=.free→(cells.lookup y.1).isSome=true:=fun y hy=>hf y (List.mem_cons_of_mem _ hy)
  by_cases hk:k=.free
  ·subst hk
   rcases zdv (l:=r) hr (show(zcm cells r ((n,(cells.lookup n).getD 0)::acc)).lookup x=some c from h) with q|q
   ·rw[List.lookup_cons] at q
    by_cases hx:x=n
    ·subst hx
     rw[beq_self_eq_true] at q
     obtain⟨c',hc⟩:=Option.isSome_iff_exists.mp (hf (x,.free) List.mem_cons_self rfl)
     have hc:cells.lookup x=some c':=hc
     rw[hc] at q ⊢
     exact .inr q
    ·rw[beq_eq_false_iff_ne.mpr hx] at q
     exact .inl q
   ·exact .inr q
  ·have hb:¬ (k == NameKind.free)=true:=by simpa using hk
   have h':(zcm cells r (if (k == NameKind.free)=true then(n,(cells.lookup n).getD 0)::acc else acc)).lookup x=some c:=h
   rw[if_neg hb] at h'
   exact zdv hr h'
theorem zdL {cells:List (Str×Addr)}{x:Str}:∀ {l:List (Str×NameKind)}{acc:List (Str×Addr)},((x,NameKind.free)∈l∨(acc.lookup x).isSome=true)→((zcm cells l acc).lookup x).isSome=true
 | [],_,h=>by
  rcases h with h|h
  ·cases h
  ·exact h
 | (n,k)::r,acc,h=>by
  show((zcm cells r (if (k == NameKind.free)=true then(n,(cells.lookup n).getD 0)::acc else acc)).lookup x).isSome=true
  refine zdL ?_
  rcases h with h|h
  ·rcases List.mem_cons.mp h with e|e
   ·cases e
    right
    rw[if_pos (by rfl),List.lookup_cons,beq_self_eq_true]
    rfl
   ·exact .inl e
  ·right
   by_cases hb:(k == NameKind.free)=true
   ·rw[if_pos hb,List.lookup_cons]
    cases hx:x == n with
    | true=>rfl
    | false=>exact h
   ·rw[if_neg hb]
    exact h
theorem zdM (c:Bool){n x:Str}{k:NameKind}{r:List (Str×NameKind)} (hx:(x == n)=true):((if c=true then(n,NameKind.cell) else(n,k))::r).lookup x=some (if c=true then .cell else k):=by
 cases c <;> simp[List.lookup_cons,hx]
theorem zfp (c:Bool){n x:Str}{k:NameKind}{r:List (Str×NameKind)} (hx:(x == n)=false):((if c=true then(n,NameKind.cell) else(n,k))::r).lookup x=r.lookup x:=by
 cases c <;> simp[List.lookup_cons,hx]
theorem zdf {env:Env}:∀ {names:List (Str×NameKind)}{x:Str},names.lookup x=some .free →
  (names.map fun(n,k)=>if (k == NameKind.free && env.scope.kind == .function && env.kindOf n == some .cell) then(n,NameKind.cell) else(n,k)).lookup x=some .cell ∨
  (names.map fun(n,k)=>if (k == NameKind.free && env.scope.kind == .function && env.kindOf n == some .cell) then(n,NameKind.cell) else(n,k)).lookup x=some .free
 | [],_,h=>by simp at h
 | (n,k)::r,x,h=>by
  have ih:=@zdf env r x
  rw[List.lookup_cons] at h
  rw[List.map_cons]
  cases hx:x == n with
  | true=>
   rw[hx] at h
   cases h
   dsimp only
   rw[zdM _ hx]
   cases (NameKind.free == NameKind.free && env.scope.kind == .function && env.kindOf n == some .cell) with
   | true=>exact .inl rfl
   | false=>exact .inr rfl
  | false=>
   rw[hx] at h
   dsimp only
   rw[zfp _ hx]
   exact ih h
theorem zcd {env:Env}:∀ {names:List (Str×NameKind)}{x:Str}{k':NameKind},(k'=.cell∨k'=.free) →
  (names.map fun(n,k)=>if (k == NameKind.free && env.scope.kind == .function && env.kindOf n == some .cell) then(n,NameKind.cell) else(n,k)).lookup x=some k' →
  ∃ k,(k=.free∨k=.cell)∧(x,k)∈names
 | [],_,_,_,h=>by simp at h
 | (n,k)::r,x,k',hk,h=>by
  have ih:=@zcd env r x k' hk
  rw[List.map_cons] at h
  dsimp only at h
  cases hx:x == n with
  | true=>
   have e:x=n:=eq_of_beq hx
   subst e
   rw[zdM _ hx] at h
   cases hc:(k == NameKind.free && env.scope.kind == .function && env.kindOf x == some .cell) with
   | true=>
    simp only[Bool.and_eq_true,beq_iff_eq] at hc
    obtain⟨⟨rfl,_⟩,_⟩:=hc
    exact⟨.free,.inl rfl,List.mem_cons_self⟩
   | false=>
    rw[hc] at h
    have h:some k=some k':=h
    cases h
    rcases hk with rfl|rfl
    ·exact⟨_,.inr rfl,List.mem_cons_self⟩
    ·exact⟨_,.inl rfl,List.mem_cons_self⟩
  | false=>
   rw[zfp _ hx] at h
   obtain⟨k2,h1,h2⟩:=ih h
   exact⟨k2,h1,List.mem_cons_of_mem _ h2⟩
def zbL (X:Cx) (scope:Scope) (cl:List (Str×Addr)) (C:Addr) (N:List Str) (s:Shared) (H:Hp) (fp:List Addr) (pins:List (Addr×Obj)):Cx:=
 { X with N:=N,s₀:=s,H₀:=H,env:=compEnvC scope cl C X.env,outer:=X.stack,stack:=X.stack,ex:=fp,fn:=fun _=>false,pn:=X.pn++pins,xe:=fun _ _=>False }
def zlI (cap:List (Option Nat)) (σ:St):St:=cap.map fun o=>o.bind fun j=>(σ[j]?).join
def isCF:Option NameKind→Bool
 | some .cell=>true
 | some .free=>true
 | _=>false
def zcy (sc:Scope) (XN:List Str):List (Option Nat)→List Str→Bool
 | [],[]=>true
 | some j::r,x::xs=>(XN[j]? == some x) && (sc.names.lookup x == some NameKind.free) && zcy sc XN r xs
 | none::r,_::xs=>zcy sc XN r xs
 | _,_=>false
def zc1 (osc sc:Scope) (XN N:List Str) (cap:List (Option Nat)):Bool:=
 (sc.kind == ScopeKind.function) && sc.names.all (fun y=>y.2 != NameKind.cell) && sc.names.all (fun y=>y.2 != NameKind.local || sc.names.lookup y.1 == some NameKind.local) &&
 sc.names.all (fun y=>y.2 != NameKind.free || isCF (osc.names.lookup y.1)) && zcy sc XN cap N
theorem zdN {sc:Scope}{XN:List Str}:∀ {cap:List (Option Nat)}{N:List Str},zcy sc XN cap N=true→cap.length=N.length
 | [],[],_=>rfl
 | some _::r,_::xs,h=>by
  simp only[zcy,Bool.and_eq_true] at h
  simp[zdN h.2]
 | none::r,_::xs,h=>by
  simp only[zcy] at h
  simp[zdN h]
 | [],_::_,h=>by simp[zcy] at h
 | some _::_,[],h=>by simp[zcy] at h
 | none::_,[],h=>by simp[zcy] at h
theorem zdO {sc:Scope}{XN:List Str}:∀ {cap:List (Option Nat)}{N:List Str}{i j:Nat}{x:Str},zcy sc XN cap N=true→cap[i]?=some (some j)→N[i]?=some x→XN[j]?=some x∧sc.names.lookup x=some .free
 | [],_,i,_,_,_,h,_=>by simp at h
 | some _::r,y::xs,0,j,x,h,h1,h2=>by
  simp only[zcy,Bool.and_eq_true,beq_iff_eq] at h
  simp at h1 h2
  subst h1;subst h2
  exact⟨h.1.1,h.1.2⟩
 | some _::r,y::xs,i + 1,j,x,h,h1,h2=>by
  simp only[zcy,Bool.and_eq_true] at h
  exact zdO (i:=i) h.2 (by simpa using h1) (by simpa using h2)
 | none::r,y::xs,0,j,x,h,h1,h2=>by simp at h1
 | none::r,y::xs,i + 1,j,x,h,h1,h2=>by
  simp only[zcy] at h
  exact zdO (i:=i) h (by simpa using h1) (by simpa using h2)
 | some _::_,[],_,_,_,h,_,_=>by simp[zcy] at h
 | none::_,[],_,_,_,h,_,_=>by simp[zcy] at h
section
variable {X:Cx}{pins:List (Addr×Obj)}{σ:St}{H:Hp}{s:Shared}{scope:Scope}{N:List Str}{cap:List (Option Nat)}{fp:List Addr}
theorem Inv.clos (I:Inv X pins σ H s) (ok:zc1 X.env.scope scope X.N N cap=true):∀ y∈scope.names,y.2=.free→(X.env.cells.lookup y.1).isSome=true:=fun y hy hf=>by
 simp only[zc1,Bool.and_eq_true,List.all_eq_true] at ok
 have h:=ok.1.2 y hy
 rw[hf] at h
 have h':isCF (X.env.scope.names.lookup y.1)=true:=by simpa using h
 have hk:X.env.kindOf y.1=some .cell∨X.env.kindOf y.1=some .free:=by
  show X.env.scope.names.lookup y.1=_∨X.env.scope.names.lookup y.1=_
  cases e:X.env.scope.names.lookup y.1 with
  | none=>rw[e] at h';cases h'
  | some k=>
   rw[e] at h'
   cases k <;> first|exact .inl rfl|exact .inr rfl|cases h'
 obtain⟨c,e⟩:=I.ok.has y.1 hk
 rw[e]
 rfl
theorem Inv.comp (I:Inv X pins σ H s) (ok:zc1 X.env.scope scope X.N N cap=true) (f:∀ b∈fp,zdn X pins H b) (fo:∀ b∈fp,∃ o,s.heap.get? b=some o){h₁:Heap}{tk:Nat}{fo':Obj}
  (hn:h₁.Ns (s.heap.push { cls:=.type "list",data:=.seq #[] }).objs.size (fun _=>none))
  (hs:Heap.SameBut (s.heap.push { cls:=.type "list",data:=.seq #[] }).objs.size ((s.heap.push { cls:=.type "list",data:=.seq #[] }).push fo') h₁) :
  Inv (zbL X scope (zcm X.env.cells scope.names []) (s.heap.push { cls:=.type "list",data:=.seq #[] }).objs.size N { s with heap:=s.heap.push { cls:=.type "list",data:=.seq #[] } } (upd H s.heap.objs.size (.lst [])) fp pins)
   [] (zlI cap σ) (upd H s.heap.objs.size (.lst [])) { s with heap:=h₁,toks:=tk }:=by
 have okC:=ok
 simp only[zc1,Bool.and_eq_true,List.all_eq_true,beq_iff_eq] at ok
 obtain⟨⟨⟨⟨hkind,hcell⟩,_⟩,_⟩,hcap⟩:=ok
 have cl:=I.clos okC
 have hC:(s.heap.push { cls:=.type "list",data:=.seq #[] }).objs.size=s.heap.objs.size + 1:=Heap.size_push ..
 generalize hCC:(s.heap.push { cls:=.type "list",data:=.seq #[] }).objs.size=C at hn hs hC ⊢
 have below:∀ b o,s.heap.get? b=some o→b≠C∧b≠s.heap.objs.size:=fun b o e=>by
  have:=Heap.lt_size e
  exact⟨by rw[hC];exact Nat.ne_of_lt (Nat.lt_succ_of_lt this),Nat.ne_of_lt this⟩
 have old:∀ b o,s.heap.get? b=some o→h₁.get? b=some o:=fun b o e=>hs.extBut b o (below b o e).1 (Heap.get?_push_of_some _ (Heap.get?_push_of_some _ e))
 have up3:∀ b o,s.heap.get? b=some o→(s.heap.push { cls:=.type "list",data:=.seq #[] }).get? b=some o:=fun b o e=>Heap.get?_push_of_some _ e
 have old3:∀ b o,(s.heap.push { cls:=.type "list",data:=.seq #[] }).get? b=some o→h₁.get? b=some o:=fun b o e=>by
  have:b<C:=by rw[← hCC];exact Heap.lt_size e
  exact hs.extBut b o (Nat.ne_of_lt this) (Heap.get?_push_of_some _ e)
 have hD:H s.heap.objs.size=none:=I.hok.fresh (Nat.le_refl _)
 have free3:∀ b o,s.heap.get? b=some o→H b=none→upd H s.heap.objs.size (.lst []) b=none:=fun b o e n=>by rw[zaf (below b o e).2];exact n
 have hCn:upd H s.heap.objs.size (.lst []) C=none:=by
  rw[zaf (by rw[hC];exact Nat.ne_of_gt (Nat.lt_succ_self _))]
  exact I.hok.fresh (by rw[hC];exact Nat.le_succ _)
 have cellsIn:∀ x c,(zcm X.env.cells scope.names []).lookup x=some c→X.env.cells.lookup x=some c:=fun x c e=>by
  rcases zdv cl e with q|q
  ·simp at q
  ·exact q
 have cellO:∀ x c,(zcm X.env.cells scope.names []).lookup x=some c→∃ v o,s.heap.IsCell c v∧s.heap.get? c=some o:=fun x c e=>by
  obtain⟨v,q⟩:=I.cell x c (cellsIn x c e)
  obtain⟨o,ho,_⟩:=id q
  exact⟨v,o,q,ho⟩
 have hok3:HOk X.prog X.w (upd H s.heap.objs.size (.lst [])) h₁:=I.hok.laid old (Nat.le_refl _) (show zbf X.prog X.w _ h₁ s.heap.objs.size (.lst []) from⟨Nat.zero_le _,[],0,.nil,old3 _ _ (Heap.get?_push_size _ rfl)⟩)
 have stkb:∀ b∈frs X.stack,∃ o,s.heap.get? b=some o:=fun b hb=>by
  obtain⟨_,o,ho,_⟩:=I.stack.mem hb
  exact⟨o,ho⟩
 refine⟨⟨I.ok.mod,hkind,I.ok.glob,I.ok.blt,Nat.le_of_eq hCC,fun y z c h1 h2=>I.ok.inj y z c (cellsIn y c h1) (cellsIn z c h2),fun y hy=>?_,fun y c hf _=>Bool.noConfusion hf,I.hdAt.new hD,I.ok.frames,.inl rfl,fun b hb=>?_,
   fun b o e=>⟨up3 b o (I.bs b o e).1,free3 b o (I.bs b o e).1 (I.bs b o e).2⟩,?_,fun b o e hb=>?_,fun b hb hb2=>?_,?_,fun b hb=>?_⟩,
  rfl,I.bare,Un.kept old3,⟨_,hn,fun i x v h1 h2 h3=>?_⟩,fun x c e=>?_,hCn,fun x c e=>?_,fun p hp=>?_,hok3,?_⟩
 ·-- has
  have hy:(relabel scope X.env).names.lookup y=some .cell∨(relabel scope X.env).names.lookup y=some .free:=hy
  have:(y,NameKind.free)∈scope.names:=by
   rcases hy with q|q
   ·obtain⟨k,hk,hm⟩:=zcd (.inl rfl) q
    rcases hk with rfl|rfl
    ·exact hm
    ·exact absurd (show(NameKind.cell != NameKind.cell)=true from hcell _ hm) (by decide)
   ·obtain⟨k,hk,hm⟩:=zcd (.inr rfl) q
    rcases hk with rfl|rfl
    ·exact hm
    ·exact absurd (show(NameKind.cell != NameKind.cell)=true from hcell _ hm) (by decide)
  exact Option.isSome_iff_exists.mp (zdL (.inl this))
 ·-- exf
  obtain⟨o,e⟩:=fo b hb
  exact⟨(below b o e).1,fun x c q=>(f b hb).2.2.2.2.1 x c (cellsIn x c q)⟩
 ·-- bsz
  show X.base.objs.size≤(s.heap.push { cls:=.type "list",data:=.seq #[] }).objs.size
  rw[Heap.size_push]
  exact Nat.le_succ_of_le (Nat.le_trans I.ok.bsz I.sz)
 ·-- noex
  rcases(f b hb).2.2.2.1 with q|q
  ·exact I.ok.noex b o e q
  ·exact absurd (Nat.lt_of_lt_of_le (Heap.lt_size (I.ok.bs b o e).1) q) (Nat.lt_irrefl _)
 ·-- exfs
  rcases List.mem_cons.mp (I.stkSub b hb2) with q|q
  ·exact(f b hb).2.1 q
  ·exact(f b hb).2.2.1 q
 ·-- funs
  exact I.stack.of_keeps fun b o e _=>⟨o,up3 b o e,rfl⟩
 ·-- frf
  obtain⟨o,e⟩:=stkb b hb
  exact free3 b o e (I.stkFree b hb)
 ·-- loc
  have hi:∃ j,cap[i]?=some (some j)∧σ[j]?=some (some v):=by
   unfold zlI at h2
   rw[List.getElem?_map] at h2
   cases e:cap[i]? with
   | none=>rw[e] at h2;cases h2
   | some o=>
    rw[e] at h2
    cases o with
    | none=>cases h2
    | some j=>
     refine⟨j,rfl,?_⟩
     have h2':(σ[j]?).join=some v:=Option.some.inj h2
     cases e2:σ[j]? with
     | none=>rw[e2] at h2';cases h2'
     | some o2=>rw[e2] at h2';rw[show o2=some v from h2']
  obtain⟨j,hj,hv⟩:=hi
  obtain⟨hX,hfr⟩:=zdO hcap hj h1
  have hmem:(x,NameKind.free)∈scope.names:=PySem.mem_of_lookup hfr
  have hcf:=okC
  simp only[zc1,Bool.and_eq_true,List.all_eq_true] at hcf
  have h':isCF (X.env.scope.names.lookup x)=true:=by simpa using hcf.1.2 _ hmem
  have hk:X.env.scope.names.lookup x=some .cell∨X.env.scope.names.lookup x=some .free:=by
   cases e:X.env.scope.names.lookup x with
   | none=>rw[e] at h';cases h'
   | some k=>
    rw[e] at h'
    cases k <;> first|exact .inl rfl|exact .inr rfl|cases h'
  obtain⟨m,_,hl⟩:=I.loc
  obtain⟨u,ru,lk⟩:=hl j x v hX hv (hk.elim (fun q=>.inr (.inl q)) fun q=>.inr (.inr q))
  refine⟨u,ru,.inr ⟨zdf hfr,?_⟩⟩
  rcases lk with⟨q,_⟩|⟨_,c,hc,hcell2⟩
  ·have q':X.env.scope.names.lookup x=some .local:=q
   rcases hk with z|z
   ·rw[z] at q';cases q'
   ·rw[z] at q';cases q'
  ·obtain⟨c',hc'⟩:=Option.isSome_iff_exists.mp (zdL (cells:=X.env.cells) (acc:=[]) (.inl hmem))
   have:c'=c:=by
    have:=cellsIn x c' hc'
    rw[hc] at this
    exact(Option.some.inj this).symm
   subst this
   obtain⟨o,ho,hd⟩:=hcell2
   exact⟨c',hc',o,old c' o ho,hd⟩
 ·-- cell
  obtain⟨v,o,⟨o',ho,hd⟩,_⟩:=cellO x c e
  exact⟨v,o',old c o' ho,hd⟩
 ·-- freeC
  obtain⟨v,o,_,ho⟩:=cellO x c e
  exact free3 c o ho (I.freeC x c (cellsIn x c e))
 ·-- pins
  have hp':p∈X.pn++pins:=by simpa [zbL] using hp
  obtain⟨e,n,ne,nf,d⟩:=I.pin p hp'
  refine⟨old _ _ e,free3 _ _ e n,(below _ _ e).1,fun z=>?_,d⟩
  rcases List.mem_cons.mp (I.stkSub p.1 z) with q|q
  ·exact ne q
  ·exact nf q
 ·-- len
  show(zlI cap σ).length=N.length
  unfold zlI
  rw[List.length_map]
  exact zdN hcap
end
section
variable {prog:Program}{w:World}{A:Around}{R:Result→Shared→Prop}{s:Shared}
theorem zf1 {elt target iter:Expr}{ifs:List Expr}{scope:Scope}{pos:Pos}{it acc:Value}{env:Env} (J:Nat→Shared→Prop)
  (turn:∀ n s,J n s→wpAny (model prog w) A (pyNext it) (fun r s₁=>match r with
   | none=>R (.ok .next) s₁
   | some v=>wpAny (model prog w) A (letOwnedTupleGo target it v) (fun _ s₂=>wpAny (model prog w) A (assign target env v) (fun _ s₃=>
     wpAny (model prog w) A (forIn ifs true fun c r=>if r=true then do let ok ← isTrue c env (eval c env);pure (ForInStep.yield ok) else pure (ForInStep.yield r)) (fun ok s₄=>
      if ok=true then wpAny (model prog w) A (eval elt env) (fun x s₅=>
       wpAny (model prog w) A (call (.builtin "list.append") [acc,x]) (fun _ s₆=>∃ m,m<n∧J m s₆) (fun _ _=>False) s₅) (fun _ _=>False) s₄
      else ∃ m,m<n∧J m s₄) (fun _ _=>False) s₃) (fun _ _=>False) s₂) (fun _ _=>False) s₁) (fun _ _=>False) s)
  (n:Nat) (h:J n s):codeAny (model prog w) A (.compLoop (.ListComp elt [⟨target,iter,ifs,0⟩] scope pos) 0 it acc env) R s:=by
 have no:∀ {E:Value→Shared→Prop} (e:Value) (s':Shared),(fun(_:Value) (_:Shared)=>False) e s'→E e s':=fun _ _ z=>z.elim
 refine codeAny_loop rfl J (fun n s hI=>?_) n h
 show wpAny _ A ((compTurn (.ListComp elt [⟨target,iter,ifs,0⟩] scope pos) 0 it acc env).onRaise (fun x=>do noteFrame x env;theTreesLotGoes x)) _ _ s
 refine wpAny_noted ?_
 rw[compTurn_list]
 refine wpAny_bind (wpAny_standAt (wpAny_bind (wpAny_mono (turn n s hI) (fun r s₁ h₁=>?_) no)))
 cases r with
 | none=>exact wpAny_pure h₁
 | some v=>
  refine wpAny_bind (wpAny_mono h₁ (fun _ s₂ h₂=>wpAny_bind (wpAny_mono h₂ (fun _ s₃ h₃=>wpAny_bind (wpAny_mono h₃ (fun ok s₄ h₄=>?_) no)) no)) no)
  cases ok with
  | false=>exact wpAny_pure ⟨rfl,h₄⟩
  | true=>
   exact wpAny_bind (wpAny_bind (wpAny_mono h₄ (fun x s₅ h₅=>wpAny_bind (wpAny_mono h₅ (fun _ s₆ h₆=>wpAny_pure (wpAny_pure ⟨rfl,h₆⟩)) no)) no))
end
def PIf (X:Cx) (cs:List Expr) (t:TT):Prop:=
 ∀ (pins:List (Addr×Obj)) (s:Shared) (σ:St) (H:Hp) (Q:Bool→Hp→Prop),Inv X pins σ H s→t σ H Q →
  wpAny (model X.prog X.w) X.A (forIn cs true fun c r=>if r=true then do let ok ← isTrue c X.env (eval c X.env);pure (ForInStep.yield ok) else pure (ForInStep.yield r)) (TP X pins σ Q) X.xe s
def zf2:TT:=fun _ H Q=>Q true H
theorem zaT {X:Cx}:PIf X [] zf2:=fun _ _ _ H _ I h=>wpAny_tests_nil ⟨H,I,h⟩
theorem zf3 {X:Cx}{c:Expr}{t:TT} (h:PT X c t):PIf X [c] t:=fun pins s σ H Q I hq=>wpAny_tests_one (h pins s σ H Q I hq)
def zg7 (J:It) (D:Addr) (τ:St) (H:Hp) (g:TG) (tt:TT) (te:TE) (Q:VK):Prop:=
 ∃ W:Nat→Nat→St→Hp→Prop,(∃ m,W 0 m τ H)∧∀ i m τ H,W i m τ H →
  (J.stop i H∧Q (.ref D) H)∨(J.go i H∧∃ M:St→Hp→Prop,(∀ τ' H',M τ' H'→∃ m',m'<m∧W (i + 1) m' τ' H')∧∀ x H',J.yld i H x H'→g x τ H' fun τ2 H2=>tt τ2 H2 fun b H3=>
   if b=true then te τ2 H3 fun y H4=>∃ ys,H4 D=some (.lst ys)∧ys.length<sizeLine∧M τ2 (upd H4 D (.lst (ys++[y]))) else M τ2 H3)
def tComp (wi:TI) (cap:List (Option Nat)) (g:TG) (tt:TT) (te:TE):TE:=fun σ H Q=>wi σ H fun J H1=>∀ D,H1 D=none→zg7 J D (zlI cap σ) (upd H1 D (.lst [])) g tt te Q
section
variable {X:Cx}{elt tg iter:Expr}{ifs:List Expr}{scope:Scope}{pos:Pos}{N:List Str}{cap:List (Option Nat)}{wi:TI}{g:TG}{tt:TT}{te:TE}
theorem zeh {pins:List (Addr×Obj)}{σ:St}{H:Hp}{s:Shared}{J:It}{fp:List Addr}{it:Addr}{tn:Nat→Heap→Prop}{Q:VK}{E:Value→Shared→Prop}{RR:Value→Addr→Result→Shared→Prop}
  (hc:X.calm=true) (ok:zc1 X.env.scope scope X.N N cap=true)
  (hg:∀ cl C s H fp pins,PG (zbL X scope cl C N s H fp pins) tg g) (hf:∀ cl C s H fp pins,PIf (zbL X scope cl C N s H fp pins) ifs tt) (he:∀ cl C s H fp pins,PE (zbL X scope cl C N s H fp pins) elt te)
  (I:Inv X pins σ H s) (T:zkm X.prog X.w X.K tg J fp it tn) (st:tn 0 s.heap) (f:∀ b∈fp,zdn X pins H b)
  (q:∀ D,H D=none→zg7 J D (zlI cap σ) (upd H D (.lst [])) g tt te Q)
  (fin:∀ D C H' s' m,Inv X pins σ H' s'→zdn X pins H' C→s'.heap.Ns C m→Q (.ref D) H'→RR (.ref D) C (.ok .next) s') :
  wpAny (model X.prog X.w) X.A (newList []) (fun acc s₃=>wpAny (model X.prog X.w) X.A (newFunctionEnv scope X.env.globals (zcm X.env.cells scope.names []) [] X.env.qual none .none (some X.env)) (fun cenv s₄=>
   codeAny (model X.prog X.w) X.A (.compStart (.ListComp elt [⟨tg,iter,ifs,0⟩] scope pos) 0 (.ref it) acc { cenv with scope:=relabel scope X.env }) (RR acc cenv.locals) s₄) E s₃) E s:=by
 have ok':=ok
 simp only[zc1,Bool.and_eq_true,List.all_eq_true,beq_iff_eq] at ok'
 obtain⟨⟨⟨⟨hkind,hcell⟩,_⟩,_⟩,hcap⟩:=ok'
 refine wpAny_newObj_type (wpAny_newFunctionEnv (fun y hy=>by simpa using hcell y hy) (by intro y hy;simp at hy) (fun h₁ hns₁ hsb₁=>?_) hkind)
 dsimp only at hns₁ hsb₁ ⊢
 have fo:∀ b∈fp,∃ o,s.heap.get? b=some o:=fun b hb=>let ⟨o,e,_⟩:=T.obj _ _ st b hb;⟨o,e⟩
 have J0:=I.comp (h₁:=h₁) (tk:=s.toks + ([]:List (Str×Value)).length) ok f fo hns₁ hsb₁
 have hDfree:H s.heap.objs.size=none:=I.hok.fresh (Nat.le_refl _)
 obtain⟨W,⟨m0,w0⟩,turn⟩:=q _ hDfree
 generalize hY:zbL X scope (zcm X.env.cells scope.names []) (s.heap.push { cls:=.type "list",data:=.seq #[] }).objs.size N { s with heap:=s.heap.push { cls:=.type "list",data:=.seq #[] } } (upd H s.heap.objs.size (.lst [])) fp pins=Y at J0
 have below:∀ b∈fp,b<s.heap.objs.size:=fun b hb=>let ⟨o,e⟩:=fo b hb;Heap.lt_size e
 have cl:=I.clos ok
 have stat:∀ {H':Hp},(∀ b∈fp,H' b=none)→∀ b∈fp,zdn Y [] H' b:=fun {H'} hn b hb=>by
  subst hY
  refine⟨hn b hb,?_,fun z=>?_,.inl hb,fun x c e=>?_,fun p hp=>?_⟩
  ·show b≠(s.heap.push { cls:=.type "list",data:=.seq #[] }).objs.size
   rw[Heap.size_push]
   exact Nat.ne_of_lt (Nat.lt_succ_of_lt (below b hb))
  ·rcases List.mem_cons.mp (I.stkSub b z) with q|q
   ·exact(f b hb).2.1 q
   ·exact(f b hb).2.2.1 q
  ·refine(f b hb).2.2.2.2.1 x c ?_
   rcases zdv cl e with z|z
   ·simp at z
   ·exact z
  ·exact(f b hb).2.2.2.2.2 p (by simpa [zbL] using hp)
 have hgY:PG Y tg g:=hY ▸ hg _ _ _ _ _ _
 have hfY:PIf Y ifs tt:=hY ▸ hf _ _ _ _ _ _
 have heY:PE Y elt te:=hY ▸ he _ _ _ _ _ _
 have e1:Y.prog=X.prog:=by subst hY;rfl
 have e2:Y.w=X.w:=by subst hY;rfl
 have e3:Y.K=X.K:=by subst hY;rfl
 have e4:Y.calm=true:=by subst hY;exact hc
 have e5:Y.A=X.A:=by subst hY;rfl
 have e6:Y.env=compEnvC scope (zcm X.env.cells scope.names []) (s.heap.push { cls:=.type "list",data:=.seq #[] }).objs.size X.env:=by subst hY;rfl
 have e7:Y.xe=fun _ _=>False:=by subst hY;rfl
 have hfp0:∀ b∈fp,upd H s.heap.objs.size (.lst []) b=none:=fun b hb=>by rw[zaf (Nat.ne_of_lt (below b hb))];exact(f b hb).1
 have st0:tn 0 h₁:=T.keep _ _ _ st fun b hb o e=>hsb₁.extBut b o (by
  have:=below b hb
  rw[Heap.size_push]
  exact Nat.ne_of_lt (Nat.lt_succ_of_lt this)) (Heap.get?_push_of_some _ (Heap.get?_push_of_some _ e))
 have loop:∀ s₃:Shared,s₃={ s with heap:=h₁,toks:=s.toks + ([]:List (Str×Value)).length } →
   codeAny (model X.prog X.w) X.A (.compLoop (.ListComp elt [⟨tg,iter,ifs,0⟩] scope pos) 0 (.ref it) (.ref s.heap.objs.size)
    (compEnvC scope (zcm X.env.cells scope.names []) (s.heap.push { cls:=.type "list",data:=.seq #[] }).objs.size X.env)) (RR (.ref s.heap.objs.size) (s.heap.push { cls:=.type "list",data:=.seq #[] }).objs.size) s₃:=by
  rintro s₃ rfl
  refine zf1 (fun n s'=>∃ i τ H',Inv Y [] τ H' s'∧tn i s'.heap∧(∀ b∈fp,H' b=none)∧W i n τ H') ?_ m0 ⟨0,_,_,J0,st0,hfp0,w0⟩
  rintro n s' ⟨i,τ,H',I',st',fr',w'⟩
  rcases turn i n τ H' w' with⟨stop,qn⟩|⟨go,M,hM,step⟩
  ·have z:=T.done Y e1 e2 e3 e4 i [] s' τ H' (fun _ _=>False) I' (stat fr') st' stop
   rw[e5] at z
   refine thn z fun r s4 ⟨hr,I4⟩=>?_
   subst hr
   subst hY
   obtain⟨m,hn4,_⟩:=I4.loc
   have ho:s4.os=s.os:=I4.os
   have un:Un (frs X.stack) fp H H' s.heap s4.heap:=by
    have u1:Un (frs X.stack) fp H (upd H s.heap.objs.size (.lst [])) s.heap (s.heap.push { cls:=.type "list",data:=.seq #[] }):=Un.laid (fun b u e=>Heap.get?_push_of_some _ e) (Nat.le_refl _) hDfree
    exact u1.trans I4.base
   have IX:Inv X pins σ H' s4:=I.call' ho un I4.hok I4.bare fun b hb=>⟨(f b hb).2.2.2.1,(f b hb).2.1,(f b hb).2.2.2.2.1,(f b hb).2.2.2.2.2⟩
   exact fin _ _ H' s4 m IX (I.fpOk (by rw[Heap.size_push];exact Nat.le_succ _) I4.free) hn4 qn
  ·have z:=T.item Y e1 e2 e3 e4 i [] s' τ H' (fun _ _=>False) I' (stat fr') st' go
   rw[e5] at z
   refine thn z fun r s4 ⟨u,hr,h4⟩=>?_
   subst hr
   refine thn h4 fun _ s5=>L2.ex5 fun x H5 I5 r5 hq_=>?_
   obtain⟨y5,st5,fr5⟩:=hq_
   have I5':=I5.pinned (stat fr5) (T.obj _ _ st5)
   have zg:=hgY _ s5 τ H5 x u _ I5' r5 (step x H5 y5)
   rw[e1,e2,e5,e6,e7] at zg
   refine thn zg fun _ s6 ⟨τ6,H6,I6,q6⟩=>?_
   have zf:=hfY _ s6 τ6 H6 _ I6 q6
   rw[e1,e2,e5,e6,e7] at zf
   refine thn zf fun b s7=>L2.ex3 fun H7 I7 q7=>?_
   have again:∀ {H8:Hp}{s8:Shared},Inv Y ([]++zfb fp s5.heap) τ6 H8 s8→M τ6 H8→∃ m,m<n∧∃ i τ H',Inv Y [] τ H' s8∧tn i s8.heap∧(∀ b∈fp,H' b=none)∧W i m τ H':=fun {H8 s8} I8 w8=>by
    obtain⟨m',hm,w8⟩:=hM _ _ w8
    refine⟨m',hm,i + 1,τ6,H8,I8.unpinned,T.keep _ _ _ st5 fun b hb o e=>(I8.pin (b,o) (List.mem_append_right _ (List.mem_append_right _ (zci hb e)))).1,fun b hb=>?_,w8⟩
    obtain⟨o,e,d⟩:=T.obj _ _ st5 b hb
    exact(I8.pin (b,o) (List.mem_append_right _ (List.mem_append_right _ (zci hb e)))).2.1
   cases b with
   | false=>exact again I7 q7
   | true=>
    have ze:=heY _ s7 τ6 H7 _ I7 q7
    rw[e1,e2,e5,e6,e7] at ze
    refine thn ze fun v s8=>L2.ex5 fun y H8 I8 r8 hq_=>?_
    obtain⟨ys,hD,hz,q8⟩:=hq_
    have za:=zbv (X:=Y) _ s8 τ6 H8 (.ref s.heap.objs.size) [y] (.ref s.heap.objs.size) [v] (fun _ H9=>H9=upd H8 s.heap.objs.size (.lst (ys++[y]))) I8 rfl (.cons r8 .nil) ⟨_,ys,y,rfl,rfl,hD,hz,rfl⟩
    rw[e1,e2,e5,e7] at za
    refine thn za fun _ s9 ⟨_,H9,I9,_,e9⟩=>?_
    subst e9
    exact again I9 q8
 exact codeAny_compStart_list (loop _ rfl) (T.self X.A 0 _ _ _ st0 (loop _ rfl))
theorem za6 {osc:Scope}{XN:List Str} (h1:X.env.scope=osc) (h2:X.N=XN) (ok:zc1 osc scope XN N cap=true):zc1 X.env.scope scope X.N N cap=true:=by
 rw[h1,h2]
 exact ok
theorem zaV (hc:X.calm=true) (ok:zc1 X.env.scope scope X.N N cap=true) (hi:PI X tg iter wi)
  (hg:∀ cl C s H fp pins,PG (zbL X scope cl C N s H fp pins) tg g) (hf:∀ cl C s H fp pins,PIf (zbL X scope cl C N s H fp pins) ifs tt) (he:∀ cl C s H fp pins,PE (zbL X scope cl C N s H fp pins) elt te)
  (hs:∀ x,foldedSetIterable iter X.env x=pure x:=by intro _;rfl):PE X (.ListComp elt [⟨tg,iter,ifs,0⟩] scope pos) (tComp wi cap g tt te):=by
 intro pins s σ H Q I h
 have ok':=ok
 simp only[zc1,Bool.and_eq_true,List.all_eq_true,beq_iff_eq] at ok'
 obtain⟨⟨⟨⟨hkind,_⟩,hnames⟩,_⟩,_⟩:=ok'
 rw[eval_ListComp]
 refine wpAny_comprehension_free (use:=none) rfl hs (zcc (I.clos ok)) hkind (fun y hy hl=>by simpa [hl] using hnames y hy) (thn (hi pins s σ H _ I h) fun xv s1 h1=>thn h1 fun itv s2 h2=>?_)
 obtain⟨it,fp,tn,J,H2,e,I2,T,st2,f2,q⟩:=h2
 subst e
 refine zeh (RR:=fun acc C=>compPost (model X.prog X.w) X.A X.xe none (EP X pins σ Q) acc C) hc ok hg hf he I2 T st2 f2 q ?_
 intro D C H' s' m I' fC hn qn
 obtain⟨f0,f1,f2',f3,f4,f5⟩:=fC
 exact⟨m,hn,fun h' sb=>⟨.ref D,H',I'.turned (t':=s'.toks) (fun b o hb e=>sb.extBut b o hb e) f0 f1 f3 f4 f5,rfl,qn⟩⟩
theorem zeF {i:Nat}{x:Str}{pos' spos:Pos} (hN:X.N.Nodup) (hi':X.N[i]?=some x) (hx:X.env.scope.names.lookup x=some .local) (hc:X.calm=true) (ok:zc1 X.env.scope scope X.N N cap=true) (hi:PI X tg iter wi)
  (hg:∀ cl C s H fp pins,PG (zbL X scope cl C N s H fp pins) tg g) (hf:∀ cl C s H fp pins,PIf (zbL X scope cl C N s H fp pins) ifs tt) (he:∀ cl C s H fp pins,PE (zbL X scope cl C N s H fp pins) elt te)
  (hsw:swapsWith (.ListComp elt [⟨tg,iter,ifs,0⟩] scope pos) (some (.Name x pos')) spos.line X.env=pure true)
  (hs:∀ x,foldedSetIterable iter X.env x=pure x:=by intro _;rfl) :
  PS X (.Assign [.Name x pos'] (.ListComp elt [⟨tg,iter,ifs,0⟩] scope pos) spos) (tAsg (tComp wi cap g tt te) (zaQ i)):=by
 intro pins s σ H D I h
 have ok':=ok
 simp only[zc1,Bool.and_eq_true,List.all_eq_true,beq_iff_eq] at ok'
 obtain⟨⟨⟨⟨hkind,_⟩,hnames⟩,_⟩,_⟩:=ok'
 rw[exec_Assign_Name_used _ _ _ _ hsw]
 refine wpAny_bind (wpAny_standAt (wpAny_bind ?_))
 show wpAny _ X.A (do let _ ← comprehension (.ListComp elt [⟨tg,iter,ifs,0⟩] scope pos) scope X.env _ (newList []) false (eval iter X.env) (some (assign (.Name x pos') X.env))) _ _ s
 refine wpAny_bind (wpAny_mono (wpAny_comprehension_free (use:=some (assign (.Name x pos') X.env)) (Q:=fun _ s'=>SP X pins D .next s') rfl hs (zcc (I.clos ok)) hkind (fun y hy hl=>by simpa [hl] using hnames y hy)
  (thn (hi pins s σ H _ I h) fun xv s1 h1=>thn h1 fun itv s2 h2=>?_)) (fun _ s' hq=>wpAny_pure (wpAny_pure hq)) fun _ _ e=>e)
 obtain⟨it,fp,tn,J,H2,e,I2,T,st2,f2,q⟩:=h2
 subst e
 refine zeh (RR:=fun acc C=>compPost (model X.prog X.w) X.A X.xe (some (assign (.Name x pos') X.env)) (fun _ s'=>SP X pins D .next s') acc C) hc ok hg hf he I2 T st2 f2 q ?_
 intro Dd C H' s' m I' fC hn qn
 obtain⟨f0,f1,f2',f3,f4,f5⟩:=fC
 show wpAny _ X.A (assign (.Name x pos') X.env (.ref Dd)) _ _ _
 refine wpAny_assign_Name (ze7 I' hN hi' (.inl hx) (v:=.ref Dd) rfl (fun s3 I3 ⟨a,sb,ha⟩=>?_) (.inr hx))
 have hCa:C≠a:=by
  rcases ha with z|z
  ·rw[z];exact f1
  ·exact fun w=>f4 x a z w.symm
 refine⟨m,hn.sameBut sb hCa,fun h' sb2=>?_⟩
 exact⟨_,H',I3.turned (t':=s3.toks) (fun b o hb e=>sb2.extBut b o hb e) f0 f1 f3 f4 f5,qn⟩
theorem zaO {K:PySem.W.Frag}{a D:Addr}{xs:List V}{τ:St}{H:Hp}{Q:VK} (Pv:Nat→St→Hp→Prop) (h0:Pv 0 τ H) (hl:∀ i τ H,i≤xs.length→Pv i τ H→SqL K H a xs)
  (hs:∀ i x τ H,xs[i]?=some x→Pv i τ H→g x τ H fun τ2 H2=>tt τ2 H2 fun b H3=>
   if b=true then te τ2 H3 fun y H4=>∃ ys,H4 D=some (.lst ys)∧ys.length<sizeLine∧Pv (i + 1) τ2 (upd H4 D (.lst (ys++[y]))) else Pv (i + 1) τ2 H3)
  (hd:∀ τ H,Pv xs.length τ H→Q (.ref D) H):zg7 (Itl K a) D τ H g tt te Q:=
 wk_ (n:=xs.length) Pv h0 (fun i σ H hi p=>⟨fun h=>⟨xs,xs[i],hl i σ H hi p,by simp[h]⟩,fun h=>⟨xs,hl i σ H hi p,h⟩⟩) (fun i x σ H H' hi p y=>by
 obtain⟨rfl,y⟩:=y
 exact hs i x σ _ (y xs (hl i σ _ (Nat.le_of_lt hi) p)) p) hd
theorem zbM {lo:Int}{n:Nat}{D:Addr}{τ:St}{H:Hp}{Q:VK} (Pv:Nat→St→Hp→Prop) (h0:Pv 0 τ H)
  (hs:∀ i τ H,i<n→Pv i τ H→g (.int (lo + i)) τ H fun τ2 H2=>tt τ2 H2 fun b H3=>
   if b=true then te τ2 H3 fun y H4=>∃ ys,H4 D=some (.lst ys)∧ys.length<sizeLine∧Pv (i + 1) τ2 (upd H4 D (.lst (ys++[y]))) else Pv (i + 1) τ2 H3)
  (hd:∀ τ H,Pv n τ H→Q (.ref D) H):zg7 (Itr lo n) D τ H g tt te Q:=
 wk_ (n:=n) Pv h0 (fun _ _ _ _ _=>⟨id,id⟩) (fun i x σ H H' hi p y=>by
 obtain⟨rfl,rfl⟩:=y
 exact hs i σ _ hi p) hd
end
end L2
namespace L2
open PySem PySem.Spec PyProof.Rows PySem.SeqAt
inductive Dt where
 | non | bl (b:Bool) | int (i:Int) | str (x:Str) | lst (xs:List Dt) | tup (xs:List Dt)
mutual
def DtV (K:PySem.W.Frag) (H:Hp):Dt→V→Prop
 | .non,x=>x=.non
 | .bl b,x=>x=.bl b
 | .int i,x=>x=.int i
 | .str z,x=>x=.str z
 | .lst ds,x=>∃ a xs,x=.ref a∧SqL K H a xs∧zcp K H ds xs
 | .tup ds,x=>∃ a xs,x=.ref a∧SqT K H a xs∧zcp K H ds xs
def zcp (K:PySem.W.Frag) (H:Hp):List Dt→List V→Prop
 | [],xs=>xs=[]
 | d::ds,xs=>∃ y ys,xs=y::ys∧DtV K H d y∧zcp K H ds ys
end
mutual
def zdP:Nat→Dt→Prop
 | n + 1,.lst ds=>zbF n ds
 | n + 1,.tup ds=>zbF n ds
 | 0,.lst _=>False
 | 0,.tup _=>False
 | _,.non=>True
 | _,.bl _=>True
 | _,.int _=>True
 | _,.str _=>True
def zbF:Nat→List Dt→Prop
 | _,[]=>True
 | n,d::ds=>zdP n d∧zbF n ds
end
mutual
def eqD:Dt→Dt→Bool
 | .non,.non=>true
 | .bl a,.bl b=>a == b
 | .bl a,.int b=>(if a then 1 else 0) == b
 | .int a,.bl b=>a == (if b then 1 else 0)
 | .int a,.int b=>a == b
 | .str a,.str b=>a == b
 | .lst xs,.lst ys=>ze5 xs ys
 | .tup xs,.tup ys=>ze5 xs ys
 | _,_=>false
def ze5:List Dt→List Dt→Bool
 | [],[]=>true
 | x::xs,y::ys=>eqD x y && ze5 xs ys
 | _,_=>false
end
mutual
theorem zjh:∀ d:Dt,eqD d d=true
 | .non=>rfl
 | .bl b=>by simp[eqD]
 | .int i=>by simp[eqD]
 | .str x=>by simp[eqD]
 | .lst xs=>by
  rw[eqD]
  exact zce xs
 | .tup xs=>by
  rw[eqD]
  exact zce xs
theorem zce:∀ ds:List Dt,ze5 ds ds=true
 | []=>rfl
 | d::ds=>by rw[ze5,zjh d,zce ds];rfl
end
theorem zcp.length {K:PySem.W.Frag}{H:Hp}:∀ {ds:List Dt}{xs:List V},zcp K H ds xs→ds.length=xs.length
 | [],xs,h=>by
  have e:xs=[]:=h
  subst e
  rfl
 | d::ds,xs,h=>by
  obtain⟨y,ys,e,_,h2⟩:=h
  subst e
  simp[zcp.length h2]
theorem zcp.get {K:PySem.W.Frag}{H:Hp}:∀ {ds:List Dt}{xs:List V}{j:Nat}{d:Dt},zcp K H ds xs→ds[j]?=some d→∃ x,xs[j]?=some x∧DtV K H d x
 | [],_,_,_,_,e=>by simp at e
 | d::ds,xs,j,d',h,e=>by
  obtain⟨y,ys,e2,h1,h2⟩:=h
  subst e2
  cases j with
  | zero=>
   simp at e
   subst e
   exact⟨y,rfl,h1⟩
  | succ j=>
   obtain⟨x,hx,hd⟩:=zcp.get (j:=j) h2 (by simpa using e)
   exact⟨x,by simpa using hx,hd⟩
theorem zcp.snoc {K:PySem.W.Frag}{H:Hp}{d:Dt}{x:V} (hd:DtV K H d x):∀ {ds:List Dt}{xs:List V},zcp K H ds xs→zcp K H (ds++[d]) (xs++[x])
 | [],xs,h=>by
  have e:xs=[]:=h
  subst e
  exact⟨x,[],rfl,hd,rfl⟩
 | e::ds,xs,h=>by
  obtain⟨y,ys,e2,h1,h2⟩:=h
  subst e2
  exact⟨y,ys++[x],rfl,h1,h2.snoc hd⟩
theorem zbF.get {n:Nat}:∀ {ds:List Dt}{j:Nat}{d:Dt},zbF n ds→ds[j]?=some d→zdP n d
 | [],_,_,_,e=>by simp at e
 | d::ds,j,d',h,e=>by
  cases j with
  | zero=>
   simp at e
   subst e
   exact h.1
  | succ j=>exact zbF.get (j:=j) h.2 (by simpa using e)
theorem zan.sqL {K:PySem.W.Frag}{H H':Hp}{a:Addr}{xs:List V} (e:zan H H') (h:SqL K H a xs):SqL K H' a xs:=e.seq h
theorem zan.sqT {K:PySem.W.Frag}{H H':Hp}{a:Addr}{xs:List V} (e:zan H H') (h:SqT K H a xs):SqT K H' a xs:=by
 rcases h with(h|⟨o,h⟩)|h
 ·exact .inl (.inl (e _ _ h))
 ·exact .inl (.inr ⟨o,e _ _ h⟩)
 ·exact .inr h
mutual
theorem zan.dt {K:PySem.W.Frag}{H H':Hp} (e:zan H H'):∀ {d:Dt}{x:V},DtV K H d x→DtV K H' d x
 | .non,_,h=>h
 | .bl _,_,h=>h
 | .int _,_,h=>h
 | .str _,_,h=>h
 | .lst ds,_,h=>by
  obtain⟨a,xs,e1,h1,h2⟩:=h
  exact⟨a,xs,e1,e.sqL h1,e.dts h2⟩
 | .tup ds,_,h=>by
  obtain⟨a,xs,e1,h1,h2⟩:=h
  exact⟨a,xs,e1,e.sqT h1,e.dts h2⟩
theorem zan.dts {K:PySem.W.Frag}{H H':Hp} (e:zan H H'):∀ {ds:List Dt}{xs:List V},zcp K H ds xs→zcp K H' ds xs
 | [],_,h=>h
 | d::ds,_,h=>by
  obtain⟨y,ys,e1,h1,h2⟩:=h
  exact⟨y,ys,e1,e.dt h1,e.dts h2⟩
end
theorem zan.new {H:Hp}{p:Addr}{o:HO} (h:H p=none):zan H (upd H p o):=fun b u e=>by
 rw[zaf (zam e h)]
 exact e
section
variable {X:Cx}{pins:List (Addr×Obj)}{σ:St}{H:Hp}{s:Shared}
theorem Inv.notBoth (I:Inv X pins σ H s){a:Addr}{xs ys:List V} (h:SqL X.K H a xs) (h':SqT X.K H a ys):False:=by
 obtain⟨its,_,pl,_⟩:=I.list h
 obtain⟨its',_,pt,_⟩:=I.tuple h'
 obtain⟨o,n,e,c,_⟩:=pl
 obtain⟨o',e',c',_⟩:=pt
 rw[e] at e'
 cases e'
 rw[c] at c'
 exact absurd c' (by simp)
mutual
theorem Inv.dtUniq (I:Inv X pins σ H s):∀ {d e:Dt}{x:V},DtV X.K H d x→DtV X.K H e x→d=e
 | .non,e,_,h,h'=>by
  have h:_=V.non:=h
  subst h
  cases e with
  | non=>rfl
  | bl _=>exact nomatch (show V.non=_ from h')
  | int _=>exact nomatch (show V.non=_ from h')
  | str _=>exact nomatch (show V.non=_ from h')
  | lst _=>obtain⟨_,_,q,_⟩:=h';cases q
  | tup _=>obtain⟨_,_,q,_⟩:=h';cases q
 | .bl b,e,_,h,h'=>by
  have h:_=V.bl b:=h
  subst h
  cases e with
  | non=>exact nomatch (show V.bl b=_ from h')
  | bl c=>
   have q:V.bl b=V.bl c:=h'
   cases q
   rfl
  | int _=>exact nomatch (show V.bl b=_ from h')
  | str _=>exact nomatch (show V.bl b=_ from h')
  | lst _=>obtain⟨_,_,q,_⟩:=h';cases q
  | tup _=>obtain⟨_,_,q,_⟩:=h';cases q
 | .int b,e,_,h,h'=>by
  have h:_=V.int b:=h
  subst h
  cases e with
  | non=>exact nomatch (show V.int b=_ from h')
  | bl c=>exact nomatch (show V.int b=_ from h')
  | int c=>
   have q:V.int b=V.int c:=h'
   cases q
   rfl
  | str _=>exact nomatch (show V.int b=_ from h')
  | lst _=>obtain⟨_,_,q,_⟩:=h';cases q
  | tup _=>obtain⟨_,_,q,_⟩:=h';cases q
 | .str b,e,_,h,h'=>by
  have h:_=V.str b:=h
  subst h
  cases e with
  | non=>exact nomatch (show V.str b=_ from h')
  | bl c=>exact nomatch (show V.str b=_ from h')
  | int _=>exact nomatch (show V.str b=_ from h')
  | str c=>
   have q:V.str b=V.str c:=h'
   cases q
   rfl
  | lst _=>obtain⟨_,_,q,_⟩:=h';cases q
  | tup _=>obtain⟨_,_,q,_⟩:=h';cases q
 | .lst ds,e,_,h,h'=>by
  obtain⟨a,xs,e1,h1,h2⟩:=h
  subst e1
  cases e with
  | non=>exact nomatch (show V.ref a=_ from h')
  | bl c=>exact nomatch (show V.ref a=_ from h')
  | int _=>exact nomatch (show V.ref a=_ from h')
  | str _=>exact nomatch (show V.ref a=_ from h')
  | lst es=>
   obtain⟨b,ys,e2,h3,h4⟩:=h'
   cases e2
   have q:=I.list_inj h1 h3
   subst q
   rw[I.dtsUniq h2 h4]
  | tup es=>
   obtain⟨b,ys,e2,h3,h4⟩:=h'
   cases e2
   exact(I.notBoth h1 h3).elim
 | .tup ds,e,_,h,h'=>by
  obtain⟨a,xs,e1,h1,h2⟩:=h
  subst e1
  cases e with
  | non=>exact nomatch (show V.ref a=_ from h')
  | bl c=>exact nomatch (show V.ref a=_ from h')
  | int _=>exact nomatch (show V.ref a=_ from h')
  | str _=>exact nomatch (show V.ref a=_ from h')
  | lst es=>
   obtain⟨b,ys,e2,h3,h4⟩:=h'
   cases e2
   exact(I.notBoth h3 h1).elim
  | tup es=>
   obtain⟨b,ys,e2,h3,h4⟩:=h'
   cases e2
   have q:=I.tuple_inj h1 h3
   subst q
   rw[I.dtsUniq h2 h4]
theorem Inv.dtsUniq (I:Inv X pins σ H s):∀ {ds es:List Dt}{xs:List V},zcp X.K H ds xs→zcp X.K H es xs→ds=es
 | [],es,_,h,h'=>by
  have h:_=[]:=h
  subst h
  cases es with
  | nil=>rfl
  | cons e es=>obtain⟨_,_,q,_⟩:=h';cases q
 | d::ds,es,_,h,h'=>by
  obtain⟨y,ys,e1,h1,h2⟩:=h
  subst e1
  cases es with
  | nil=>exact nomatch (show y::ys=[] from h')
  | cons e es=>
   obtain⟨z,zs,q,h3,h4⟩:=h'
   cases q
   rw[I.dtUniq h1 h3,I.dtsUniq h2 h4]
end
def zeG (ds es:List Dt) (j:Nat):Bool:=eqD (ds.getD j .non) (es.getD j .non)
theorem zcK:∀ ds es:List Dt,((List.range (min ds.length es.length)).all (zeG ds es) && ds.length == es.length)=ze5 ds es
 | [],[]=>rfl
 | [],_::_=>by simp[ze5]
 | _::_,[]=>by simp[ze5]
 | d::ds,e::es=>by
  have ih:=zcK ds es
  have e1:min (d::ds).length (e::es).length=min ds.length es.length + 1:=by simp only[List.length_cons];omega
  have e2:((d::ds).length == (e::es).length)=(ds.length == es.length):=by simp
  have e3:(List.range (min ds.length es.length + 1)).all (zeG (d::ds) (e::es))=(eqD d e && (List.range (min ds.length es.length)).all (zeG ds es)):=by
   rw[List.range_succ_eq_map,List.all_cons,List.all_map]
   rfl
  rw[e1,e2,e3,ze5,← ih,Bool.and_assoc]
theorem zgy {ds es:List Dt} (h:ds.length=es.length):(List.range ds.length).all (zeG ds es)=ze5 ds es:=by
 have:=zcK ds es
 rw[← h,Nat.min_self] at this
 simpa using this
theorem zei {ds es:List Dt} (h:ds.length≠es.length):ze5 ds es=false:=by
 rw[← zcK ds es]
 simp[h]
end
section
variable {X:Cx}{pins:List (Addr×Obj)}{σ:St}{H:Hp}{s:Shared}
theorem Inv.isL (I:Inv X pins σ H s){a:Addr}{xs:List V} (h:SqL X.K H a xs):∃ its:List Value,zaN xs its∧s.heap.IsList a its.toArray:=
 let ⟨its,r,pl,_⟩:=I.list h
 ⟨its,r,pl.isList⟩
theorem Inv.isT (I:Inv X pins σ H s){a:Addr}{xs:List V} (h:SqT X.K H a xs):∃ its:List Value,zaN xs its∧s.heap.IsTuple a its.toArray:=
 let ⟨its,r,pt,_⟩:=I.tuple h
 ⟨its,r,pt⟩
theorem zdQ {ds es:List Dt}{j:Nat}{d e:Dt} (h1:ds[j]?=some d) (h2:es[j]?=some e):zeG ds es j=eqD d e:=by
 unfold zeG
 rw[List.getD_eq_getElem?_getD,List.getD_eq_getElem?_getD,h1,h2]
 rfl
theorem zdR {α:Type}{l:List α}{j:Nat} (h:j<l.length):∃ x,l[j]?=some x:=⟨l[j],by simp[h]⟩
mutual
theorem Inv.eqAt (I:Inv X pins σ H s):∀ {d e:Dt}{x y:V}{u v:Value}{n:Nat}{A:Around},DtV X.K H d x→DtV X.K H e y→za3 x u→za3 y v→zdP n d→A.units + n<cLine→EqAt A s u v (eqD d e)
 | .non,e,x,y,u,v,n,A,h,h',rx,ry,_,hu=>by
  have hu:A.units<cLine:=Nat.lt_of_le_of_lt (Nat.le_add_right _ _) hu
  have h:x=V.non:=h
  subst h
  cases e with
  | non=>
   have h':y=V.non:=h'
   subst h'
   exact zbj rx ry rfl rfl
  | bl c=>
   have h':y=V.bl c:=h'
   subst h'
   exact zbj rx ry rfl rfl
  | int c=>
   have h':y=V.int c:=h'
   subst h'
   exact zbj rx ry rfl rfl
  | str c=>
   have h':y=V.str c:=h'
   subst h'
   exact zbj rx ry rfl rfl
  | lst es=>
   obtain⟨a,ys,rfl,h1,_⟩:=h'
   obtain rfl:v=Value.ref a:=ry
   obtain⟨its,_,hl⟩:=I.isL h1
   obtain rfl:u=Value.none:=rx
   exact EqAt.none_list hl hu
  | tup es=>
   obtain⟨a,ys,rfl,h1,_⟩:=h'
   obtain rfl:v=Value.ref a:=ry
   obtain⟨its,_,hl⟩:=I.isT h1
   obtain rfl:u=Value.none:=rx
   exact EqAt.none_tuple hl hu
 | .bl b,e,x,y,u,v,n,A,h,h',rx,ry,_,hu=>by
  have hu:A.units<cLine:=Nat.lt_of_le_of_lt (Nat.le_add_right _ _) hu
  have h:x=V.bl b:=h
  subst h
  cases e with
  | non=>
   have h':y=V.non:=h'
   subst h'
   exact zbj rx ry rfl rfl
  | bl c=>
   have h':y=V.bl c:=h'
   subst h'
   exact zbj rx ry rfl rfl
  | int c=>
   have h':y=V.int c:=h'
   subst h'
   exact zbj rx ry rfl rfl
  | str c=>
   have h':y=V.str c:=h'
   subst h'
   exact zbj rx ry rfl rfl
  | lst es=>
   obtain⟨a,ys,rfl,h1,_⟩:=h'
   obtain rfl:v=Value.ref a:=ry
   obtain⟨its,_,hl⟩:=I.isL h1
   obtain rfl:u=Value.bool b:=rx
   exact EqAt.bool_list b hl hu
  | tup es=>
   obtain⟨a,ys,rfl,h1,_⟩:=h'
   obtain rfl:v=Value.ref a:=ry
   obtain⟨its,_,hl⟩:=I.isT h1
   obtain rfl:u=Value.bool b:=rx
   exact EqAt.bool_tuple b hl hu
 | .int b,e,x,y,u,v,n,A,h,h',rx,ry,_,hu=>by
  have hu:A.units<cLine:=Nat.lt_of_le_of_lt (Nat.le_add_right _ _) hu
  have h:x=V.int b:=h
  subst h
  cases e with
  | non=>
   have h':y=V.non:=h'
   subst h'
   exact zbj rx ry rfl rfl
  | bl c=>
   have h':y=V.bl c:=h'
   subst h'
   exact zbj rx ry rfl rfl
  | int c=>
   have h':y=V.int c:=h'
   subst h'
   exact zbj rx ry rfl rfl
  | str c=>
   have h':y=V.str c:=h'
   subst h'
   exact zbj rx ry rfl rfl
  | lst es=>
   obtain⟨a,ys,rfl,h1,_⟩:=h'
   obtain rfl:v=Value.ref a:=ry
   obtain⟨its,_,hl⟩:=I.isL h1
   obtain⟨t,rfl⟩:=rx
   exact EqAt.int_list b t hl hu
  | tup es=>
   obtain⟨a,ys,rfl,h1,_⟩:=h'
   obtain rfl:v=Value.ref a:=ry
   obtain⟨its,_,hl⟩:=I.isT h1
   obtain⟨t,rfl⟩:=rx
   exact EqAt.int_tuple b t hl hu
 | .str b,e,x,y,u,v,n,A,h,h',rx,ry,_,hu=>by
  have hu:A.units<cLine:=Nat.lt_of_le_of_lt (Nat.le_add_right _ _) hu
  have h:x=V.str b:=h
  subst h
  cases e with
  | non=>
   have h':y=V.non:=h'
   subst h'
   exact zbj rx ry rfl rfl
  | bl c=>
   have h':y=V.bl c:=h'
   subst h'
   exact zbj rx ry rfl rfl
  | int c=>
   have h':y=V.int c:=h'
   subst h'
   exact zbj rx ry rfl rfl
  | str c=>
   have h':y=V.str c:=h'
   subst h'
   exact zbj rx ry rfl rfl
  | lst es=>
   obtain⟨a,ys,rfl,h1,_⟩:=h'
   obtain rfl:v=Value.ref a:=ry
   obtain⟨its,_,hl⟩:=I.isL h1
   obtain⟨t,rfl⟩:=rx
   exact EqAt.str_list b t hl hu
  | tup es=>
   obtain⟨a,ys,rfl,h1,_⟩:=h'
   obtain rfl:v=Value.ref a:=ry
   obtain⟨its,_,hl⟩:=I.isT h1
   obtain⟨t,rfl⟩:=rx
   exact EqAt.str_tuple b t hl hu
 | .lst ds,e,x,y,u,v,n,A,h,h',rx,ry,hd,hu=>by
  obtain⟨a,xs,rfl,g1,g2⟩:=h
  obtain rfl:u=Value.ref a:=rx
  obtain⟨its,rv,hl⟩:=I.isL g1
  cases n with
  | zero=>exact False.elim hd
  | succ n=>
  have hu0:A.units<cLine:=Nat.lt_of_le_of_lt (Nat.le_add_right _ _) hu
  cases e with
  | non=>
   have h':y=V.non:=h'
   subst h'
   obtain rfl:v=Value.none:=ry
   exact EqAt.list_none hl hu0
  | bl c=>
   have h':y=V.bl c:=h'
   subst h'
   obtain rfl:v=Value.bool c:=ry
   exact EqAt.list_bool c hl hu0
  | int c=>
   have h':y=V.int c:=h'
   subst h'
   obtain⟨t,rfl⟩:=ry
   exact EqAt.list_int c t hl hu0
  | str c=>
   have h':y=V.str c:=h'
   subst h'
   obtain⟨t,rfl⟩:=ry
   exact EqAt.list_str c t hl hu0
  | tup es=>
   obtain⟨b,ys,rfl,h1,_⟩:=h'
   obtain rfl:v=Value.ref b:=ry
   obtain⟨its',_,hl'⟩:=I.isT h1
   exact EqAt.list_tuple hl hl' hu0
  | lst es=>
   obtain⟨b,ys,rfl,h1,h2⟩:=h'
   obtain rfl:v=Value.ref b:=ry
   obtain⟨its',rv',hl'⟩:=I.isL h1
   show EqAt A s (.ref a) (.ref b) (ze5 ds es)
   by_cases hab:a=b
   ·subst hab
    have e:Dt.lst ds=Dt.lst es:=I.dtUniq ⟨a,xs,rfl,g1,g2⟩ ⟨a,ys,rfl,h1,h2⟩
    injection e with e
    subst e
    rw[zce]
    exact EqAt.same _
   ·have n1:ds.length=its.length:=g2.length.trans rv.length
    have n2:es.length=its'.length:=h2.length.trans rv'.length
    have items:∀ j (h1:j<its.toArray.size) (h2:j<its'.toArray.size),EqAt A.in1 s its.toArray[j] its'.toArray[j] (zeG ds es j):=fun j j1 j2=>by
     have j1:j<its.length:=by simpa using j1
     have j2:j<its'.length:=by simpa using j2
     obtain⟨d',hd'⟩:=zdR (l:=ds) (j:=j) (by omega)
     obtain⟨e',he'⟩:=zdR (l:=es) (j:=j) (by omega)
     obtain⟨x',hx',kx⟩:=g2.get hd'
     obtain⟨y',hy',ky⟩:=h2.get he'
     obtain⟨u',hu',ru⟩:=rv.get hx'
     obtain⟨v',hv',rv2⟩:=rv'.get hy'
     have q1:its.toArray[j]=u':=by
      have:=List.getElem?_eq_some_iff.mp hu'
      simpa using this.2
     have q2:its'.toArray[j]=v':=by
      have:=List.getElem?_eq_some_iff.mp hv'
      simpa using this.2
     rw[q1,q2,zdQ hd' he']
     exact Inv.eqAtI I ds j hd' kx ky ru rv2 (zbF.get hd hd') (show A.units + 1 + n<cLine by omega)
    by_cases hsz:its.toArray.size=its'.toArray.size
    ·have hsz':ds.length=es.length:=by simpa [n1,n2] using hsz
     rw[← zgy hsz',n1,← List.size_toArray]
     exact EqAt.of_refs hab (RcAt.lists hl hl' hsz hu0 items)
    ·rw[zei (by simpa [n1,n2] using hsz)]
     exact EqAt.of_refs hab (RcAt.lists_lengths hl hl' (by simpa using hsz) hu0)
 | .tup ds,e,x,y,u,v,n,A,h,h',rx,ry,hd,hu=>by
  obtain⟨a,xs,rfl,g1,g2⟩:=h
  obtain rfl:u=Value.ref a:=rx
  obtain⟨its,rv,hl⟩:=I.isT g1
  cases n with
  | zero=>exact False.elim hd
  | succ n=>
  have hu0:A.units<cLine:=Nat.lt_of_le_of_lt (Nat.le_add_right _ _) hu
  cases e with
  | non=>
   have h':y=V.non:=h'
   subst h'
   obtain rfl:v=Value.none:=ry
   exact EqAt.tuple_none hl hu0
  | bl c=>
   have h':y=V.bl c:=h'
   subst h'
   obtain rfl:v=Value.bool c:=ry
   exact EqAt.tuple_bool c hl hu0
  | int c=>
   have h':y=V.int c:=h'
   subst h'
   obtain⟨t,rfl⟩:=ry
   exact EqAt.tuple_int c t hl hu0
  | str c=>
   have h':y=V.str c:=h'
   subst h'
   obtain⟨t,rfl⟩:=ry
   exact EqAt.tuple_str c t hl hu0
  | lst es=>
   obtain⟨b,ys,rfl,h1,_⟩:=h'
   obtain rfl:v=Value.ref b:=ry
   obtain⟨its',_,hl'⟩:=I.isL h1
   exact EqAt.tuple_list hl hl' hu0
  | tup es=>
   obtain⟨b,ys,rfl,h1,h2⟩:=h'
   obtain rfl:v=Value.ref b:=ry
   obtain⟨its',rv',hl'⟩:=I.isT h1
   show EqAt A s (.ref a) (.ref b) (ze5 ds es)
   by_cases hab:a=b
   ·subst hab
    have e:Dt.tup ds=Dt.tup es:=I.dtUniq ⟨a,xs,rfl,g1,g2⟩ ⟨a,ys,rfl,h1,h2⟩
    injection e with e
    subst e
    rw[zce]
    exact EqAt.same _
   ·have n1:ds.length=its.length:=g2.length.trans rv.length
    have n2:es.length=its'.length:=h2.length.trans rv'.length
    have items:∀ j (h1:j<its.toArray.size) (h2:j<its'.toArray.size),EqAt A.in1 s its.toArray[j] its'.toArray[j] (zeG ds es j):=fun j j1 j2=>by
     have j1:j<its.length:=by simpa using j1
     have j2:j<its'.length:=by simpa using j2
     obtain⟨d',hd'⟩:=zdR (l:=ds) (j:=j) (by omega)
     obtain⟨e',he'⟩:=zdR (l:=es) (j:=j) (by omega)
     obtain⟨x',hx',kx⟩:=g2.get hd'
     obtain⟨y',hy',ky⟩:=h2.get he'
     obtain⟨u',hu',ru⟩:=rv.get hx'
     obtain⟨v',hv',rv2⟩:=rv'.get hy'
     have q1:its.toArray[j]=u':=by
      have:=List.getElem?_eq_some_iff.mp hu'
      simpa using this.2
     have q2:its'.toArray[j]=v':=by
      have:=List.getElem?_eq_some_iff.mp hv'
      simpa using this.2
     rw[q1,q2,zdQ hd' he']
     exact Inv.eqAtI I ds j hd' kx ky ru rv2 (zbF.get hd hd') (show A.units + 1 + n<cLine by omega)
    have q:=EqAt.of_refs hab (RcAt.tuples hl hl' hu0 items)
    rw[← zcK ds es,n1,n2]
    simpa using q
theorem Inv.eqAtI (I:Inv X pins σ H s):∀ (ds:List Dt) (j:Nat){d e:Dt}{x y:V}{u v:Value}{n:Nat}{A:Around},ds[j]?=some d→DtV X.K H d x→DtV X.K H e y→za3 x u→za3 y v→zdP n d→A.units + n<cLine→EqAt A s u v (eqD d e)
 | [],j,_,_,_,_,_,_,_,_,h,_,_,_,_,_,_=>by simp at h
 | c::_,0,d,e,x,y,u,v,n,A,h,hx,hy,ru,rv,hd,hu=>by
  simp at h
  subst h
  exact Inv.eqAt I hx hy ru rv hd hu
 | _::cs,j + 1,d,e,x,y,u,v,n,A,h,hx,hy,ru,rv,hd,hu=>Inv.eqAtI I cs j (by simpa using h) hx hy ru rv hd hu
end
theorem Inv.items (I:Inv X pins σ H s){ds es:List Dt}{xs ys:List V}{its its':List Value}{n:Nat}{A:Around} (g2:zcp X.K H ds xs) (h2:zcp X.K H es ys) (rv:zaN xs its) (rv':zaN ys its') (hd:zbF n ds)
  (hu:A.units + 1 + n<cLine):∀ j (h1:j<its.toArray.size) (h2:j<its'.toArray.size),EqAt A.in1 s its.toArray[j] its'.toArray[j] (zeG ds es j):=fun j j1 j2=>by
 have n1:ds.length=its.length:=g2.length.trans rv.length
 have n2:es.length=its'.length:=h2.length.trans rv'.length
 have j1:j<its.length:=by simpa using j1
 have j2:j<its'.length:=by simpa using j2
 obtain⟨d',hd'⟩:=zdR (l:=ds) (j:=j) (by omega)
 obtain⟨e',he'⟩:=zdR (l:=es) (j:=j) (by omega)
 obtain⟨x',hx',kx⟩:=g2.get hd'
 obtain⟨y',hy',ky⟩:=h2.get he'
 obtain⟨u',hu',ru⟩:=rv.get hx'
 obtain⟨v',hv',rv2⟩:=rv'.get hy'
 have q1:its.toArray[j]=u':=by
  have:=List.getElem?_eq_some_iff.mp hu'
  simpa using this.2
 have q2:its'.toArray[j]=v':=by
  have:=List.getElem?_eq_some_iff.mp hv'
  simpa using this.2
 rw[q1,q2,zdQ hd' he']
 exact I.eqAt kx ky ru rv2 (zbF.get hd hd') hu
def zhU:Dt→Bool
 | .lst _=>true
 | .tup _=>true
 | _=>false
theorem Inv.rcAt (I:Inv X pins σ H s){d e:Dt}{x y:V}{u v:Value}{n:Nat}{A:Around} (bd:zhU d=true) (be:zhU e=true) (h:DtV X.K H d x) (h':DtV X.K H e y) (rx:za3 x u) (ry:za3 y v) (hd:zdP n d) (hu:A.units + n<cLine) :
  RcAt A s u v (eqD d e)∧RcNeAt A s u v (!eqD d e):=by
 cases n with
 | zero=>cases d <;> first | exact False.elim hd | cases bd
 | succ n=>
 have hu0:A.units<cLine:=Nat.lt_of_le_of_lt (Nat.le_add_right _ _) hu
 have hu1:A.units + 1 + n<cLine:=by omega
 cases d with
 | lst ds=>
  obtain⟨a,xs,rfl,g1,g2⟩:=h
  obtain rfl:u=Value.ref a:=rx
  obtain⟨its,rv,hl⟩:=I.isL g1
  cases e with
  | lst es=>
   obtain⟨b,ys,rfl,h1,h2⟩:=h'
   obtain rfl:v=Value.ref b:=ry
   obtain⟨its',rv',hl'⟩:=I.isL h1
   have n1:ds.length=its.length:=g2.length.trans rv.length
   have n2:es.length=its'.length:=h2.length.trans rv'.length
   show RcAt A s (.ref a) (.ref b) (ze5 ds es)∧RcNeAt A s (.ref a) (.ref b) (!ze5 ds es)
   by_cases hsz:its.toArray.size=its'.toArray.size
   ·have hsz':ds.length=es.length:=by simpa [n1,n2] using hsz
    rw[← zgy hsz',n1,← List.size_toArray]
    exact⟨RcAt.lists hl hl' hsz hu0 (I.items g2 h2 rv rv' hd hu1),RcNeAt.lists hl hl' hsz hu0 (I.items g2 h2 rv rv' hd hu1)⟩
   ·rw[zei (by simpa [n1,n2] using hsz)]
    exact⟨RcAt.lists_lengths hl hl' (by simpa using hsz) hu0,RcNeAt.lists_lengths hl hl' (by simpa using hsz) hu0⟩
  | tup es=>
   obtain⟨b,ys,rfl,h1,_⟩:=h'
   obtain rfl:v=Value.ref b:=ry
   obtain⟨its',_,hl'⟩:=I.isT h1
   exact⟨RcAt.list_tuple hl hl' hu0,RcNeAt.list_tuple hl hl' hu0⟩
  | _=>cases be
 | tup ds=>
  obtain⟨a,xs,rfl,g1,g2⟩:=h
  obtain rfl:u=Value.ref a:=rx
  obtain⟨its,rv,hl⟩:=I.isT g1
  cases e with
  | tup es=>
   obtain⟨b,ys,rfl,h1,h2⟩:=h'
   obtain rfl:v=Value.ref b:=ry
   obtain⟨its',rv',hl'⟩:=I.isT h1
   have n1:ds.length=its.length:=g2.length.trans rv.length
   have n2:es.length=its'.length:=h2.length.trans rv'.length
   have q:=RcAt.tuples hl hl' hu0 (I.items g2 h2 rv rv' hd hu1)
   have q':=RcNeAt.tuples hl hl' hu0 (I.items g2 h2 rv rv' hd hu1)
   show RcAt A s (.ref a) (.ref b) (ze5 ds es)∧RcNeAt A s (.ref a) (.ref b) (!ze5 ds es)
   rw[← zcK ds es,n1,n2]
   exact⟨by simpa using q,by simpa using q'⟩
  | lst es=>
   obtain⟨b,ys,rfl,h1,_⟩:=h'
   obtain rfl:v=Value.ref b:=ry
   obtain⟨its',_,hl'⟩:=I.isL h1
   exact⟨RcAt.tuple_list hl hl' hu0,RcNeAt.tuple_list hl hl' hu0⟩
  | _=>cases be
 | _=>cases bd
def rEqD (K:PySem.W.Frag) (neg:Bool):R2:=fun x y H Q=>∃ d e,zhU d=true∧zhU e=true∧DtV K H d x∧DtV K H e y∧zdP 60 d∧Q (.bl (if neg then !eqD d e else eqD d e)) H
theorem op_eqD (hu:X.A.units + 64<cLine):OpR X (compareOp .Eq) (rEqD X.K false):=by
 intro pins s σ H x y v u Q I rx ry h
 obtain⟨d,e,bd,be,h1,h2,hd,q⟩:=h
 exact(I.rcAt bd be h1 h2 rx ry hd (by omega)).1 X.prog X.w _ _ ⟨.bl _,H,I,rfl,q⟩
theorem zfq (hu:X.A.units + 64<cLine):OpR X (compareOp .NotEq) (rEqD X.K true):=by
 intro pins s σ H x y v u Q I rx ry h
 obtain⟨d,e,bd,be,h1,h2,hd,q⟩:=h
 exact(I.rcAt bd be h1 h2 rx ry hd (by omega)).2 X.prog X.w _ _ ⟨.bl _,H,I,rfl,q⟩
end
end L2
namespace L2
open PySem PySem.Spec PyProof.Rows
section
variable {X:Cx}
theorem zdg {x:Str}{a:Addr}{pos:Pos} (hg:Gl X x) (hm:X.mg x=some (.ref a)) (hd:(x == ("__debug__":Str))=false:=by decide):PE X (.Name x pos) (tC (.ref a)):=zfX hg hm rfl hd
def clsOf:V→Option Value
 | .ref a=>some (.ref a)
 | .ty n=>some (.type n)
 | _=>none
theorem zhV {c:V}{u k:Value} (r:za3 c u) (e:clsOf c=some k):u=k:=by
 cases c with
 | ref a=>
  cases e
  exact r
 | ty n=>
  cases e
  exact r
 | _=>cases e
theorem zcz:zcl X (.builtin "isinstance") (fun xs H Q=>∃ x c k t b,xs=[x,c]∧clsOf c=some k∧zg1 X.K H x t∧PySem.W.kitOne X.K t k=some b∧Q (.bl b) H):=by
 intro pins s σ H xs us Q I r h
 obtain⟨x,c,k,t,b,rfl,ec,ty,eb,q⟩:=h
 obtain⟨u,v,rfl,rx,rc⟩:=zi6 r
 have e:=zhV rc ec
 subst e
 exact zhI I rx ty eb fun tk=>⟨.bl b,H,I.tok tk,rfl,q⟩
theorem zej {ys:List Str}:∀ {us:List Value},zaN (ys.map V.str) us→StrsAre us ys:=by
 induction ys with
 | nil=>
  intro us r
  cases r
  exact .nil
 | cons y ys ih=>
  intro us r
  cases r with
  | cons r1 r2=>
   obtain⟨t,rfl⟩:=r1
   exact .cons _ _ (ih r2)
def rJoin (K:PySem.W.Frag):V→List V→Hp→VK→Prop:=fun x vs H Q=>∃ z a ys,x=.str z∧vs=[.ref a]∧SqL K H a (ys.map V.str)∧(ys.map (·.length)).sum + ys.length * z.length≤16777216∧Q (.str (Txt.join z ys)) H
theorem zc2:MtR X "str.join" (rJoin X.K):=by
 intro pins s σ H x xs v us Q I rx r h
 obtain⟨z,a,ys,rfl,rfl,hl,hz,q⟩:=h
 obtain⟨t,rfl⟩:=rx
 obtain⟨u,rfl,ru⟩:=zcX r
 obtain rfl:u=Value.ref a:=ru
 obtain⟨its,rv,pl,_⟩:=I.list hl
 exact join_list pl.isList (by simpa using zej rv) hz fun t' k=>⟨.str _,H,I.tok _,⟨_,rfl⟩,q⟩
end
end L2
namespace L2
open PySem PySem.Spec PyProof.Rows
structure ExcAt (H:Hp) (h:Heap) (a:Addr) (c:Value) (dd:Option Addr) (tb:Option (Addr×Value)):Prop where
 ob:∃ o vs,h.get? a=some o∧o.cls=c∧o.dict=dd∧o.data=.fields vs∧vs.size=6∧(∃ cs,zhz H cs∧vs[2]?=some (nxt cs 0))∧vs[1]?=some (match tb with|none=>.none|some p=>.ref p.1)
 tr:∀ p,tb=some p→p.1≠a∧∃ oT ts,h.get? p.1=some oT∧oT.data=.fields ts∧ts[3]?=some p.2
structure Exc (X:Cx) (pins:List (Addr×Obj)) (H:Hp) (h:Heap) (a:Addr) (c:Value) (dd:Option Addr) (tb:Option (Addr×Value)):Prop where
 fp:zdn X pins H a
 fpT:∀ p,tb=some p→zdn X pins H p.1
 at_:ExcAt H h a c dd tb
theorem zea (o:Obj) (f:Array Value→Array Value):(o.mapFields f).dict=o.dict:=by
 obtain⟨c,d,dt,sl⟩:=o
 cases dt <;> rfl
section
variable {X:Cx}{pins:List (Addr×Obj)}{σ:St}{H:Hp}{s:Shared}{a:Addr}{c:Value}{dd:Option Addr}
theorem Inv.slot0 {h':Heap}{ch:List Addr}{tk:Nat} (I:Inv X pins σ H s) (hch:∀ b∈ch,zdn X pins H b) (keep:∀ b o,b∉frs X.stack→b∉ch→s.heap.get? b=some o→h'.get? b=some o)
  (slot:∀ b o,b∈frs X.stack→s.heap.get? b=some o→∃ sl,h'.get? b=some { o with slots:=sl }):Inv X pins σ H { s with heap:=h',toks:=tk }:=by
 have any:∀ b o,b∉ch→s.heap.get? b=some o→∃ sl,h'.get? b=some { o with slots:=sl }:=fun b o hc e=>by
  by_cases hb:b∈frs X.stack
  ·exact slot b o hb e
  ·exact⟨o.slots,keep b o hb hc e⟩
 have sub:∀ b,b∈frs X.stack→b=X.env.locals∨b∈X.fs:=fun b hb=>List.mem_cons.mp (I.stkSub b hb)
 refine I.step (g':=s.gens) (d':=s.drawn) (ch:=ch) (fun b hb=>?_) (fun b o hL hf hc e _=>keep b o (fun z=>(sub b z).elim hL hf) hc e) (fun b o _ _ hc e _=>any b o hc e) (fun _ _ _ _ n=>n) (fun b o hc e=>?_)
  (fun _ _ e=>e) (fun _ _ _ e=>e) (fun _ _ _ e=>e) (fun m hm=>?_) (fun b u e=>?_) I.bare
 ·obtain⟨_,f1,_,f3,f4,f5⟩:=hch b hb
  exact⟨f3,f1,f4,f5⟩
 ·obtain⟨sl,q⟩:=any b o hc e
  exact⟨_,q⟩
 ·obtain⟨o,es,ep,ho,r⟩:=hm
  obtain⟨sl,q⟩:=any _ o (fun z=>(hch _ z).2.1 rfl) ho
  exact⟨_,es,ep,q,r⟩
 ·have nf:∀ d v,H d=some v→d∉frs X.stack∧d∉ch:=fun d v q=>⟨fun z=>(by rw[I.stkFree d z] at q;cases q),fun z=>(by rw[(hch d z).1] at q;cases q)⟩
  refine(I.hok b u e).stay (fun d v hd q=>?_) (fun _ q=>q) fun _ _ q=>q
  rcases hd with z|z
  ·subst z
   exact keep d v (nf d _ e).1 (nf d _ e).2 q
  ·exact keep d v (nf d _ z).1 (nf d _ z).2 q
theorem Inv.slots {h':Heap}{ch:List Addr}{tk:Nat} (I:Inv X pins σ H s) (hch:∀ b∈ch,zdn X pins H b) (keep:∀ b o,b∉frs X.stack→b∉ch→s.heap.get? b=some o→h'.get? b=some o)
  (slot:∀ b o,b∈frs X.stack→s.heap.get? b=some o→∃ sl,h'.get? b=some { o with slots:=sl }) (_:∀ b∈ch,∀ o,s.heap.get? b=some o→∃ o',h'.get? b=some o'):Inv X pins σ H { s with heap:=h',toks:=tk }:=I.slot0 hch keep slot
def Body (X:Cx):Prop:=X.stack=X.env::X.outer∧X.env.frame=some X.env.locals
theorem zek {M:Model}{E:Value→Shared→Prop}{Q:Unit→Shared→Prop}{o:Obj}{vs:Array Value}{head:Value}{hadNext:Bool} (B:Body X) (I:Inv X pins σ H s) (fp:zdn X pins H a) (he:s.heap.get? a=some o) (hd:o.data=.fields vs) (hz:vs.size=6)
  (hQ:∀ s' T,Inv X pins σ H s'→s.heap.objs.size≤T→zdn X pins H T→T≠a→s'.heap.get? a=some (o.mapFields (·.setIfInBounds 1 (.ref T)))→(∃ oT ts,s'.heap.get? T=some oT∧oT.data=.fields ts∧ts[3]?=some (rawInt X.env.locals))→Q () s') :
  wpAny M X.A (do let f ← frameOf X.env;let pl ← entryPlaceOf X.env.locals hadNext;let b ← EntryCells.newEntry head f .none (rawInt X.env.locals) .none pl;setField (.ref a) 1 b) Q E s:=by
 have hl:=I.stack
 rw[B.1] at hl
 have hfr:X.A.frames=some (X.env::X.outer):=by rw[I.ok.frames,B.1]
 have nfr:∀ b,zdn X pins H b→b∉frs X.stack:=fun b f z=>(List.mem_cons.mp (I.stkSub b z)).elim f.2.1 f.2.2.1
 refine wpAny_bind (wpAny_frameOf_fun hfr hl B.2 fun h₁ hs₁=>?_)
 rw[← B.1] at hs₁
 refine wpAny_bind (wpAny_entryPlaceOf fun pl hpl=>?_)
 simp only[EntryCells.newEntry,newFields]
 refine wpAny_bind (wpAny_newObj_type ?_ (hpl.sizeOk5 _ _ _ _ _))
 generalize hoT:({ cls:=.type "traceback",dict:=none,data:=.fields ([head,.ref X.env.locals,.none,rawInt X.env.locals,.none]++(if pl.isEmpty then List.replicate 6 Value.none else pl)).toArray }:Obj)=oT
 have e1:h₁.get? a=some o:=(hs₁.2.1 a (nfr a fp)).trans he
 have e2:(h₁.push oT).get? a=some o:=Heap.get?_push_of_some _ e1
 have hsz:s.heap.objs.size=h₁.objs.size:=hs₁.1.symm
 have hTa:h₁.objs.size≠a:=Nat.ne_of_gt (Heap.lt_size e1)
 have hd3:=Obj.data_mapFields hd (·.setIfInBounds 1 (Value.ref h₁.objs.size))
 have e3:=Heap.get?_update_self (Obj.mapFields (·.setIfInBounds 1 (Value.ref h₁.objs.size))) e2 (Obj.isFreed_of_fields hd3)
 have eT:((h₁.push oT).update a (Obj.mapFields (·.setIfInBounds 1 (Value.ref h₁.objs.size)))).get? h₁.objs.size=some oT:=
  (Heap.get?_update_other _ _ (Ne.symm hTa)).trans (Heap.get?_push_size h₁ (by rw[← hoT];rfl))
 have kp:∀ b q,b≠a→h₁.get? b=some q→((h₁.push oT).update a (Obj.mapFields (·.setIfInBounds 1 (Value.ref h₁.objs.size)))).get? b=some q:=fun b q hb e=>
  (Heap.get?_update_other _ _ (Ne.symm hb)).trans (Heap.get?_push_of_some _ e)
 refine wpAny_setField e2 hd (by rw[hz];decide) ?_
 refine hQ _ h₁.objs.size (I.slots (ch:=[a]) (tk:=s.toks) (fun b hb=>?_) (fun b q hb hc e=>?_) (fun b q hb e=>?_) (fun b hb q e=>?_)) (Nat.le_of_eq hsz) (I.fpOk (Nat.le_of_eq hsz) (I.hok.fresh (Nat.le_of_eq hsz))) hTa e3 ⟨oT,_,eT,by rw[← hoT],?_⟩
 ·rw[List.mem_singleton.mp hb];exact fp
 ·exact kp b q (fun z=>hc (by simp[z])) ((hs₁.2.1 b hb).trans e)
 ·obtain⟨sl,q'⟩:=hs₁.2.2 b q e
  refine⟨sl,kp b _ (fun z=>?_) q'⟩
  subst z
  exact nfr b fp hb
 ·rw[List.mem_singleton.mp hb];exact⟨_,e3⟩
 ·first|(simp;done)|(rcases hpl with rfl|⟨_,_,_,_,_,_,_,rfl⟩ <;> simp)
theorem vs_set {vs:Array Value}{v:Value}{H:Hp} (hz:vs.size=6) (h2:∃ cs,zhz H cs∧vs[2]?=some (nxt cs 0)):(vs.setIfInBounds 1 v).size=6∧(∃ cs,zhz H cs∧(vs.setIfInBounds 1 v)[2]?=some (nxt cs 0))∧(vs.setIfInBounds 1 v)[1]?=some v:=by
 refine⟨by simpa using hz,?_,?_⟩
 ·obtain⟨cs,hc,h2⟩:=h2
  exact⟨cs,hc,by rw[Array.getElem?_setIfInBounds_ne (by decide)];exact h2⟩
 ·simp[hz]
theorem Inv.note {M:Model}{E:Value→Shared→Prop}{Q:Unit→Shared→Prop}{tb:Option (Addr×Value)} (B:Body X) (I:Inv X pins σ H s) (x:Exc X pins H s.heap a c dd tb) (hfl:∀ p,tb=some p→p.2=.none∨p.2=rawInt X.env.locals)
  (hQ:∀ s' T,Inv X pins σ H s'→Exc X pins H s'.heap a c dd (some (T,rawInt X.env.locals))→Q () s'):wpAny M X.A (noteFrame (.ref a) X.env) Q E s:=by
 obtain⟨o,vs,h1,hc,hdd,hd,hz,h2,hv1⟩:=x.at_.ob
 have fin:∀ s' T,Inv X pins σ H s'→zdn X pins H T→T≠a→s'.heap.get? a=some (o.mapFields (·.setIfInBounds 1 (.ref T)))→(∃ oT ts,s'.heap.get? T=some oT∧oT.data=.fields ts∧ts[3]?=some (rawInt X.env.locals))→Q () s':=fun s' T I' fT ne e' tr=>by
  obtain⟨z1,z2,z3⟩:=vs_set (v:=.ref T) hz h2
  refine hQ s' T I' ⟨x.fp,fun p q=>?_,⟨_,_,e',(Obj.cls_mapFields _ _).trans hc,(zea _ _).trans hdd,Obj.data_mapFields hd _,z1,z2,z3⟩,fun p q=>?_⟩
  ·cases q;exact fT
  ·cases q;exact⟨ne,tr⟩
 unfold noteFrame
 simp only[B.2]
 cases tb with
 | none=>
  refine wpAny_bind (wpAny_field h1 hd hv1 ?_)
  rw[if_neg (by decide)]
  exact zek B I x.fp h1 hd hz fun s' T I' _ fT ne e' tr=>fin s' T I' fT ne e' tr
 | some p=>
  obtain⟨T,fl⟩:=p
  obtain⟨ne,oT,ts,hT,hdT,h3⟩:=x.at_.tr _ rfl
  refine wpAny_bind (wpAny_field h1 hd hv1 ?_)
  rw[if_pos (show(Value.ref T != Value.none)=true from by simp)]
  refine wpAny_bind (wpAny_field hT hdT h3 ?_)
  rcases hfl _ rfl with z|z
  ·have z:fl=.none:=z
   subst z
   rw[if_neg (show ¬ ((Value.none == rawInt X.env.locals)=true) from by simp[rawInt])]
   refine wpAny_bind (wpAny_setField hT hdT (Array.getElem?_eq_some_iff.mp h3).1 ?_)
   have other:∀ b,b≠T→(s.heap.update T (Obj.mapFields (·.setIfInBounds 3 Value.none))).get? b=s.heap.get? b:=fun b hb=>Heap.get?_update_other _ _ (Ne.symm hb)
   have nfr:T∉frs X.stack:=fun z=>(List.mem_cons.mp (I.stkSub T z)).elim (x.fpT _ rfl).2.1 (x.fpT _ rfl).2.2.1
   have I1:Inv X pins σ H { s with heap:=s.heap.update T (Obj.mapFields (·.setIfInBounds 3 Value.none)) }:=I.slots (ch:=[T]) (tk:=s.toks) (fun b hb=>by rw[List.mem_singleton.mp hb];exact x.fpT _ rfl)
    (fun b q _ hc e=>(other b fun z=>hc (by simp[z])).trans e) (fun b q hb e=>⟨q.slots,(other b fun z=>nfr (z ▸ hb)).trans e⟩)
    (fun b hb q e=>(by obtain rfl:=List.mem_singleton.mp hb;exact⟨_,Heap.get?_update_self _ hT (Obj.isFreed_of_fields (Obj.data_mapFields hdT _))⟩))
   exact zek B I1 x.fp ((other a (Ne.symm ne)).trans h1) hd hz fun s' T' I' _ fT' ne' e' tr=>fin s' T' I' fT' ne' e' tr
  ·have z:fl=rawInt X.env.locals:=z
   subst z
   rw[if_pos (show(rawInt X.env.locals == rawInt X.env.locals)=true from beq_self_eq_true _)]
   exact wpAny_pure (hQ s T I x)
theorem Inv.land {M:Model}{E:Value→Shared→Prop}{Q:Unit→Shared→Prop}{T:Addr}{fl:Value}{A:Around} (I:Inv X pins σ H s) (x:Exc X pins H s.heap a c dd (some (T,fl)))
  (hQ:∀ s',Inv X pins σ H s'→Exc X pins H s'.heap a c dd (some (T,.none))→Q () s'):wpAny M A (setFlight (.ref a) none) Q E s:=by
 obtain⟨o,vs,h1,hc,hdd,hd,hz,h2,hv1⟩:=x.at_.ob
 obtain⟨ne,oT,ts,hT,hdT,h3⟩:=x.at_.tr _ rfl
 have h33:3<ts.size:=(Array.getElem?_eq_some_iff.mp h3).1
 unfold setFlight
 refine wpAny_bind (wpAny_field h1 hd hv1 ?_)
 rw[if_pos (show(Value.ref T != Value.none)=true from by simp)]
 refine wpAny_setField hT hdT h33 ?_
 have other:∀ b,b≠T→(s.heap.update T (Obj.mapFields (·.setIfInBounds 3 ((none:Option Addr).elim Value.none fun f=>rawInt f)))).get? b=s.heap.get? b:=fun b hb=>Heap.get?_update_other _ _ (Ne.symm hb)
 have self:=Heap.get?_update_self (Obj.mapFields (·.setIfInBounds 3 ((none:Option Addr).elim Value.none fun f=>rawInt f))) hT (Obj.isFreed_of_fields (Obj.data_mapFields hdT _))
 have nfr:T∉frs X.stack:=fun z=>(List.mem_cons.mp (I.stkSub T z)).elim (x.fpT _ rfl).2.1 (x.fpT _ rfl).2.2.1
 refine hQ _ (I.slots (ch:=[T]) (tk:=s.toks) (fun b hb=>by rw[List.mem_singleton.mp hb];exact x.fpT _ rfl) (fun b q _ hc e=>(other b fun z=>hc (by simp[z])).trans e)
  (fun b q hb e=>⟨q.slots,(other b fun z=>nfr (z ▸ hb)).trans e⟩) (fun b hb q e=>(by obtain rfl:=List.mem_singleton.mp hb;exact⟨_,self⟩))) ⟨x.fp,fun p q=>?_,⟨o,vs,(other a (Ne.symm ne)).trans h1,hc,hdd,hd,hz,h2,hv1⟩,fun p q=>?_⟩
 ·cases q;exact x.fpT (T,fl) rfl
 ·cases q;exact⟨ne,_,_,self,Obj.data_mapFields hdT _,by simp[h33]⟩
end
def CXe (P:Program) (w:World):CXT:=fun outer H s E e s'=>∃ a c dd T H',e=.ref a∧s'.os=s.os∧AllBare s'.gens∧Un (frs outer) [] H H' s.heap s'.heap∧HOk P w H' s'.heap ∧
 (s.heap.objs.size≤a∧H' a=none)∧(s.heap.objs.size≤T∧H' T=none)∧ExcAt H' s'.heap a c dd (some (T,.none))∧E c dd H'
abbrev RK:=St→XK
def PX (X:Cx) (R:RK):Prop:=∀ (pins:List (Addr×Obj)) (σ:St) (H:Hp) (s:Shared) (a:Addr) (c:Value) (dd:Option Addr) (tb:Option Addr),Inv X pins σ H s→Exc X pins H s.heap a c dd (tb.map fun T=>(T,Value.none))→R σ c dd H→X.xe (.ref a) s
theorem zhW {tb:Option Addr}{v:Value}:∀ p,(tb.map fun T=>(T,Value.none))=some p→p.2=Value.none∨p.2=v:=fun p e=>by
 cases tb with
 | none=>cases e
 | some T=>cases e;exact .inl rfl
theorem zaE {P:Program}{w:World}{K:PySem.W.Frag}{mg:Str→Option Value}{base:Heap}{N:List Str}{qual:Str}{scope:Scope}{f:Addr}{cd:Value}{A:Around}{outer:List Env}{s:Shared}{H:Hp}{E:XK} :
  PX (ziZ (CXe P w) P w K mg base N qual scope f cd A outer s H E) (fun _=>E):=by
 intro pins σ H' s1 a c dd tb I x hE
 have B:Body (ziZ (CXe P w) P w K mg base N qual scope f cd A outer s H E):=⟨rfl,rfl⟩
 show wpAny _ _ (leaving _ (.ref a)) _ _ s1
 unfold leaving
 refine wpAny_bind (I.note B x zhW fun s2 T I2 x2=>?_)
 refine I2.land x2 fun s3 I3 x3=>?_
 have sz:∀ b,zdn (ziZ (CXe P w) P w K mg base N qual scope f cd A outer s H E) pins H' b→s.heap.objs.size≤b∧H' b=none:=fun b fb=>by
  refine⟨?_,fb.1⟩
  rcases fb.2.2.2.1 with z|z
  ·exact absurd (show b∈([]:List Addr) from z) (by simp)
  ·exact z
 exact⟨a,c,dd,T,H',rfl,I3.os,I3.bare,I3.base,I3.hok,sz a x3.fp,sz T (x3.fpT _ rfl),x3.at_,hE⟩
theorem zkD {X:Cx}{R:RK} (hp:PX X R):∀ (pins:List (Addr×Obj)) (σ:St) (H:Hp) (s:Shared) (e:Value) (s':Shared),Inv X pins σ H s→CXe X.prog X.w X.stack H s (R σ) e s'→X.xe e s':=by
 intro pins σ H s e s' I h
 obtain⟨a,c,dd,T,H',rfl,os,bare,un,hok,ha,hT,x,hE⟩:=h
 have I':Inv X pins σ H' s':=I.call' os un hok bare fun b z=>absurd z (by simp)
 refine hp pins σ H' s' a c dd (some T) I' ⟨I.fpOk ha.1 ha.2,fun p q=>?_,x⟩ hE
 cases q
 exact I.fpOk hT.1 hT.2
end L2
namespace L2
open PySem PySem.Spec PyProof.Rows
section
variable {prog:Program}{w:World}{A:Around}{E:Value→Shared→Prop}{h:Heap}{g:Array GenState}{d:Drawn}{t:Nat}{os:OsState}
variable {nm q:Str}{C N:Addr}{bs bm bmB:List Value}{hdct:Bool}{sn:List Str}{sub:List Value}{ab:Bool}{col:Option Bool}{dd:Option Addr}{k0 k1 k2 k3 k5:Option Value}{B newId initId:String}
abbrev zb0 (C t:Addr):Obj:={ cls:=.ref C,data:=.fields #[.ref t,.none,.none,.none,.bool false,.none] }
abbrev zcf (zbH:List Value):Obj:={ cls:=.type "tuple",data:=.seq zbH.toArray }
theorem zhX (F:ExcBaseFacts B newId initId bmB) (T:OwnTail h bmB bm){zbH:List Value}{Q:Value→Shared→Prop}
  (oC:h.get? C=some (excClassObj nm q C N bs bm hdct sn sub ab col dd k0 k1 k2 k3 k5 newId)) (lk:PySem.W.Looks (model prog w) h (typeLookup (.ref C) "__init__") (some (.builtin initId))) (few:zbH.length≤sizeLine)
  (fin:∀ h',(∀ b o,h.get? b=some o→h'.get? b=some o)→h'.get? (h.objs.size + 1)=some (zb0 C (h.objs.size + 2))→Q (.ref (h.objs.size + 1)) ⟨h',g,d,t,os⟩) :
  wpAny (model prog w) A (call (.ref C) zbH) Q E ⟨h,g,d,t,os⟩:=by
 have l1:=tc_lookup
 have l2:=tc_bind (.ref C)
 have tyC:(⟨h,g,d,t,os⟩:Shared).TypeIs (.ref C) "type":=⟨_,oC,rfl⟩
 refine wpAny_call (codeAny_of_tree ?_)
 show wpAny _ _ (callAny (.ref C) _) _ _ _
 repeat (any_goals (first|assumption|(with_reducible refine wpAny_loadPart_at oC ?_)|wp_step))
 refine⟨rfl,codeAny_call_builtin_at (Code.quiet_builtin _ (by decide +kernel)) entry_typeCall (wpAny_check_type_call_sub oC ?_)⟩
 show wpAny _ (A.under (.builtin "type.__call__" ⟨.ref C::zbH,[]⟩)) (Builtin.«type.__call__» ⟨.ref C::zbH,[]⟩) _ _ _
 repeat (first|(with_reducible refine wpAny_loadPart_at oC ?_)|(with_reducible refine wpAny_madeBy_exc oC ?_)|wp_step)
 refine codeAny_call_builtin_code (Code.quiet_builtin _ F.quiet) (wpAny_check_new_subT F T oC (codeAny_exc_new_subT F T oC ?_ few))
 show wpAny _ _ _ _ _ _
 have kk:∀ b o,h.get? b=some o→((h.push (zcf zbH)).push (zb0 C h.objs.size)).get? b=some o:=fun b o e=>Heap.get?_push_of_some _ (Heap.get?_push_of_some _ e)
 have oC1:=kk _ _ oC
 have oX:((h.push (zcf zbH)).push (zb0 C h.objs.size)).get? (h.objs.size + 1)=some { cls:=.ref C,data:=.fields #[.ref h.objs.size,.none,.none,.none,.bool false,.none] }:=by heap_get
 have isC:(Value.ref C::bm).contains (.ref C)=true:=by simp
 have T1:=T.keeps kk
 unfold isInstance
 repeat (first|(with_reducible refine wpAny_loadPart_at oX ?_)|(with_reducible refine wpAny_isSubtype_exc oC1 ?_;rw[isC])|wp_step)
 show wpAny _ _ (typeLookup (.ref C) _) _ _ _
 refine lk _ _ _ _ kk ?_
 refine wpAny_holding (wpAny_bind (wpAny_of_eq (F.init.bind _) (wpAny_bind (wpAny_call (codeAny_call_builtin F.init.plain F.initEntry (wpAny_check_init_subT F T1 oC1 oX rfl ?_))))))
 wp_walk
 refine fin _ (fun b o hb=>?_) ?_
 ·rw[Heap.get?_update_other _ _ (Nat.ne_of_gt (Nat.lt_succ_of_lt (Heap.lt_size hb)))]
  exact Heap.get?_push_of_some _ (kk b o hb)
 ·rw[Heap.get?_update_self _ (Heap.get?_push_of_some _ oX) rfl]
  simp only[Heap.size_push];rfl
theorem zfr (F:ExcBaseFacts B newId initId bmB) (T:OwnTail h bmB bm){zbH:List Value}{fI:Addr}{oI:Obj}{Q:Value→Shared→Prop}
  (oC:h.get? C=some (excClassObj nm q C N bs bm hdct sn sub ab col dd k0 k1 k2 k3 k5 newId)) (lk:PySem.W.Looks (model prog w) h (typeLookup (.ref C) "__init__") (some (.ref fI))) (oF:h.get? fI=some oI) (fF:oI.cls=.type "function") (few:zbH.length≤sizeLine)
  (fin:wpAny (model prog w) (A.under (.builtin "type.__call__" ⟨.ref C::zbH,[]⟩)) (call (.ref fI) (.ref (h.objs.size + 1)::zbH)) (fun r s'=>r=.none∧Q (.ref (h.objs.size + 1)) s') E ⟨(h.push (zcf zbH)).push (zb0 C h.objs.size),g,d,t,os⟩) :
  wpAny (model prog w) A (call (.ref C) zbH) Q E ⟨h,g,d,t,os⟩:=by
 have l1:=tc_lookup
 have l2:=tc_bind (.ref C)
 have tyC:(⟨h,g,d,t,os⟩:Shared).TypeIs (.ref C) "type":=⟨_,oC,rfl⟩
 refine wpAny_call (codeAny_of_tree ?_)
 show wpAny _ _ (callAny (.ref C) _) _ _ _
 repeat (any_goals (first|assumption|(with_reducible refine wpAny_loadPart_at oC ?_)|wp_step))
 refine⟨rfl,codeAny_call_builtin_at (Code.quiet_builtin _ (by decide +kernel)) entry_typeCall (wpAny_check_type_call_sub oC ?_)⟩
 show wpAny _ (A.under (.builtin "type.__call__" ⟨.ref C::zbH,[]⟩)) (Builtin.«type.__call__» ⟨.ref C::zbH,[]⟩) _ _ _
 repeat (first|(with_reducible refine wpAny_loadPart_at oC ?_)|(with_reducible refine wpAny_madeBy_exc oC ?_)|wp_step)
 refine codeAny_call_builtin_code (Code.quiet_builtin _ F.quiet) (wpAny_check_new_subT F T oC (codeAny_exc_new_subT F T oC ?_ few))
 show wpAny _ _ _ _ _ _
 have kk:∀ b o,h.get? b=some o→((h.push (zcf zbH)).push (zb0 C h.objs.size)).get? b=some o:=fun b o e=>Heap.get?_push_of_some _ (Heap.get?_push_of_some _ e)
 have oC1:=kk _ _ oC
 have oF1:=kk _ _ oF
 have oX:((h.push (zcf zbH)).push (zb0 C h.objs.size)).get? (h.objs.size + 1)=some { cls:=.ref C,data:=.fields #[.ref h.objs.size,.none,.none,.none,.bool false,.none] }:=by heap_get
 have isC:(Value.ref C::bm).contains (.ref C)=true:=by simp
 unfold isInstance
 repeat (first|(with_reducible refine wpAny_loadPart_at oX ?_)|(with_reducible refine wpAny_isSubtype_exc oC1 ?_;rw[isC])|wp_step)
 show wpAny _ _ (typeLookup (.ref C) _) _ _ _
 refine lk _ _ _ _ kk ?_
 refine wpAny_holding (wpAny_bind ?_)
 unfold bindSpecial
 refine wpAny_bind (wpAny_typeOf (T:="function") ⟨_,oF1,fF⟩ ?_)
 rw[if_pos (by decide)]
 refine wpAny_pure (wpAny_bind (wpAny_mono fin (fun r s' z=>?_) fun _ _ x=>x))
 obtain⟨rfl,z⟩:=z
 wp_walk
 exact z
theorem zg8 {M:Model}{env:Env}{s:Shared}{x:Sem Value}{Q:Flow→Shared→Prop} (hb:bm.contains (.type "BaseException")=true)
  (hx:wpAny M A x (fun v s₁=>∃ e t dx,v=.ref e∧s₁.heap.get? C=some (excClassObj nm q C N bs bm hdct sn sub ab col dd k0 k1 k2 k3 k5 newId)∧s₁.heap.get? e=some { cls:=.ref C,dict:=dx,data:=.fields #[.ref t,.none,.none,.none,.bool false,.none] }∧wpAny M A (raiseNew (.ref e):Sem Flow) Q E s₁) E s) :
  wpAny M A (raiseStmt env (some x) none) Q E s:=by
 have isB:(Value.ref C::bm).contains (.type "BaseException")=true:=by rw[List.contains_cons,hb,Bool.or_true]
 unfold raiseStmt
 refine wpAny_bind (wpAny_mono hx (fun v s₁ z=>?_) fun _ _ y=>y)
 obtain⟨e,t,dx,rfl,oC,oe,z⟩:=z
 obtain⟨hp,g,d,tk,os⟩:=s₁
 repeat (first|exact z|(with_reducible refine wpAny_loadPart_at oe ?_)|(with_reducible refine wpAny_loadPart_at oC ?_)|(with_reducible refine wpAny_isSubtype_exc oC ?_;rw[isB])|wp_step)
end
def zhY (K:PySem.W.Frag) (C:Addr) (bmB:List Value) (newId:String):Bool:=match K.lookup C with
 | some ⟨.type "type",_,.cls cd,sl⟩=>(match cd.mro,sl.toList with
  | .ref C1::bm,[_,_,_,_,some (.builtin n),_]=>C1 == C && n == newId && !cd.hasDel && PySem.W.tailIn K bmB bm
  | _,_=>false)
 | _=>false
structure XCls (h:Heap) (C:Addr) (bmB bm:List Value) (newId:String):Prop where
 obj:∃ nm q N bs hdct sn sub ab col dd k0 k1 k2 k3 k5,h.get? C=some (excClassObj nm q C N bs bm hdct sn sub ab col dd k0 k1 k2 k3 k5 newId)
 tail:OwnTail h bmB bm
theorem zbB {K:PySem.W.Frag}{h:Heap}{C:Addr}{bmB:List Value}{newId:String} (X:K.In h) (e:zhY K C bmB newId=true):∃ bm,XCls h C bmB bm newId:=by
 unfold zhY at e
 split at e
 ·rename_i d1 c1 s1 at1
  split at e
  ·rename_i C1 bm j0 j1 j2 j3 n1 j5 m1 z1
   simp only[Bool.and_eq_true,beq_iff_eq,Bool.not_eq_true'] at e
   obtain⟨⟨⟨rfl,rfl⟩,nd⟩,tl⟩:=e
   obtain⟨f1,f2,f3,f4,f5,f6,f7,f8,f9,f10,f11⟩:=c1
   dsimp only at m1 nd
   subst m1 nd
   obtain rfl:s1=#[j0,j1,j2,j3,some (.builtin n1),j5]:=by
    obtain⟨l1⟩:=s1
    simp only at z1
    rw[z1]
   exact⟨bm,⟨f1,f5,f4,f2,f6,f7,f8,f9,f10,d1,j0,j1,j2,j3,j5,X _ _ at1⟩,PySem.W.tail_of_in X tl⟩
  ·cases e
 ·cases e
end L2
namespace L2
open PySem PySem.Spec PyProof.Rows PySem.Builtin.ObjectAttr
abbrev bmV:List Value:=[.type "ValueError",.type "Exception",.type "BaseException",.type "object"]
theorem passV (self:Value):refuseLoop self "__setattr__" bmV=pure ():=by kernel_rfl
def zlJ:List Value→Bool
 | .ref _::r=>zlJ r
 | l=>l == bmV
theorem zfs (self:Value):∀ {l:List Value},zlJ l=true→refuseLoop self "__setattr__" l=pure ()
 | .ref c::r,e=>by rw[refuseLoop_ref];exact zfs self (l:=r) (by simpa [zlJ] using e)
 | [],e=>by cases e
 | .type n::r,e=>by rw[beq_iff_eq.mp (show((Value.type n::r) == bmV)=true from e)];exact passV self
 | .none::r,e=>by cases e
 | .bool _::r,e=>by cases e
 | .int _ _::r,e=>by cases e
 | .str _ _::r,e=>by cases e
 | .bytes _ _::r,e=>by cases e
 | .float _ _::r,e=>by cases e
 | .builtin _::r,e=>by cases e
 | .notImplemented::r,e=>by cases e
 | .ellipsis::r,e=>by cases e
theorem zgz:∀ {l:List Value},zlJ l=true→l.contains (.type "object")=true
 | .ref c::r,e=>by rw[List.contains_cons,zgz (l:=r) (by simpa [zlJ] using e),Bool.or_true]
 | [],e=>by cases e
 | .type n::r,e=>by rw[beq_iff_eq.mp (show((Value.type n::r) == bmV)=true from e)];rfl
 | .none::r,e=>by cases e
 | .bool _::r,e=>by cases e
 | .int _ _::r,e=>by cases e
 | .str _ _::r,e=>by cases e
 | .bytes _ _::r,e=>by cases e
 | .float _ _::r,e=>by cases e
 | .builtin _::r,e=>by cases e
 | .notImplemented::r,e=>by cases e
 | .ellipsis::r,e=>by cases e
def ownVIn (K:PySem.W.Frag) (C:Addr):Bool:=(PySem.W.clsIn K C).any fun cd=>zlJ cd.mro
structure XSet (K:PySem.W.Frag) (C:Addr) (f:Str):Prop where
 sa:PySem.W.findIn K (.ref C) "__setattr__"=some (some (.builtin "object.__setattr__"))
 ov:ownVIn K C=true
 tk:PySem.W.takerIn K C f=some none
 hd:PySem.W.hasDictIn K C=true
section
variable {prog:Program}{w:World}{A:Around}{E:Value→Shared→Prop}{s:Shared}{K:PySem.W.Frag}{C x:Addr}{name:Str}{v:Value}{vs:Array Value}
theorem zkE {Q:Unit→Shared→Prop} (X:K.In s.heap) (hx:s.heap.get? x=some { cls:=.ref C,data:=.fields vs }) (Z:XSet K C name)
  (fin:∀ h',(∀ b o,b≠x→s.heap.get? b=some o→h'.get? b=some o)→h'.get? x=some { cls:=.ref C,dict:=some s.heap.objs.size,data:=.fields vs } →
   h'.Ns1 s.heap.objs.size (fun y=>if y=name then some v else none)→Q () { s with heap:=h',toks:=s.toks + 2 }):wpAny (model prog w) A (setAttr (.ref x) name v) Q E s:=by
 have J:PySem.W.InstAt s.heap x { cls:=.ref C,data:=.fields vs } C none:=⟨hx,rfl,rfl,True.intro⟩
 refine PySem.W.set_plain X J Z.sa ?_
 have SF:=PySem.F.store_object
 obtain⟨cd,hc,ho⟩:=PySem.W.any_some Z.ov
 have ne:cd.mro.isEmpty=false:=by cases q:cd.mro with|nil=>rw[q] at ho;cases ho|cons _ _=>rfl
 have isO:PySem.W.Looks (model prog w) s.heap (isInstance (.ref x) (.type "object")) true:=J.type.andThen (PySem.W.looks_mroIn X (by unfold PySem.W.mroIn;rw[hc,Option.bind_some,if_neg (by rw[ne];decide),zgz ho]))
 refine codeAny_call_builtin SF.slot.plain SF.entry (@PySem.W.check_slot (model prog w) _ _ { s with toks:=s.toks + 1 } "object.__setattr__" "object" "__setattr__" (.ref x) [.str name s.toks,v] [] _ SF.kind SF.split isO (SF.args (.ref x) (.str name s.toks) v) ?_)
 obtain⟨attr,ha,hr⟩:=Option.bind_eq_some_iff.mp Z.tk
 have mr:PySem.W.Looks (model prog w) s.heap (mroOf (.ref C)) cd.mro:=(PySem.W.looks_clsIn X hc).andThen .now
 have tk:PySem.W.Looks (model prog w) s.heap (storeTaker? attr) none:=by
  cases attr with
  | none=>cases hr;exact .now
  | some a=>
   obtain⟨b,hb,z⟩:=Option.map_eq_some_iff.mp hr
   refine(PySem.W.looks_takesIn X hb).andThen ?_
   cases b with
   | true=>cases z
   | false=>exact .now
 rw[PySem.W.osa_eq,refuse_eq]
 refine wpAny_bind (wpAny_bind (PySem.W.Looks.here (s:={ s with toks:=s.toks + 1 }) J.type (wpAny_bind (PySem.W.Looks.here (s:={ s with toks:=s.toks + 1 }) mr ?_))))
 rw[zfs _ ho]
 refine wpAny_pure (wpAny_bind (PySem.W.Looks.here (s:={ s with toks:=s.toks + 1 }) J.type (wpAny_bind (PySem.W.Looks.here (s:={ s with toks:=s.toks + 1 }) (PySem.W.looks_findIn X ha) (wpAny_bind (PySem.W.Looks.here (s:={ s with toks:=s.toks + 1 }) tk ?_))))))
 obtain⟨cd',hc',hd'⟩:=PySem.W.any_some Z.hd
 refine wpAny_bind (wpAny_pure (wpAny_bind (wpAny_bind (wpAny_loadPart hx (wpAny_bind (PySem.W.Looks.here (s:={ s with toks:=s.toks + 1 }) (PySem.W.looks_clsIn X hc') ?_))))))
 rw[hd']
 have lt:=Heap.lt_size hx
 have xs:x≠s.heap.objs.size:=Nat.ne_of_lt lt
 have hx1:(s.heap.push { cls:=.type "dict",data:=.dict #[] }).get? x=some { cls:=.ref C,data:=.fields vs }:=Heap.get?_push_of_some _ hx
 refine wpAny_bind (wpAny_alloc' (wpAny_bind (wpAny_update' hx1 (wpAny_pure (wpAny_bind (wpAny_pure (wpAny_bind ?_)))))))
 generalize hG:(s.heap.push { cls:=.type "dict",data:=.dict #[] }).update x (fun o=>{ cls:=o.cls,dict:=some s.heap.objs.size,data:=o.data,slots:=o.slots })=G
 have oth:∀ b,b≠x→G.get? b=(s.heap.push { cls:=.type "dict",data:=.dict #[] }).get? b:=fun b hb=>by rw[← hG];exact Heap.get?_update_other _ _ (Ne.symm hb)
 have gd:G.get? s.heap.objs.size=some { cls:=.type "dict",data:=.dict #[] }:=(oth _ (Ne.symm xs)).trans (Heap.get?_push_size _ rfl)
 have gx:G.get? x=some { cls:=.ref C,dict:=some s.heap.objs.size,data:=.fields vs }:=by rw[← hG,Heap.get?_update_self _ hx1 rfl]
 have n0:G.Ns s.heap.objs.size (fun _=>none):=⟨_,#[],_,gd,rfl,fun e he=>absurd he (by simp),fun _=>rfl⟩
 refine wpAny_nsSet1 (s:=⟨G,s.gens,s.drawn,s.toks + 1,s.os⟩) (Heap.Ns1.of_empty n0) fun h' hn2 hs2=>?_
 obtain⟨oD,esD,epD,hoD,hdD,hcD⟩:=hn2.count (ns:=[name]) (fun y hy=>by
  split at hy
  ·rename_i z;simp[z]
  ·exact absurd rfl hy)
 refine wpAny_bind (wpAny_lookBehind hoD (by rw[hdD];exact pastItsLine_dict (Nat.le_trans hcD (by simp[sizeLine_eq]))) ?_)
 refine wpAny_pure (fin h' (fun b o hb q=>?_) ((hs2.2 _ xs).trans gx) hn2)
 exact(hs2.2 b (Nat.ne_of_lt (Heap.lt_size q))).trans ((oth b hb).trans (Heap.get?_push_of_some _ q))
end
structure XGet (K:PySem.W.Frag) (C:Addr) (f:Str):Prop where
 ga:PySem.W.findIn K (.ref C) "__getattribute__"=some (some (.builtin "BaseException.__getattribute__"))
 gt:PySem.W.findIn K (.ref C) "__getattr__"=some none
 ba:PySem.W.mroIn K C (.type "BaseException")=some true
 na:PySem.W.findIn K (.ref C) f=some none
 hd:PySem.W.hasDictIn K C=true
section
variable {prog:Program}{w:World}{A:Around}{E:Value→Shared→Prop}{s:Shared}{K:PySem.W.Frag}{C x dx:Addr}{name:Str}{v:Value}{o:Obj}{mA:Str→Option Value}
theorem zkF {expr:Bool}{Q:Value→Shared→Prop} (X:K.In s.heap) (hx:s.heap.get? x=some o) (hc:o.cls=.ref C) (hf:∃ vs,o.data=.fields vs) (hdx:o.dict=some dx) (hn:s.heap.Ns1 dx mA) (Z:XGet K C name) (hv:mA name=some v) (hh:PySem.W.handedIn v=true)
  (fin:Q v { s with toks:=s.toks + 1 }):wpAny (model prog w) A (getAttr (.ref x) name expr) Q E s:=by
 obtain⟨od,hod,hl⟩:=zdC hn
 have J:PySem.W.InstAt s.heap x o C (some od):=⟨hx,hc,by obtain⟨vs,hf⟩:=hf;unfold PySem.W.notCls;rw[hf],by rw[hdx];exact hod⟩
 have L1:=PySem.W.looks_findIn (M:=model prog w) X Z.ga
 have L2:=PySem.W.looks_findIn (M:=model prog w) X Z.gt
 have L3:=PySem.W.looks_find (M:=model prog w) X J (PySem.W.findObj_own Z.hd Z.na rfl (by rw[hl,hv]))
 have L0:=J.type (M:=model prog w)
 have isB:PySem.W.Looks (model prog w) s.heap (isInstance (.ref x) (.type "BaseException")) true:=J.type.andThen (PySem.W.looks_mroIn X Z.ba)
 obtain⟨hp,g,d,t,os⟩:=s
 unfold getAttr getAttrBy
 refine wpAny_bind (wpAny_mkText (wpAny_holding (wpAny_bind (L0.at (wpAny_bind (L1.at ?_))))))
 show wpAny _ _ (if _ then _ else _) _ _ _
 rw[if_neg (by rw[show(Value.builtin "BaseException.__getattribute__" == Value.builtin "object.__getattribute__")=false by decide +kernel,Bool.and_false];decide)]
 unfold getAttrByItsOwn
 refine wpAny_bind (L2.at (wpAny_bind (wpAny_attempt (wpAny_holding ?_))))
 unfold callGetattribute
 rw[if_neg (by cases expr <;> decide)]
 unfold boundAndCalled
 have G:=PySem.F.excAttr_ValueError.ga
 refine wpAny_bind ?_
 rw[G.bind]
 refine wpAny_pure (wpAny_call (codeAny_call_builtin G.plain PySem.F.entry_bexc_ga (@PySem.W.check_slot (model prog w) _ _ ⟨hp,g,d,t + 1,os⟩ "BaseException.__getattribute__" "BaseException" "__getattribute__" (.ref x) [.str name t] [] _ (by decide +kernel) (by decide +kernel) isB (PySem.F.args_bexc_ga (.ref x) (.str name t)) ?_)))
 refine wpAny_bind (wpAny_pure (wpAny_bind (wpAny_pure (wpAny_bind (L0.at (wpAny_bind (L3.at (wpAny_pure ?_))))))))
 show wpAny _ _ (handedOut v) _ _ _
 rw[PySem.W.handedOut_of hh]
 exact wpAny_pure fin
end
end L2
namespace L2
open PySem PySem.Spec PyProof.Rows
def del (H:Hp) (a:Addr):Hp:=fun b=>if b=a then none else H b
theorem zeH {H:Hp}{a:Addr}:del H a a=none:=by unfold del;rw[if_pos rfl]
theorem zdS {H:Hp}{a b:Addr} (h:b≠a):del H a b=H b:=by unfold del;rw[if_neg h]
def zf4 (C t a:Addr) (dx:Option Addr):HO:=.ext fun h=>h.get? a=some { cls:=.ref C,dict:=dx,data:=.fields #[.ref t,.none,.none,.none,.bool false,.none] }
section
variable {X:Cx}{pins:List (Addr×Obj)}{σ:St}{H:Hp}{s:Shared}
theorem Inv.del {a:Addr}{φ:Heap→Prop} (I:Inv X pins σ H s) (e:H a=some (.ext φ)):Inv X pins σ (del H a) s:=by
 have ne:∀ b u,H b=some u→(∀ ψ,u≠.ext ψ)→b≠a:=fun b u q n z=>by rw[z,e] at q;cases q;exact n _ rfl
 have un:Un X.fs X.ex X.H₀ (L2.del H a) X.s₀.heap s.heap:=by
  obtain⟨b1,b2,b3,b4,b5,b6,b7⟩:=I.base
  refine⟨b1,b2,fun b o q n x=>?_,b4,fun b xs q=>?_,fun b o u q=>?_,fun b pp pq q=>?_⟩
  ·unfold L2.del;split
   ·rfl
   ·exact b3 b o q n x
  ·have:=b5 b xs q
   rw[zdS (ne b _ this (by intro ψ z;cases z))];exact this
  ·have:=b6 b o u q
   rw[zdS (ne b _ this (by intro ψ z;cases z))];exact this
  ·have:=b7 b pp pq q
   rw[zdS (ne b _ this (by intro ψ z;cases z))];exact this
 have none_of:∀ b,H b=none→L2.del H a b=none:=fun b q=>by unfold L2.del;split <;> first|rfl|exact q
 refine { I with base:=un,free:=none_of _ I.free,freeC:=fun x c q=>none_of _ (I.freeC x c q),pin:=fun p hp=>?_,hok:=fun b o q=>?_ }
 ·obtain⟨p1,p2,p3⟩:=I.pin p hp
  exact⟨p1,none_of _ p2,p3⟩
 ·by_cases hb:b=a
  ·subst hb;rw[zeH] at q;cases q
  ·rw[zdS hb] at q
   refine(I.hok b o q).stay (fun c u _ r=>r) (fun c r=>?_) (fun c xs r=>?_) fun c ob r=>?_
   ·rw[zdS (ne c _ r (by intro ψ z;cases z))];exact r
   ·rw[zdS (ne c _ r (by intro ψ z;cases z))];exact r
   ·rw[zdS (ne c _ r (by intro ψ z;cases z))];exact r
theorem zft {R:RK}{C t a:Addr}{dx:Option Addr}{Q:Flow→Shared→Prop} (hp:PX X R) (I:Inv X pins σ H s) (fp:zdn X pins H a)
  (he:s.heap.get? a=some { cls:=.ref C,dict:=dx,data:=.fields #[.ref t,.none,.none,.none,.bool false,.none] }) (hR:R σ (.ref C) dx H):wpAny (model X.prog X.w) X.A (raiseNew (.ref a):Sem Flow) Q X.xe s:=by
 obtain⟨f0,f1,f2,f3,f4,f5⟩:=id fp
 refine zev (s:=s) ?_ he rfl (by simp) fun h' o' vs' k1 k2 k3 k4 k5 k6 k7 k8=>?_
 ·rcases I.hdAt with z|⟨b,cs,z,c⟩
  ·exact .inl z
  ·exact .inr ⟨b,cs,z,c.chn I.hok,c.not_mem f0⟩
 ·have I':Inv X pins σ H { s with heap:=h' }:=I.turned (t':=s.toks) k1 f0 f1 f3 f4 f5
  refine hp pins σ H _ a (.ref C) dx none I' ⟨fp,fun p q=>(by cases q),⟨⟨o',vs',k2,k3,k4,k5,k6,?_,?_⟩,fun p q=>(by cases q)⟩⟩ hR
  ·rcases I.hdAt with z|⟨b,cs,z,c⟩
   ·rw[z] at k8
    exact⟨[],⟨List.nodup_nil,fun j a q=>by simp at q⟩,k8⟩
   ·rw[z] at k8
    exact⟨b::cs,c,k8⟩
  ·exact k7
end
structure XC0 (K:PySem.W.Frag) (C:Addr):Prop where
 at_:zhY K C bmV "ValueError.__new__"=true
 kp:PySem.W.keepIn K (.ref C)=true
 init:PySem.W.findIn K (.ref C) "__init__"=some (some (.builtin "ValueError.__init__"))
structure XCI (K:PySem.W.Frag) (C f:Addr):Prop where
 at_:zhY K C bmV "ValueError.__new__"=true
 kp:PySem.W.keepIn K (.ref C)=true
 init:PySem.W.findIn K (.ref C) "__init__"=some (some (.ref f))
 fn:PySem.W.isFn K (.ref f)=true
def zkG (C:Addr) (R:RK) (t:TA):TS:=fun _ σ H=>t σ H fun vs H1=>vs.length≤sizeLine∧R σ (.ref C) none H1
def zeI (C:Addr) (sp:Sp) (dvs:List V) (R:RK) (t:TA):TS:=fun _ σ H=>t σ H fun vs H1=>vs.length≤sizeLine∧∀ a t',H1 a=none →
 sp (.ref a::(vs++dvs)) (upd H1 a (zf4 C t' a none)) (fun v H2=>v=.non∧∃ dx,H2 a=some (zf4 C t' a dx)∧R σ (.ref C) dx (del H2 a)) (R σ)
section
variable {X:Cx}{R:RK}{C:Addr}{x:Str}{np cpos pos:Pos}{e:Expr}{es:List Expr}{t:TA}
theorem zgA {a:List Expr}{s:Shared}{bm:List Value}{Q:Flow→Shared→Prop} (hx:XCls s.heap C bmV bm "ValueError.__new__")
  (h:wpAny (model X.prog X.w) X.A (eval (.Call (.Name x np) a [] cpos) X.env) (fun v s₁=>∃ b t dx,v=.ref b∧(∀ o,s.heap.get? C=some o→s₁.heap.get? C=some o)∧s₁.heap.get? b=some { cls:=.ref C,dict:=dx,data:=.fields #[.ref t,.none,.none,.none,.bool false,.none] }∧wpAny (model X.prog X.w) X.A (raiseNew (.ref b):Sem Flow) Q X.xe s₁) X.xe s) :
  wpAny (model X.prog X.w) X.A (exec (.Raise (some (.Call (.Name x np) a [] cpos)) none pos) X.env) Q X.xe s:=by
 obtain⟨⟨nm,q,N,bs,hdct,sn,sub,ab,col,dd,k0,k1,k2,k3,k5,oC⟩,T⟩:=hx
 rw[arm_exec_Raise]
 refine wpAny_bind (wpAny_standAt (zg8 (C:=C) (nm:=nm) (q:=q) (N:=N) (bs:=bs) (bm:=bm) (hdct:=hdct) (sn:=sn) (sub:=sub) (ab:=ab) (col:=col) (dd:=dd) (k0:=k0) (k1:=k1) (k2:=k2) (k3:=k3) (k5:=k5) (newId:="ValueError.__new__") (T.hasType rfl) (wpAny_bind (wpAny_mono h (fun v s1 z=>wpAny_bind (wpAny_standAt (wpAny_pure ?_))) fun _ _ y=>y))))
 obtain⟨b,t,dx,z1,z2,z3,z4⟩:=z
 exact⟨b,t,dx,z1,z2 _ oC,z3,z4⟩
theorem zg9 {pins:List (Addr×Obj)}{σ:St}{H:Hp}{s0 s:Shared}{us:List Value}{Q:Flow→Shared→Prop} (hp:PX X R) (c:XC0 X.K C) (I:Inv X pins σ H s) (hz:us.length≤sizeLine) (hs:∀ o,s0.heap.get? C=some o→s.heap.get? C=some o) (hR:R σ (.ref C) none H) :
  wpAny (model X.prog X.w) X.A (call (.ref C) us) (fun v s₁=>∃ b t dx,v=.ref b∧(∀ o,s0.heap.get? C=some o→s₁.heap.get? C=some o)∧s₁.heap.get? b=some { cls:=.ref C,dict:=dx,data:=.fields #[.ref t,.none,.none,.none,.bool false,.none] }∧wpAny (model X.prog X.w) X.A (raiseNew (.ref b):Sem Flow) Q X.xe s₁) X.xe s:=by
 obtain⟨bm,⟨nm,q,N,bs,hdct,sn,sub,ab,col,dd,k0,k1,k2,k3,k5,oC⟩,T⟩:=zbB I.kIn c.at_
 have I0:=I
 obtain⟨h,g,d,tk,os⟩:=s
 refine zhX PySem.F.excBase_ValueError T oC (PySem.W.looks_findIn I.kIn c.init) hz fun h' k' e'=>?_
 have I':Inv X pins σ H ⟨h',g,d,tk,os⟩:=I0.kept (t':=tk) k'
 refine⟨_,_,none,rfl,fun o q=>k' _ _ (hs o q),e',zft hp I' ?_ e' hR⟩
 exact I0.fpOk (s:=⟨h,g,d,tk,os⟩) (Nat.le_succ _) (I0.hok.fresh (Nat.le_succ _))
theorem za7 (hp:PX X R) (c:XC0 X.K C) (hg:Gl X x) (hm:X.mg x=some (.ref C)) (hdb:(x == ("__debug__":Str))=false:=by decide):PS X (.Raise (some (.Call (.Name x np) [] [] cpos)) none pos) (zkG C R zlG):=by
 intro pins s σ H D I h
 obtain⟨bm,xc⟩:=zbB I.kIn c.at_
 refine zgA xc (wpAny_Call_Name_kw (zcv I hg hm ?_ hdb))
 exact PySem.W.callWith_K0 I.kIn c.kp (zg9 hp c I h.1 (fun _ q=>q) h.2)
variable {CX:CXT}{k:Nat}{f:Addr}{fd:FuncData}{ps:List Str}{sp:Sp}{dvs:List V}{ds:List Value}
theorem zhZ (hp:PX X R) (c:XCI X.K C f) (F:zcZ X.prog X.w X.K X.mg X.base CX k f fd ps sp) (hr:zbQ (k + 1) X.A) (hb:zbK X.K fd ps ds) (hd:zaN dvs ds) (hxx:∀ σ,zdc CX X (R σ)) (hg:Gl X x) (hm:X.mg x=some (.ref C)) (ha:PA X (e::es) t)
  (hdb:(x == ("__debug__":Str))=false:=by decide) (he:starEach (e::es) X.env=(false,eval e X.env)::starEach es X.env:=by rfl) (hpl:(backTo cpos (starEach es X.env)).any (·.1)=false:=by rfl) :
  PS X (.Raise (some (.Call (.Name x np) (e::es) [] cpos)) none pos) (zeI C sp dvs R t):=by
 intro pins s σ H D I h
 obtain⟨bm0,xc⟩:=zbB I.kIn c.at_
 refine zgA xc (wpAny_Call_Name_kw (zcv I hg hm ?_ hdb))
 refine PySem.W.callWith_K (h₀:=X.base) I.ok.mod.kin c.kp (thn (ha cpos pins s σ H _ I h) fun us s1 ⟨vs,H1,I1,r,z,q⟩=>⟨I1.kIn,?_⟩) he hpl
 obtain⟨bm2,⟨nm2,q2,N2,bs2,hdct2,sn2,sub2,ab2,col2,dd2,l0,l1,l2,l3,l5,oC2⟩,_⟩:=zbB I.ok.mod.kin c.at_
 have C0:∀ o,s.heap.get? C=some o→X.base.get? C=some o:=fun o q=>by rw[I.bk _ _ oC2] at q;rw[← q];exact oC2
 obtain⟨bm,⟨nm,qn,N,bs,hdct,sn,sub,ab,col,dd,k0,k1,k2,k3,k5,oC⟩,T⟩:=zbB I1.kIn c.at_
 have fnC:(X.K.lookup f).map (·.cls)=some (.type "function"):=beq_iff_eq.mp c.fn
 obtain⟨oF,hF,hFc⟩:∃ oF,X.K.lookup f=some oF∧oF.cls=.type "function":=by
  cases hk:X.K.lookup f with
  | none=>rw[hk] at fnC;cases fnC
  | some oF=>rw[hk] at fnC;exact⟨oF,rfl,Option.some.inj fnC⟩
 have hz:us.length≤sizeLine:=by rw[← r.length];exact z
 have J:=I1
 obtain⟨hp1,g,d,tk,os⟩:=s1
 refine zfr PySem.F.excBase_ValueError T oC (PySem.W.looks_findIn I1.kIn c.init) (I1.kIn _ _ hF) hFc hz ?_
 have kk:∀ b o,hp1.get? b=some o→((hp1.push (zcf us)).push (zb0 C hp1.objs.size)).get? b=some o:=fun b o e=>Heap.get?_push_of_some _ (Heap.get?_push_of_some _ e)
 have oX:((hp1.push (zcf us)).push (zb0 C hp1.objs.size)).get? (hp1.objs.size + 1)=some { cls:=.ref C,data:=.fields #[.ref hp1.objs.size,.none,.none,.none,.bool false,.none] }:=by heap_get
 have fr:H1 (hp1.objs.size + 1)=none:=J.hok.fresh (Nat.le_succ _)
 have I2:Inv X pins σ (upd H1 (hp1.objs.size + 1) (zf4 C hp1.objs.size (hp1.objs.size + 1) none)) ⟨(hp1.push (zcf us)).push (zb0 C hp1.objs.size),g,d,tk,os⟩:=
  J.laid (t':=tk) kk (Nat.le_succ _) ⟨oX,⟨_,oX⟩,fun h1 h2 p1 p2=>p2 _ p1⟩
 have q':=q (hp1.objs.size + 1) hp1.objs.size fr
 have r2:zaN (V.ref (hp1.objs.size + 1)::(vs++dvs)) (Value.ref (hp1.objs.size + 1)::(us++ds)):=.cons rfl (r.append hd)
 have hl:(Value.ref (hp1.objs.size + 1)::us++ds).length=ps.length:=by
  have e:=r2.length
  rw[F.len _ _ _ _ q'] at e
  exact e.symm
 refine wpAny_call (codeAny_mono (F.run _ X.stack _ _ ⟨Value.ref (hp1.objs.size + 1)::us,[]⟩ (Value.ref (hp1.objs.size + 1)::(us++ds)) _ _ (R σ) (hr.make C us []) (I2.env0.make C us []) (hb _ (Value.ref (hp1.objs.size + 1)::us) I2.kIn hl) r2 q') fun rr s' hq'=>?_)
 cases rr with
 | error e=>exact hxx σ pins σ _ _ e s' I2 hq'
 | ok fl=>
  cases fl with
  | ret u=>
   obtain⟨v,H',I3,rv,ev,dx,e3,q3⟩:=I2.after hq'
   subst ev
   refine⟨rv,_,hp1.objs.size,dx,rfl,fun o q=>I3.bk _ _ (C0 o q),(I3.hok _ _ e3).1,?_⟩
   refine zft hp (I3.del e3) ?_ (I3.hok _ _ e3).1 q3
   exact J.fpOk (s:=⟨hp1,g,d,tk,os⟩) (Nat.le_succ _) zeH
  | next=>exact False.elim hq'
  | brk=>exact False.elim hq'
  | cont=>exact False.elim hq'
def sFldX (K:PySem.W.Frag) (ta tv:TE) (f:Str):TS:=fun D σ H=>tv σ H fun y H1=>ta σ H1 fun x H2=>∃ a C t,x=.ref a∧H2 a=some (zf4 C t a none)∧XSet K C f ∧
 ∀ dx,H2 dx=none→D.nx σ (upd (upd H2 dx (.xd [(f,y)])) a (zf4 C t a (some dx)))
theorem zh0 {o value:Expr}{ta tv:TE}{f:Str}{pos':Pos} (ha:PE X o ta) (hv:PE X value tv) (hs:swapsWith value (some (.Attribute o f pos')) pos.line X.env=pure false):PS X (.Assign [.Attribute o f pos'] value pos) (sFldX X.K ta tv f):=by
 intro pins s σ H D I h
 refine plainObj_wpAny_Assign_Attribute (thn (hv pins s σ H _ I h) fun v s1=>L2.ex5 fun y H1 I1 ry q1=>thn (ha pins s1 σ H1 _ I1 q1) fun u s2=>L2.ex5 fun x H2 I2 rx q2=>?_) hs
 obtain⟨a,C,t,rfl,e2,Z,q2⟩:=q2
 obtain rfl:u=Value.ref a:=rx
 have oa:=(I2.hok _ _ e2).1
 refine zkE I2.kIn oa Z fun h' k1 k2 k3=>?_
 have dn:H2 s2.heap.objs.size=none:=I2.hok.fresh (Nat.le_refl _)
 have da:s2.heap.objs.size≠a:=(zam e2 dn).symm
 have old:∀ b o,s2.heap.get? b=some o→b≠s2.heap.objs.size:=fun b o q=>Nat.ne_of_lt (Heap.lt_size q)
 have na:∀ b u,H2 b=some u→(∀ ψ,u≠.ext ψ)→b≠a:=fun b u q n z=>by rw[z,e2] at q;cases q;exact n _ rfl
 have nd:∀ b u,H2 b=some u→b≠s2.heap.objs.size:=fun b u q=>zam q dn
 have keepH:∀ b u,H2 b=some u→(∀ ψ,u≠.ext ψ)→upd (upd H2 s2.heap.objs.size (.xd [(f,y)])) a (zf4 C t a (some s2.heap.objs.size)) b=some u:=fun b u q n=>by rw[zaf (na b u q n),zaf (nd b u q)];exact q
 refine⟨σ,_,I2.un (t':=s2.toks + 2) ⟨fun b o q n _ _=>k1 b o (fun z=>?_) q,fun b o q n _ _=>⟨o.slots,k1 b o (fun z=>?_) q⟩,fun b o q n _=>?_,fun b o q _=>?_,fun b xs q=>?_,fun b o u q=>?_,fun b pp pq q=>?_⟩ (fun b o q=>?_),q2 _ dn⟩
 ·rw[z,e2] at n;cases n
 ·rw[z,e2] at n;cases n
 ·rw[zaf (fun z=>by rw[z,e2] at n;cases n),zaf (old b o q)];exact n
 ·by_cases z:b=a
  ·subst z;exact⟨_,k2⟩
  ·exact⟨o,k1 b o z q⟩
 ·exact keepH b _ q (by intro ψ z;cases z)
 ·exact keepH b _ q (by intro ψ z;cases z)
 ·exact keepH b _ q (by intro ψ z;cases z)
 ·by_cases z:b=a
  ·subst z
   rw[zab] at q;cases q
   exact⟨k2,⟨_,k2⟩,fun h1 h2 p1 p2=>p2 _ p1⟩
  ·rw[zaf z] at q
   by_cases z2:b=s2.heap.objs.size
   ·subst z2
    rw[zab] at q;cases q
    refine⟨_,k3,fun g=>?_⟩
    by_cases hg:g=f
    ·subst hg;simpa [zfR] using ry
    ·have e0:([(f,y)]:List (Str×V)).lookup g=none:=by rw[List.lookup_cons,show(g == f)=false from by simpa using hg];rfl
     rw[e0,if_neg hg];exact True.intro
   ·rw[zaf z2] at q
    refine(I2.hok b o q).stay (fun c u hc r=>k1 c u ?_ r) (fun c r=>keepH c _ r (by intro ψ z;cases z)) (fun c xs r=>keepH c _ r (by intro ψ z;cases z)) fun c ob r=>keepH c _ r (by intro ψ z;cases z)
    rcases hc with hc|hc
    ·rw[hc];exact z
    ·exact na c _ hc (by intro ψ z;cases z)
end
end L2
namespace L2
open PySem PySem.Spec PyProof.Rows PySem.Builtin.ObjectAttr
structure XIs (K:PySem.W.Frag) (C:Addr):Prop where
 ga:PySem.W.findIn K (.ref C) "__getattribute__"=some (some (.builtin "BaseException.__getattribute__"))
 gt:PySem.W.findIn K (.ref C) "__getattr__"=some none
 ba:PySem.W.mroIn K C (.type "BaseException")=some true
 ob:PySem.W.mroIn K C (.type "object")=some true
 cl:PySem.W.findIn K (.ref C) "__class__"=some (some (.builtin "object.__class__"))
 gs:PySem.W.specialIn K (.builtin "object.__class__") "__get__"=some (some (.builtin "getset_descriptor.__get__"))
 tk:PySem.W.takesIn K (.builtin "object.__class__")=some true
 hd:PySem.W.hasDictIn K C=true
theorem zf5 {K:PySem.W.Frag}{C:Addr}{od:Option Obj} (Z:XIs K C):PySem.W.findObj K C od "__class__"=some (.bind (.builtin "getset_descriptor.__get__") (.builtin "object.__class__")):=by
 obtain⟨cd,hc,_⟩:=PySem.W.any_some Z.hd
 unfold PySem.W.findObj
 rw[hc,Option.bind_some,Z.cl,Option.bind_some]
 dsimp only
 rw[Z.gs,Option.bind_some]
 dsimp only
 rw[Z.tk,Option.bind_some]
section
variable {prog:Program}{w:World}{A:Around}{E:Value→Shared→Prop}{s:Shared}{K:PySem.W.Frag}{C x:Addr}{ox:Obj}{od:Option Obj}
theorem zh1 {Q:Option Value→Shared→Prop} (Z:XIs K C) (X:K.In s.heap) (J:PySem.W.InstAt s.heap x ox C od) (fin:Q (some (.ref C)) { s with toks:=s.toks + 1 }):wpAny (model prog w) A (getAttr? (.ref x) "__class__") Q E s:=by
 have L1:=PySem.W.looks_findIn (M:=model prog w) X Z.ga
 have L2:=PySem.W.looks_findIn (M:=model prog w) X Z.gt
 have L3:=PySem.W.looks_find (M:=model prog w) X J (zf5 Z)
 have L0:=J.type (M:=model prog w)
 have isB:PySem.W.Looks (model prog w) s.heap (isInstance (.ref x) (.type "BaseException")) true:=J.type.andThen (PySem.W.looks_mroIn X Z.ba)
 obtain⟨hp,g,d,t,os⟩:=s
 unfold getAttr? getAttrBy? getAttrBy
 refine wpAny_bind (wpAny_mkText (wpAny_bind (wpAny_attempt (wpAny_holding (wpAny_bind (L0.at (wpAny_bind (L1.at ?_))))))))
 show wpAny _ _ (if _ then _ else _) _ _ _
 rw[if_neg (by rw[show(Value.builtin "BaseException.__getattribute__" == Value.builtin "object.__getattribute__")=false by decide +kernel,Bool.and_false];decide)]
 unfold getAttrByItsOwn
 refine wpAny_bind (L2.at (wpAny_bind (wpAny_attempt (wpAny_holding ?_))))
 unfold callGetattribute
 rw[if_neg (by decide)]
 unfold boundAndCalled
 have G:=PySem.F.excAttr_ValueError.ga
 refine wpAny_bind ?_
 rw[G.bind]
 refine wpAny_pure (wpAny_call (codeAny_call_builtin G.plain PySem.F.entry_bexc_ga (@PySem.W.check_slot (model prog w) _ _ ⟨hp,g,d,t + 1,os⟩ "BaseException.__getattribute__" "BaseException" "__getattribute__" (.ref x) [.str "__class__" t] [] _ (by decide +kernel) (by decide +kernel) isB (PySem.F.args_bexc_ga (.ref x) (.str "__class__" t)) ?_)))
 refine wpAny_bind (wpAny_pure (wpAny_bind (wpAny_pure (wpAny_bind (L0.at (wpAny_bind (L3.at ?_)))))))
 refine wpAny_bind (wpAny_holding (wpAny_call (PySem.W.class_get (s:=⟨hp,g,d,t + 1,os⟩) (ox:=ox) (od:=od) X J Z.ob (wpAny_pure ?_))))
 show wpAny _ _ (handedOut (.ref C)) _ _ _
 exact wpAny_pure (wpAny_pure fin)
theorem zgB (Z:XIs K C):PySem.W.KitX K (.ref x) (.ref C) (fun h=>PySem.W.InstAt h x ox C od) where
 ty:=fun _ _ _ I=>I.type
 it:=fun _ _ X _=>by
  obtain⟨cD,hcD,_⟩:=PySem.W.any_some Z.hd
  unfold PySem.W.clsIn at hcD
  split at hcD
  ·rename_i c1 d1 e1 s1 at1
   intro A' Q' E' s' k q
   unfold isType loadHead
   exact wpAny_bind (wpAny_loadPart (k _ _ (X _ _ at1)) (wpAny_pure q))
  ·cases hcD
 ne:=fun h tp dd its n sl X htp=>by
  obtain⟨cD,hcD,_⟩:=PySem.W.any_some Z.hd
  refine Bool.eq_false_iff.mpr fun q=>?_
  obtain rfl:C=tp:=Value.ref.inj (beq_iff_eq.mp q)
  unfold PySem.W.clsIn at hcD
  split at hcD
  ·rename_i c1 d1 e1 s1 at1
   have z:=(X _ _ at1).symm.trans htp
   cases z
  ·cases hcD
 ca:=fun X I k=>zh1 Z X I k
end
structure IsX (H:Hp) (a C:Addr) (dd:Option Addr):Prop where
 at_:∃ o u,H a=some (.frz o u)∧o.cls=.ref C∧o.dict=dd∧∃ vs,o.data=.fields vs
section
variable {X:Cx}
theorem IsX.inst {pins:List (Addr×Obj)}{σ:St}{H:Hp}{s:Shared}{a C:Addr} (I:Inv X pins σ H s) (x:IsX H a C none):∃ o,PySem.W.InstAt s.heap a o C none:=by
 obtain⟨o,u,h1,h2,h3,vs,h4⟩:=x.at_
 exact⟨o,(I.hok _ _ h1).1,h2,by unfold PySem.W.notCls;rw[h4],by rw[h3];exact True.intro⟩
theorem IsX.instD {pins:List (Addr×Obj)}{σ:St}{H:Hp}{s:Shared}{a C dx:Addr}{fs:List (Str×V)} (I:Inv X pins σ H s) (x:IsX H a C (some dx)) (hd:H dx=some (.xd fs)):∃ o od,PySem.W.InstAt s.heap a o C (some od):=by
 obtain⟨o,u,h1,h2,h3,vs,h4⟩:=x.at_
 obtain⟨mA,n,_⟩:=I.hok _ _ hd
 obtain⟨od,hod,_⟩:=zdC n
 exact⟨o,od,(I.hok _ _ h1).1,h2,by unfold PySem.W.notCls;rw[h4],by rw[h3];exact hod⟩
def XDs (H:Hp):Option Addr→Prop
 | none=>True
 | some dx=>∃ fs,H dx=some (.xd fs)
theorem IsX.any {pins:List (Addr×Obj)}{σ:St}{H:Hp}{s:Shared}{a C:Addr}{dd:Option Addr} (I:Inv X pins σ H s) (x:IsX H a C dd) (hd:XDs H dd):∃ o od,PySem.W.InstAt s.heap a o C od:=by
 cases dd with
 | none=>obtain⟨o,h⟩:=x.inst I;exact⟨o,none,h⟩
 | some dx=>obtain⟨fs,hd⟩:=hd;obtain⟨o,od,h⟩:=x.instD I hd;exact⟨o,some od,h⟩
theorem zfu:zcl X (.builtin "isinstance") (fun xs H Q=>∃ a C dd vc c b,xs=[.ref a,vc]∧IsX H a C dd∧XDs H dd∧XIs X.K C∧(∀ u,za3 vc u→u=c)∧PySem.W.kitOne X.K (.ref C) c=some b∧Q (.bl b) H):=by
 intro pins s σ H xs us Q I r h
 obtain⟨a,C,dd,vc,c,b,rfl,x,hd,Z,hc,e,q⟩:=h
 obtain⟨u,u',rfl,rx,ry⟩:=zi6 r
 obtain rfl:u=Value.ref a:=rx
 obtain rfl:=hc u' ry
 obtain⟨o,od,J⟩:=x.any I hd
 exact PySem.W.kia_one (zgB Z) I.kIn J e (fun z=>nomatch z) fun tk=>⟨.bl b,H,I.tok _,rfl,q⟩
theorem zeJ:zcl X (.builtin "isinstance") (fun xs H Q=>∃ a C dd p vcs cs b,xs=[.ref a,.ref p]∧IsX H a C dd∧XDs H dd∧XIs X.K C∧H p=some (.tup vcs)∧(∀ us,zaN vcs us→us=cs)∧PySem.W.kitAny X.K (.ref C) cs=some b∧Q (.bl b) H):=by
 intro pins s σ H xs us Q I r h
 obtain⟨a,C,dd,p,vcs,cs,b,rfl,x,hd,Z,hp,hc,e,q⟩:=h
 obtain⟨u,u',rfl,rx,ry⟩:=zi6 r
 obtain rfl:u=Value.ref a:=rx
 obtain rfl:u'=Value.ref p:=ry
 obtain⟨o,od,J⟩:=x.any I hd
 obtain⟨_,its,ri,⟨ot,h1,h2,n,h3⟩⟩:=I.hok _ _ hp
 obtain rfl:=hc its ri
 obtain⟨oc,odd,oda,osl⟩:=ot
 dsimp only at h2 h3
 subst h2 h3
 exact PySem.W.kia_tup (zgB Z) I.kIn J h1 e (fun z=>nomatch z) fun tk=>⟨.bl b,H,I.tok _,rfl,q⟩
def tFldX (K:PySem.W.Frag) (ta:TE) (f:Str):TE:=fun σ H Q=>ta σ H fun x H1=>∃ a C dx fs v,x=.ref a∧IsX H1 a C (some dx)∧H1 dx=some (.xd fs)∧XGet K C f∧fs.lookup f=some v∧Q v H1
theorem zkH {e:Expr}{ta:TE}{f:Str}{pos:Pos} (he:PE X e ta) (hb:attributeBase e f X.env (eval e X.env)=eval e X.env):PE X (.Attribute e f pos) (tFldX X.K ta f):=by
 intro pins s σ H Q I h
 refine zhH hb (thn (he pins s σ H _ I h) fun u s1=>L2.ex5 fun x H1 I1 rx hq_=>?_)
 obtain⟨a,C,dx,fs,v,ex,ix,hd,Z,l,q⟩:=hq_
 subst ex
 obtain rfl:u=Value.ref a:=rx
 obtain⟨o,u',h1,h2,h3,hf⟩:=ix.at_
 obtain⟨mA,n,hm⟩:=I1.hok _ _ hd
 have r:=hm f
 rw[l] at r
 obtain⟨w',e',r'⟩:=r.some_of
 exact zkF I1.kIn (I1.hok _ _ h1).1 h2 hf h3 n Z e' (zfe r') ⟨v,H1,I1.tok _,r',q⟩
end
end L2
namespace L2
open PySem PySem.Spec PyProof.Rows
abbrev Cx.tr (X:Cx) (pn:List (Addr×Obj)) (E:Value→Shared→Prop):Cx:={ X with pn:=pn,xe:=E }
abbrev Cx.hnd (X:Cx) (a:Addr) (H₀:Hp):Cx:={ X with A:=X.A.mark (some (.ref a)),H₀:=H₀,xe:=fun _ _=>False }
theorem zbQ.mark {k:Nat}{A:Around}{v:Option Value} (r:zbQ k A):zbQ k (A.mark v):=⟨r.dp,r.un⟩
def zel (H H₀:Hp):Hp:=fun b=>match H b with|some (.frz o u)=>some (.frz o u)|_=>H₀ b
theorem zeK {H H₀:Hp}{b:Addr}{o:Obj}{u:HO} (e:H b=some (.frz o u)):zel H H₀ b=some (.frz o u):=by unfold zel;rw[e]
theorem zdw {H H₀:Hp}{b:Addr} (n:∀ o u,H b≠some (.frz o u)):zel H H₀ b=H₀ b:=by
 unfold zel
 split
 ·rename_i o u e;exact absurd e (n o u)
 ·rfl
section
variable {X:Cx}{pins:List (Addr×Obj)}{σ:St}{H:Hp}{s:Shared}{a:Addr}{c:Value}{dd:Option Addr}{tb:Option (Addr×Value)}
theorem Inv.enter (hex:X.ex=[]) (I:Inv X pins σ H s) (x:Exc X pins H s.heap a c dd tb):∃ o,o.cls=c∧o.dict=dd∧(∃ vs,o.data=.fields vs)∧Inv (X.hnd a (zel (upd H a (.frz o (.own a))) X.H₀)) pins σ (upd H a (.frz o (.own a))) s:=by
 obtain⟨o,vs,h1,hc,hdd,hd,hz,⟨cs,ch,h2⟩,hv1⟩:=x.at_.ob
 obtain⟨f0,f1,f2,f3,f4,f5⟩:=x.fp
 have f3':X.s₀.heap.objs.size≤a:=by
  rcases f3 with z|z
  ·rw[hex] at z;cases z
  ·exact z
 refine⟨o,hc,hdd,⟨vs,hd⟩,?_⟩
 have na:∀ b u,H b=some u→b≠a:=fun b u q=>zam q f0
 have old:∀ b ob,X.s₀.heap.get? b=some ob→b≠a:=fun b ob q=>Nat.ne_of_lt (Nat.lt_of_lt_of_le (Heap.lt_size q) f3')
 have keepH:∀ b u,H b=some u→upd H a (.frz o (.own a)) b=some u:=fun b u q=>by rw[zaf (na b u q)];exact q
 have noneH:∀ b,b≠a→H b=none→upd H a (.frz o (.own a)) b=none:=fun b z q=>by rw[zaf z];exact q
 have noneO:∀ b,b≠a→H b=none→zel (upd H a (.frz o (.own a))) X.H₀ b=X.H₀ b:=fun b z q=>zdw fun o' u' q'=>by rw[noneH b z q] at q';cases q'
 have K:=I.ok
 refine { I with ok:=?_,base:=?_,free:=noneH _ (Ne.symm f1) I.free,freeC:=fun y cl q=>noneH _ (f4 y cl q) (I.freeC y cl q),pin:=fun p hp=>?_,hok:=fun b u q=>?_ }
 ·refine { mod:=K.mod,kind:=K.kind,glob:=K.glob,blt:=K.blt,above:=K.above,inj:=K.inj,has:=K.has,cab:=K.cab,hd:=?_,frames:=K.frames,stk:=K.stk,exf:=K.exf,bs:=fun b ob q=>?_,bsz:=K.bsz,noex:=K.noex,exfs:=K.exfs,funs:=K.funs,frf:=fun b hb=>?_ }
  ·refine .inr ⟨a,cs,rfl,List.nodup_cons.mpr ⟨ch.not_mem f0,ch.1⟩,fun j b hj=>?_⟩
   cases j with
   | zero=>
    obtain rfl:a=b:=by simpa using hj
    exact⟨o,.own a,vs,zeK zab,hd,h2⟩
   | succ j=>
    have hj':cs[j]?=some b:=by simpa using hj
    obtain⟨o',u',vs',q1,q2,q3⟩:=ch.2 j b hj'
    exact⟨o',u',vs',zeK (keepH _ _ q1),q2,q3⟩
  ·obtain⟨q1,q2⟩:=K.bs b ob q
   obtain⟨_,q3⟩:=I.bs b ob q
   exact⟨q1,(noneO b (old b ob q1) q3).trans q2⟩
  ·have hb':b∈X.fs:=hb
   have:=K.frf b hb'
   have hbn:b≠a:=fun z=>f2 (z ▸ hb')
   have h3:H b=none:=I.stkFree b (by
    rcases K.stk with z|⟨z,y⟩
    ·rw[z];exact hb'
    ·rw[z];unfold frs;rw[List.filterMap_cons,y];exact List.mem_cons_of_mem _ hb')
   exact(noneO b hbn h3).trans this
 ·obtain⟨b1,b2,b3,b4,b5,b6,b7⟩:=I.base
  have back:∀ b ob,X.s₀.heap.get? b=some ob→zel (upd H a (.frz o (.own a))) X.H₀ b=none→X.H₀ b=none:=fun b ob q n=>by
   unfold zel at n
   split at n
   ·cases n
   ·exact n
  refine⟨fun b ob q n=>b1 b ob q (back b ob q n),fun b ob q n=>b2 b ob q (back b ob q n),fun b ob q n z=>noneH b (old b ob q) (b3 b ob q (back b ob q n) z),b4,fun b xs q=>?_,fun b ob u q=>?_,fun b pp pq q=>?_⟩
  ·replace q:zel (upd H a (.frz o (.own a))) X.H₀ b=_:=q
   unfold zel at q
   split at q
   ·cases q
   ·exact keepH _ _ (b5 b xs q)
  ·replace q:zel (upd H a (.frz o (.own a))) X.H₀ b=_:=q
   unfold zel at q
   split at q
   ·rename_i e;rw[← q];exact e
   ·exact keepH _ _ (b6 b ob u q)
  ·replace q:zel (upd H a (.frz o (.own a))) X.H₀ b=_:=q
   unfold zel at q
   split at q
   ·cases q
   ·exact keepH _ _ (b7 b pp pq q)
 ·obtain⟨p1,p2,p3⟩:=I.pin p hp
  exact⟨p1,noneH _ (f5 p hp) p2,p3⟩
 ·by_cases z:b=a
  ·subst z
   rw[zab] at q;cases q
   exact⟨h1,⟨_,h1⟩⟩
  ·rw[zaf z] at q
   exact(I.hok b u q).stay (fun c' u' _ r=>r) (fun c' r=>keepH _ _ r) (fun c' xs r=>keepH _ _ r) fun c' ob r=>keepH _ _ r
theorem Inv.leave {σ':St}{H':Hp}{s':Shared}{o:Obj} (hex:X.ex=[]) (I:Inv X pins σ H s) (fp:zdn X pins H a) (J:Inv (X.hnd a (zel (upd H a (.frz o (.own a))) X.H₀)) pins σ' H' s'):Inv X pins σ' H' s':=by
 obtain⟨f0,f1,f2,f3,f4,f5⟩:=fp
 have f3':X.s₀.heap.objs.size≤a:=by
  rcases f3 with z|z
  ·rw[hex] at z;cases z
  ·exact z
 have na:∀ b u,H b=some u→b≠a:=fun b u q=>zam q f0
 have old:∀ b ob,X.s₀.heap.get? b=some ob→b≠a:=fun b ob q=>Nat.ne_of_lt (Nat.lt_of_lt_of_le (Heap.lt_size q) f3')
 have e1:∀ b ob,X.s₀.heap.get? b=some ob→X.H₀ b=none→zel (upd H a (.frz o (.own a))) X.H₀ b=none:=fun b ob q n=>by
  have hb:H b=none:=I.base.free b ob q n (by rw[hex];simp)
  rw[zdw fun o' u' q'=>by rw[zaf (old b ob q),hb] at q';cases q'];exact n
 obtain⟨b1,b2,b3,b4,b5,b6,b7⟩:=J.base
 refine { J with ok:=I.ok,base:=⟨fun b ob q n=>b1 b ob q (e1 b ob q n),fun b ob q n=>b2 b ob q (e1 b ob q n),fun b ob q n=>b3 b ob q (e1 b ob q n),b4,fun b xs q=>b5 b xs ?_,fun b ob u q=>b6 b ob u ?_,fun b pp pq q=>b7 b pp pq ?_⟩ }
 ·have h:=I.base.tups b xs q
  show zel _ _ _=_
  rw[zdw fun o' u' q'=>by rw[zaf (na _ _ h),h] at q';cases q'];exact q
 ·have h:=I.base.frzs b ob u q
  exact zeK (by rw[zaf (na _ _ h)];exact h)
 ·have h:=I.base.tbls b pp pq q
  show zel _ _ _=_
  rw[zdw fun o' u' q'=>by rw[zaf (na _ _ h),h] at q';cases q'];exact q
theorem zc3 {M:Model}{A:Around}{E:Value→Shared→Prop}{Q:Bool→Shared→Prop}{K:PySem.W.Frag}{e C D:Addr}{oe:Obj}{b:Bool} (X:K.In s.heap) (he:s.heap.get? e=some oe) (hc:oe.cls=.ref C) (hb:PySem.W.mroIn K C (.ref D)=some b)
  (hB:PySem.W.mroIn K D (.type "BaseException")=some true) (hT:PySem.W.typeIn K (.ref D)=some (.type "type")) (fin:Q b s):wpAny M A (excMatches (.ref e) (.ref D)) Q E s:=by
 have L1:=PySem.W.looks_typeIn (M:=M) X hT
 have L2:=PySem.W.looks_mroIn (M:=M) X hB
 have L3:=PySem.W.looks_mroIn (M:=M) X hb
 have L4:PySem.W.Looks M s.heap (isType (.ref D)) true:=by
  obtain⟨cd,h1,_⟩:=Option.bind_eq_some_iff.mp hB
  unfold PySem.W.clsIn at h1
  split at h1
  ·rename_i c1 d1 e1 s1 at1
   intro A' Q' E' s' k q
   unfold isType loadHead
   exact wpAny_bind (wpAny_loadPart (k _ _ (X _ _ at1)) (wpAny_pure q))
  ·cases h1
 have L5:PySem.W.Looks M s.heap (isInstance (.ref D) (.type "tuple")) false:=L1.andThen (PySem.W.Looks.of_pure tc_notTuple)
 have L6:PySem.W.Looks M s.heap (typeOf (.ref e)) (.ref C):=(PySem.W.Looks.ld he).andThen (by rw[hc];exact .now)
 have L7:PySem.W.Looks M s.heap (isExcClass (.ref D)) true:=L4.andThen L2
 unfold excMatches
 refine wpAny_bind (L5.here ?_)
 simp only[Bool.false_eq_true,if_false]
 refine wpAny_bind (wpAny_pure (wpAny_bind ?_))
 simp only[List.forIn_cons,List.forIn_nil]
 refine wpAny_bind (wpAny_bind (L7.here ?_))
 simp only[Bool.not_true,Bool.false_eq_true,if_false]
 refine wpAny_pure (wpAny_pure (wpAny_bind (L6.here (wpAny_bind (wpAny_bind (wpAny_bind (L3.here ?_)))))))
 cases b with
 | true=>
  simp only[if_true]
  exact wpAny_pure (wpAny_pure (wpAny_pure fin))
 | false=>
  simp only[Bool.false_eq_true,if_false]
  exact wpAny_pure (wpAny_pure (wpAny_pure fin))
theorem zcL {M:Model}{A:Around}{E:Value→Shared→Prop}{i:Nat}{n:Str}{pos:Pos}{Q:Unit→Shared→Prop} (I:Inv X pins σ H s) (hN:X.N.Nodup) (hi:X.N[i]?=some n) (hk:X.env.kindOf n=some .local)
  (fin:∀ s',Inv X pins (σ.set i none) H s'→Q () s'):wpAny M A (do bindName X.env n .none;unbindBehindTheSuite X.env n pos) Q E s:=by
 obtain⟨m,hn,hl⟩:=id I.loc
 have hcls:(X.env.scope.kind == .class || (X.env.scope.kind == .module && X.env.locals != X.env.globals))=false:=by rw[I.ok.kind];rfl
 obtain⟨oL,_,_,hoL,_⟩:=id hn
 refine wpAny_nameGoes_keeps hk hn hcls fun h' v hn' hs=>fin _ ?_
 have lo:∀ b o,X.s₀.heap.get? b=some o→b≠X.env.locals:=fun b o e=>Nat.ne_of_lt (Nat.lt_of_lt_of_le (Heap.lt_size e) I.ok.above)
 refine { ok:=I.ok,os:=I.os,bare:=I.bare,base:=⟨fun b o e n hb hx=>(hs.2 b (lo b o e)).trans (I.base.keep b o e n hb hx),fun b o e n hb hx=>?_,I.base.free,fun b o e hx=>?_,I.base.tups,I.base.frzs,I.base.tbls⟩,loc:=⟨_,hn',fun j y v' e1 e2 e3=>?_⟩,cell:=fun y c e=>?_,free:=I.free,freeC:=I.freeC,pin:=fun p hp=>?_,hok:=fun b ob e=>?_,len:=by simpa using I.len }
 ·obtain⟨sl,e1⟩:=I.base.slot b o e n hb hx
  exact⟨sl,(hs.2 b (lo b o e)).trans e1⟩
 ·obtain⟨o',e1⟩:=I.base.there b o e hx
  exact⟨o',(hs.2 b (lo b o e)).trans e1⟩
 ·have hj:j≠i:=fun z=>by
   subst z
   have hiσ:j<σ.length:=by rw[I.len];exact(List.getElem?_eq_some_iff.mp hi).1
   rw[List.getElem?_set_self hiσ] at e2
   cases e2
  rw[List.getElem?_set_ne (Ne.symm hj)] at e2
  obtain⟨u',r',q⟩:=hl j y v' e1 e2 e3
  refine⟨u',r',?_⟩
  rcases q with⟨k,e⟩|⟨k,c,e,z⟩
  ·refine .inl ⟨k,?_⟩
   have:y≠n:=fun e=>hj (zey hN e1 (e ▸ hi))
   simp[this,e]
  ·exact .inr ⟨k,c,e,z.sameBut hs (I.cne y c e)⟩
 ·obtain⟨w',z⟩:=I.cell y c e
  exact⟨w',z.sameBut hs (I.cne y c e)⟩
 ·obtain⟨e,n,ne,nf,d⟩:=I.pin p hp
  exact⟨(hs.2 p.1 ne).trans e,n,ne,nf,d⟩
 ·refine(I.hok b ob e).stay (fun c w' hc q=>(hs.2 c ?_).trans q) (fun _ q=>q) fun _ _ q=>q
  rintro rfl
  rcases hc with hc|hc
  ·rw[← hc,I.free] at e;cases e
  ·rw[I.free] at hc;cases hc
end
abbrev Hd1:=Addr×Option Nat×TS
def zfW.as (D:zfW) (i:Nat):zfW:=⟨fun σ H=>D.nx (σ.set i none) H,D.rt,fun σ H=>D.bk (σ.set i none) H,fun σ H=>D.ct (σ.set i none) H⟩
def zha (K:PySem.W.Frag):List Hd1→zfW→RK
 | [],_,_,_,_,_=>False
 | (D,i,t)::r,En,σ,c,dd,H=>∃ C b,c=.ref C∧PySem.W.mroIn K C (.ref D)=some b∧if b=true then ∀ a o,H a=none→o.cls=c→o.dict=dd→(∃ vs,o.data=.fields vs) →
   (match i with|none=>t En σ (upd H a (.frz o (.own a)))|some i=>t (En.as i) (σ.set i (some (.ref a))) (upd H a (.frz o (.own a)))) else zha K r En σ c dd H
inductive PHs (X:Cx):List ExceptHandler→List Hd1→Prop where
 | nil:PHs X [] []
 | one {x:Str}{np pos:Pos}{b₀:Stmt}{su:List Stmt}{D:Addr}{t:TS}{hs:List ExceptHandler}{ts:List Hd1} (hg:Gl X x) (hm:X.mg x=some (.ref D)) (hB:PySem.W.mroIn X.K D (.type "BaseException")=some true) (hT:PySem.W.typeIn X.K (.ref D)=some (.type "type"))
   (hdb:(x == ("__debug__":Str))=false) (hb:∀ a H₀,PSs (X.hnd a H₀) (b₀::su) t) (r:PHs X hs ts):PHs X (.ExceptHandler (some (.Name x np)) none (b₀::su) pos::hs) ((D,none,t)::ts)
 | as_ {x n:Str}{i:Nat}{np pos:Pos}{b₀:Stmt}{su:List Stmt}{D:Addr}{t:TS}{hs:List ExceptHandler}{ts:List Hd1} (hg:Gl X x) (hm:X.mg x=some (.ref D)) (hB:PySem.W.mroIn X.K D (.type "BaseException")=some true) (hT:PySem.W.typeIn X.K (.ref D)=some (.type "type"))
   (hdb:(x == ("__debug__":Str))=false) (hN:X.N.Nodup) (hi:X.N[i]?=some n) (hk:X.env.kindOf n=some .local) (hb:∀ a H₀,PSs (X.hnd a H₀) (b₀::su) t) (r:PHs X hs ts):PHs X (.ExceptHandler (some (.Name x np)) (some n) (b₀::su) pos::hs) ((D,some i,t)::ts)
section
variable {X:Cx}
theorem zeL {A:Around}{E:Value→Shared→Prop}{pins:List (Addr×Obj)}{s:Shared}{σ:St}{H:Hp}{x:Str}{u:Value}{pos:Pos}{Q:Value→Shared→Prop} (I:Inv X pins σ H s) (hg:Gl X x) (hm:X.mg x=some u) (h:Q u s)
  (hd:(x == ("__debug__":Str))=false):wpAny (model X.prog X.w) A (eval (.Name x pos) X.env) Q E s:=
 Calls.Name_function_global I.ok.kind hg (Calls.loadGlobal_global (by rw[I.ok.glob];exact I.mod.glob.keeps I.bk) hm h) hd
theorem SP.leave {pins:List (Addr×Obj)}{σ:St}{H:Hp}{s s':Shared}{a:Addr}{o:Obj}{D:zfW}{f:Flow} (hex:X.ex=[]) (I:Inv X pins σ H s) (fp:zdn X pins H a) (h:SP (X.hnd a (zel (upd H a (.frz o (.own a))) X.H₀)) pins D f s'):SP X pins D f s':=by
 cases f with
 | next=>obtain⟨σ',H',J,q⟩:=h;exact⟨σ',H',I.leave hex fp J,q⟩
 | brk=>obtain⟨σ',H',J,q⟩:=h;exact⟨σ',H',I.leave hex fp J,q⟩
 | cont=>obtain⟨σ',H',J,q⟩:=h;exact⟨σ',H',I.leave hex fp J,q⟩
 | ret u=>obtain⟨v,σ',H',J,q⟩:=h;exact⟨v,σ',H',I.leave hex fp J,q⟩
theorem SP.as_ {A:Around}{E:Value→Shared→Prop}{pins:List (Addr×Obj)}{s:Shared}{i:Nat}{n:Str}{pos:Pos}{D:zfW}{f:Flow} (hN:X.N.Nodup) (hi:X.N[i]?=some n) (hk:X.env.kindOf n=some .local) (h:SP X pins (D.as i) f s) :
  wpAny (model X.prog X.w) A (do bindName X.env n .none;unbindBehindTheSuite X.env n pos) (fun _ s'=>SP X pins D f s') E s:=by
 cases f with
 | next=>obtain⟨σ',H',J,q⟩:=h;exact zcL J hN hi hk fun s' J'=>⟨_,H',J',q⟩
 | brk=>obtain⟨σ',H',J,q⟩:=h;exact zcL J hN hi hk fun s' J'=>⟨_,H',J',q⟩
 | cont=>obtain⟨σ',H',J,q⟩:=h;exact zcL J hN hi hk fun s' J'=>⟨_,H',J',q⟩
 | ret u=>obtain⟨v,σ',H',J,q⟩:=h;exact zcL J hN hi hk fun s' J'=>⟨v,_,H',J',q⟩
theorem zh2 {hs:List ExceptHandler}{ts:List Hd1} (hex:X.ex=[]) (P:PHs X hs ts):∀ {pins:List (Addr×Obj)}{σ:St}{H:Hp}{s:Shared}{a:Addr}{c:Value}{dd:Option Addr}{T:Addr}{D:zfW},Inv X pins σ H s→Exc X pins H s.heap a c dd (some (T,.none))→zha X.K ts D σ c dd H →
  wpAny (model X.prog X.w) X.A (handleBy (.ref a) X.env hs) (SP X pins D) X.xe s:=by
 induction P with
 | nil=>intro pins σ H s a c dd T D I x h;exact h.elim
 | @one x np pos b₀ su Dc t hs ts hg hm hB hT hdb hb r ih=>
  intro pins σ H s a c dd T D I x h
  obtain⟨C,b,rfl,hmro,h⟩:=h
  obtain⟨o,vs,h1,hc,_⟩:=x.at_.ob
  refine wpAny_handleBy_cons (codeAny_handlers_test (zeL I hg hm (zc3 I.kIn h1 hc hmro hB hT ?_) hdb)) (by intro q;cases q)
  cases b with
  | false=>exact ih I x (by simpa using h)
  | true=>
   refine codeAny_handlers_suite (I.land x fun s1 I1 x1=>?_)
   obtain⟨o1,g1,g2,g3,J⟩:=I1.enter hex x1
   rw[if_pos rfl] at h
   refine wpAny_mono (hb a _ pins s1 σ _ D J (h a o1 x1.fp.1 g1 g2 g3)) (fun f s2 z=>z.leave hex I1 x1.fp) fun _ _ z=>z.elim
 | @as_ x n i np pos b₀ su Dc t hs ts hg hm hB hT hdb hN hi hk hb r ih=>
  intro pins σ H s a c dd T D I x h
  obtain⟨C,b,rfl,hmro,h⟩:=h
  obtain⟨o,vs,h1,hc,_⟩:=x.at_.ob
  refine wpAny_handleBy_cons (codeAny_handlers_test (zeL I hg hm (zc3 I.kIn h1 hc hmro hB hT ?_) hdb)) (by intro q;cases q)
  cases b with
  | false=>exact ih I x (by simpa using h)
  | true=>
   refine codeAny_handlers_suite_as (I.land x fun s1 I1 x1=>?_)
   obtain⟨o1,g1,g2,g3,J⟩:=I1.enter hex x1
   rw[if_pos rfl] at h
   refine zez (X:=X.hnd a _) J hN hi (.inl hk) (v:=.ref a) rfl (fun s2 J2=>?_) (.inr hk)
   exact wpAny_mono (hb a _ pins s2 _ _ (D.as i) J2 (h a o1 x1.fp.1 g1 g2 g3)) (fun f s3 z=>(z.leave hex I1 x1.fp).as_ hN hi hk) fun _ _ z=>z.elim
def tTry (K:PySem.W.Frag) (ts:List Hd1) (tb:RK→TS) (te:TS):TS:=fun D σ H=>tb (zha K ts D) { D with nx:=fun σ H=>te D σ H } σ H
theorem ps_try {body orelse:List Stmt}{h₀:ExceptHandler}{hs:List ExceptHandler}{pos:Pos}{ts:List Hd1}{tb:RK→TS}{te:TS} (B:Body X) (hex:X.ex=[]) (P:PHs X (h₀::hs) ts)
  (hb:∀ (pn:List (Addr×Obj)) (E:Value→Shared→Prop) (R:RK),PX (X.tr pn E) R→PassesOwn (model X.prog X.w) X.A X.env E→PSs (X.tr pn E) body (tb R)) (he:PSs X orelse te):PS X (.Try body (h₀::hs) orelse [] pos) (tTry X.K ts tb te):=by
 intro pins s σ H D I h
 refine wpAny_Try_except ?_
 have to:∀ {pins' σ' H' s'},Inv X pins σ' H' s'→Inv (X.tr (X.pn++pins) pins') [] σ' H' s':=fun {pins' σ' H' s'} J=>{ J with pin:=fun p hp=>J.pin p (by simpa using hp),ok:={ J.ok with } }
 have fro:∀ {E' pins' σ' H' s'},Inv (X.tr (X.pn++pins) E') pins' σ' H' s'→Inv X pins σ' H' s':=fun {E' pins' σ' H' s'} J=>{ J with pin:=fun p hp=>J.pin p (List.mem_append_left _ hp),ok:={ J.ok with } }
 refine wpAny_mono (hb (X.pn++pins) (fun e s₁=>wpAny (model X.prog X.w) X.A (noteFrame e X.env) (fun _ s₂=>wpAny (model X.prog X.w) X.A (setFlight e none) (fun _ s₃=>wpAny (model X.prog X.w) X.A (handleBy e X.env (h₀::hs)) (SP X pins D) X.xe s₃) X.xe s₂) X.xe s₁)
  (zha X.K ts D) ?_ PassesOwn.looking [] s σ H _ (to I) h) (fun f s1 z=>?_) fun _ _ z=>z
 ·intro pins' σ' H' s' a c dd tb J x hR
  have J':=fro J
  have x':Exc X pins H' s'.heap a c dd (tb.map fun T=>(T,Value.none)):=⟨⟨x.fp.1,x.fp.2.1,x.fp.2.2.1,x.fp.2.2.2.1,x.fp.2.2.2.2.1,fun p hp=>x.fp.2.2.2.2.2 p (List.mem_append_left _ hp)⟩,fun p q=>by
   have y:=x.fpT p q
   exact⟨y.1,y.2.1,y.2.2.1,y.2.2.2.1,y.2.2.2.2.1,fun p hp=>y.2.2.2.2.2 p (List.mem_append_left _ hp)⟩,x.at_⟩
  refine J'.note B x' zhW fun s2 T I2 x2=>?_
  exact I2.land x2 fun s3 I3 x3=>zh2 hex P I3 x3 hR
 ·cases f with
  | next=>obtain⟨σ',H',J,q⟩:=z;exact he pins s1 σ' H' D (fro J) q
  | brk=>obtain⟨σ',H',J,q⟩:=z;exact⟨σ',H',fro J,q⟩
  | cont=>obtain⟨σ',H',J,q⟩:=z;exact⟨σ',H',fro J,q⟩
  | ret u=>obtain⟨v,σ',H',J,q⟩:=z;exact⟨v,σ',H',fro J,q⟩
end
end L2
namespace L2
open PySem PySem.Spec PyProof.Rows
structure zfS (K:PySem.W.Frag) (x qual:Str) (st:Stmt) (f:Addr) (fd:FuncData):Prop where
 ex:∃ (oc:Value) (od:Option Addr) (dV kV doc pm:Value) (an:Option Addr) (cdv ct:Value) (osl:Array (Option Value)),
  fd=PySem.W.fnOf x qual (zcx st) (zbR st) (zah st) dV kV doc pm an cdv ct∧K.lookup f=some ⟨oc,od,.func fd,osl⟩∧PySem.W.codeIn K cdv qual=true
theorem zc4 {K:PySem.W.Frag}{x qual:Str}{st:Stmt}{f:Addr}{oc:Value}{od an:Option Addr}{osl:Array (Option Value)}{dV kV doc pm cdv ct:Value} (l:K.lookup f=some ⟨oc,od,.func (PySem.W.fnOf x qual (zcx st) (zbR st) (zah st) dV kV doc pm an cdv ct),osl⟩)
  (c:PySem.W.codeIn K cdv qual=true):zfS K x qual st f (PySem.W.fnOf x qual (zcx st) (zbR st) (zah st) dV kV doc pm an cdv ct):=⟨⟨oc,od,dV,kV,doc,pm,an,cdv,ct,osl,rfl,l,c⟩⟩
section
variable {P:Program}{w:World}{K:PySem.W.Frag}{mg:Str→Option Value}{base:Heap}
theorem zfS.ok {x qual:Str}{st:Stmt}{f:Addr}{fd:FuncData}{N ps:List Str}{k:Nat}{sp:Sp} (F:zfS K x qual st f fd) (S:zau N ps (zah st)) (len:∀ vs H Q E,sp vs H Q E→vs.length=ps.length)
  (hbody:∀ (cdv:Value) (A:Around) (outer:List Env) (s:Shared) (H:Hp) (vs:List V) (Q:VK) (E:XK),zbQ k (A.deeper (envOfC qual (zah st) s.heap.objs.size f cdv))→sp vs H Q E →
   ∃ t,PSs (ziZ CX0 P w K mg base N qual (zah st) f cdv A outer s H E).nox (zbR st) t∧t { nx:=fun _ H'=>Q .non H',rt:=Q } (zeC N vs) H):zcZ P w K mg base CX0 (k + 1) f fd ps sp:=by
 obtain⟨oc,od,dV,kV,doc,pm,an,cdv,ct,osl,rfl,lk,hcd⟩:=F.ex
 refine fn_of lk hcd S len fun A outer s H vs Q E hr hsp=>?_
 obtain⟨t,h,q⟩:=hbody cdv A outer s H vs Q E hr hsp
 exact⟨t,h.nox,q⟩
theorem zfS.okX {x qual:Str}{st:Stmt}{f:Addr}{fd:FuncData}{N ps:List Str}{k:Nat}{sp:Sp} (F:zfS K x qual st f fd) (S:zau N ps (zah st)) (len:∀ vs H Q E,sp vs H Q E→vs.length=ps.length)
  (hbody:∀ (cdv:Value) (A:Around) (outer:List Env) (s:Shared) (H:Hp) (vs:List V) (Q:VK) (E:XK),zbQ k (A.deeper (envOfC qual (zah st) s.heap.objs.size f cdv))→sp vs H Q E →
   ∃ t,PSs (ziZ (CXe P w) P w K mg base N qual (zah st) f cdv A outer s H E) (zbR st) t∧t { nx:=fun _ H'=>Q .non H',rt:=Q } (zeC N vs) H):zcZ P w K mg base (CXe P w) (k + 1) f fd ps sp:=by
 obtain⟨oc,od,dV,kV,doc,pm,an,cdv,ct,osl,rfl,lk,hcd⟩:=F.ex
 exact fn_of lk hcd S len fun A outer s H vs Q E hr hsp=>hbody cdv A outer s H vs Q E hr hsp
end
structure Def (K:PySem.W.Frag) (mg:Str→Option Value) (x:Str) (st:Stmt) (ps:List Str) (dvs:List V):Prop where
 ex:∃ f fd ds,zfS K x x st f fd∧mg x=some (.ref f)∧PySem.W.keepIn K (.ref f)=true∧zbK K fd ps ds∧zaN dvs ds
structure Met (K:PySem.W.Frag) (C:Addr) (m qual:Str) (st:Stmt) (ps:List Str) (dvs:List V):Prop where
 ex:∃ f fd ds,zfS K m qual st f fd∧Meth K C m f∧zbK K fd ps ds∧zaN dvs ds
structure Ini (K:PySem.W.Frag) (mg:Str→Option Value) (C:Addr) (x qual:Str) (st:Stmt) (ps:List Str):Prop where
 ex:∃ f fd,zfS K "__init__" qual st f fd∧Mk K C f∧mg x=some (.ref C)∧zbK K fd ps []
structure zlK (K:PySem.W.Frag) (mg:Str→Option Value) (C:Addr) (x qual:Str) (st:Stmt) (ps:List Str):Prop where
 ex:∃ f fd,zfS K "__init__" qual st f fd∧XCI K C f∧mg x=some (.ref C)∧zbK K fd ps []
structure Cal (P:Program) (w:World) (K:PySem.W.Frag) (mg:Str→Option Value) (base:Heap) (CX:CXT) (k:Nat) (x:Str) (ps:List Str) (dvs:List V) (sp:Sp):Prop where
 ex:∃ f fd ds,zcZ P w K mg base CX k f fd ps sp∧mg x=some (.ref f)∧PySem.W.keepIn K (.ref f)=true∧zbK K fd ps ds∧zaN dvs ds
structure zhb (P:Program) (w:World) (K:PySem.W.Frag) (mg:Str→Option Value) (base:Heap) (CX:CXT) (k:Nat) (C:Addr) (m:Str) (ps:List Str) (dvs:List V) (sp:Sp):Prop where
 ex:∃ f fd ds,zcZ P w K mg base CX k f fd ps sp∧Meth K C m f∧zbK K fd ps ds∧zaN dvs ds
structure CalI (P:Program) (w:World) (K:PySem.W.Frag) (mg:Str→Option Value) (base:Heap) (CX:CXT) (k:Nat) (C:Addr) (x:Str) (ps:List Str) (sp:Sp):Prop where
 ex:∃ f fd,zcZ P w K mg base CX k f fd ps sp∧Mk K C f∧mg x=some (.ref C)∧zbK K fd ps []
structure zh3 (P:Program) (w:World) (K:PySem.W.Frag) (mg:Str→Option Value) (base:Heap) (CX:CXT) (k:Nat) (C:Addr) (x:Str) (ps:List Str) (sp:Sp):Prop where
 ex:∃ f fd,zcZ P w K mg base CX k f fd ps sp∧XCI K C f∧mg x=some (.ref C)∧zbK K fd ps []
section
variable {P:Program}{w:World}{K:PySem.W.Frag}{mg:Str→Option Value}{base:Heap}{CX:CXT}{k:Nat}{C:Addr}{x m qual:Str}{st:Stmt}{ps:List Str}{dvs:List V}{sp:Sp}
theorem Def.cal (D:Def K mg x st ps dvs) (h:∀ f fd,zfS K x x st f fd→zcZ P w K mg base CX k f fd ps sp):Cal P w K mg base CX k x ps dvs sp:=
 let ⟨f,fd,ds,F,r⟩:=D.ex;⟨f,fd,ds,h f fd F,r⟩
theorem Met.cal (D:Met K C m qual st ps dvs) (h:∀ f fd,zfS K m qual st f fd→zcZ P w K mg base CX k f fd ps sp):zhb P w K mg base CX k C m ps dvs sp:=
 let ⟨f,fd,ds,F,r⟩:=D.ex;⟨f,fd,ds,h f fd F,r⟩
theorem Ini.cal (D:Ini K mg C x qual st ps) (h:∀ f fd,zfS K "__init__" qual st f fd→zcZ P w K mg base CX k f fd ps sp):CalI P w K mg base CX k C x ps sp:=
 let ⟨f,fd,F,r⟩:=D.ex;⟨f,fd,h f fd F,r⟩
theorem zlK.cal (D:zlK K mg C x qual st ps) (h:∀ f fd,zfS K "__init__" qual st f fd→zcZ P w K mg base CX k f fd ps sp):zh3 P w K mg base CX k C x ps sp:=
 let ⟨f,fd,F,r⟩:=D.ex;⟨f,fd,h f fd F,r⟩
end
def tCallR (sp:Sp) (dvs:List V) (R:RK) (t:TA):TE:=fun σ H Q=>t σ H fun vs H1=>sp (vs++dvs) H1 Q (R σ)
def tMethR (C:Addr) (m:Str) (sp:Sp) (dvs:List V) (R:RK) (ta:TE) (t:TA):TE:=fun σ H Q=>ta σ H fun x H1=>∃ a dx fs,x=.ref a∧H1 a=some (.ins C dx fs)∧fs.lookup m=none ∧
 t σ H1 fun vs H2=>sp (x::(vs++dvs)) H2 Q (R σ)
section
variable {X:Cx}{CX:CXT}{k:Nat}{C:Addr}{ps:List Str}{sp:Sp}{dvs:List V}{R:RK}{x m:Str}{p pos apos:Pos}{e o:Expr}{es:List Expr}{ta:TE}{t:TA}
theorem zji:PX X (fun _ _ _ _=>False):=fun _ _ _ _ _ _ _ _ _ _ h=>h.elim
theorem zh4 {f:Addr}{fd:FuncData}{ds:List Value}{pins:List (Addr×Obj)}{σ:St}{H:Hp}{s:Shared}{Q:VK}{us:List Value}{vs:List V} (F:zcZ X.prog X.w X.K X.mg X.base (CXe X.prog X.w) k f fd ps sp) (hp:PX X R) (hr:zbQ k X.A)
  (hb:zbK X.K fd ps ds) (hd:zaN dvs ds) (I:Inv X pins σ H s) (r:zaN vs us) (h:sp (vs++dvs) H Q (R σ)):wpAny (model X.prog X.w) X.A (call (.ref f) us) (EP X pins σ Q) X.xe s:=by
 have r2:zaN (vs++dvs) (us++ds):=r.append hd
 have hl:(us++ds).length=ps.length:=by rw[← r2.length];exact F.len _ _ _ _ h
 refine wpAny_call (codeAny_mono (F.run X.A X.stack s H ⟨us,[]⟩ (us++ds) (vs++dvs) Q (R σ) hr I.env0 (hb s us I.kIn hl) r2 h) fun r s' hq=>?_)
 cases r with
 | error e=>exact zkD hp pins σ H s e s' I hq
 | ok fl=>cases fl <;> first | exact I.after hq | exact False.elim hq
theorem zaR (c:Cal X.prog X.w X.K X.mg X.base CX0 k x ps dvs sp) (hr:zbQ k X.A) (hg:Gl X x) (ha:PA X (e::es) t) (hdb:(x == ("__debug__":Str))=false:=by decide)
  (he:starEach (e::es) X.env=(false,eval e X.env)::starEach es X.env:=by rfl) (hpl:(backTo pos (starEach es X.env)).any (·.1)=false:=by rfl):PE X (.Call (.Name x p) (e::es) [] pos) (tCall sp dvs E0 t):=by
 obtain⟨f,fd,ds,F,hm,hk,hb,hd⟩:=c.ex
 exact zkt F hr hg hm hk hb hd zkB ha hdb he hpl
theorem zeM (c:Cal X.prog X.w X.K X.mg X.base (CXe X.prog X.w) k x ps dvs sp) (hp:PX X R) (hr:zbQ k X.A) (hg:Gl X x) (ha:PA X (e::es) t) (hdb:(x == ("__debug__":Str))=false:=by decide)
  (he:starEach (e::es) X.env=(false,eval e X.env)::starEach es X.env:=by rfl) (hpl:(backTo pos (starEach es X.env)).any (·.1)=false:=by rfl):PE X (.Call (.Name x p) (e::es) [] pos) (tCallR sp dvs R t):=by
 obtain⟨f,fd,ds,F,hm,hk,hb,hd⟩:=c.ex
 intro pins s σ H Q I h
 refine wpAny_Call_Name_kw (zcv I hg hm ?_ hdb)
 refine PySem.W.callWith_K (h₀:=X.base) I.ok.mod.kin hk (thn (ha pos pins s σ H _ I h) fun us s1=>L2.ex5 fun vs H1 I1 r q=>⟨I1.kIn,?_⟩) he hpl
 exact zh4 F hp hr hb hd I1 r q
theorem zcM {pl:Sem Bool} (he:PE X o ta) (cl:Cls X.K C) (c:zhb X.prog X.w X.K X.mg X.base CX0 k C m ps dvs sp) (hr:zbQ k X.A)
  (ht:eval (.Call (.Attribute o m apos) [] [] pos) X.env=(do
   let ov ← eval o X.env
   standAt apos.atName
   let (f,first) ← holding [ov] (getMethod ov m pl)
   callWith pos f first (backTo pos (starEach [] X.env)) (backToKw pos (keywordEach [] X.env))):=by rfl) :
  PE X (.Call (.Attribute o m apos) [] [] pos) (zks C m sp dvs E0 ta zlG):=by
 obtain⟨f,fd,ds,F,hm,hb,hd⟩:=c.ex
 exact zi9 (pl:=pl) he cl hm F hr hb hd zkB ht
theorem zbp {pl:Sem Bool} (he:PE X o ta) (cl:Cls X.K C) (c:zhb X.prog X.w X.K X.mg X.base (CXe X.prog X.w) k C m ps dvs sp) (hp:PX X R) (hr:zbQ k X.A) (ha:PA X (e::es) t)
  (hst:starEach (e::es) X.env=(false,eval e X.env)::starEach es X.env:=by rfl) (hpl:(backTo pos (starEach es X.env)).any (·.1)=false:=by rfl)
  (ht:eval (.Call (.Attribute o m apos) (e::es) [] pos) X.env=(do
   let ov ← eval o X.env
   standAt apos.atName
   let (f,first) ← holding [ov] (getMethod ov m pl)
   callWith pos f first (backTo pos (starEach (e::es) X.env)) (backToKw pos (keywordEach [] X.env))):=by rfl) :
  PE X (.Call (.Attribute o m apos) (e::es) [] pos) (tMethR C m sp dvs R ta t):=by
 obtain⟨f,fd,ds,F,hm,hb,hd⟩:=c.ex
 intro pins s σ H Q I h
 refine PySem.W.methodCall_KW (pl:=pl) (thn (he pins s σ H _ I h) fun u s1=>L2.ex5 fun x H1 I1 rx hq_=>?_) ht
 obtain⟨a,dx,fs,ex,ea,l,q⟩:=hq_
 subst ex
 obtain rfl:u=Value.ref a:=rx
 refine zcY I1 ea cl hm l ?_
 refine PySem.W.callWith_K (first:=[.ref a]) (h₀:=X.base) I.ok.mod.kin hm.kp (thn (ha pos pins s1 σ H1 _ I1 q) fun us s2=>L2.ex5 fun vs H2 I2 r q2=>⟨I2.kIn,?_⟩) hst hpl
 exact zh4 (us:=.ref a::us) (vs:=.ref a::vs) F hp hr hb hd I2 (.cons rfl r) q2
theorem zjj (c:CalI X.prog X.w X.K X.mg X.base CX0 k C x ps sp) (hr:zbQ (k + 1) X.A) (hg:Gl X x) (hdb:(x == ("__debug__":Str))=false:=by decide):PE X (.Call (.Name x p) [] [] pos) (tMake C sp [] E0 zlG):=by
 obtain⟨f,fd,F,M,hm,hb⟩:=c.ex
 exact zjb M F hr hg hm hb .nil zkB hdb
theorem zcN {np cpos:Pos} (hp:PX X R) (c:zh3 X.prog X.w X.K X.mg X.base CX0 k C x ps sp) (hr:zbQ (k + 1) X.A) (hg:Gl X x) (ha:PA X (e::es) t)
  (hdb:(x == ("__debug__":Str))=false:=by decide) (he:starEach (e::es) X.env=(false,eval e X.env)::starEach es X.env:=by rfl) (hpl:(backTo cpos (starEach es X.env)).any (·.1)=false:=by rfl) :
  PS X (.Raise (some (.Call (.Name x np) (e::es) [] cpos)) none pos) (zeI C sp [] R t):=by
 obtain⟨f,fd,F,c',hm,hb⟩:=c.ex
 exact zhZ hp c' F hr hb .nil (fun _ _ _ _ _ _ _ _ z=>z.elim) hg hm ha hdb he hpl
theorem zbG {i:Int} (hg:Gl X x) (hm:∃ t,X.mg x=some (.int i t)) (hd:(x == ("__debug__":Str))=false:=by decide):PE X (.Name x pos) (tC (.int i)):=let ⟨t,h⟩:=hm;zfX hg h ⟨t,rfl⟩ hd
theorem zh5 {i:Str} (hg:Gl X x) (hm:∃ t,X.mg x=some (.str i t)) (hd:(x == ("__debug__":Str))=false:=by decide):PE X (.Name x pos) (tC (.str i)):=let ⟨t,h⟩:=hm;zfX hg h ⟨t,rfl⟩ hd
theorem zgC {n:String} (hg:Gl X x) (hm:X.mg x=none) (hv:bootBuiltins x=some (.type n)) (hn:x≠"__name__":=by decide) (hd:(x == ("__debug__":Str))=false:=by decide):PE X (.Name x pos) (tC (.ty n)):=zkl hg hm hv rfl hn hd
end
end L2
namespace L2
open PySem PySem.Spec PyProof.Rows
def HdC (A:Around) (cs:List Addr):Prop:=(A.handled=none∧cs=[])∨∃ a r,cs=a::r∧A.handled=some (.ref a)
theorem Hd.chain {A:Around}{h:Heap} (x:Hd A h):∃ cs,HdC A cs∧Chn h cs:=by
 rcases x with e|⟨a,cs,e,c⟩
 ·exact⟨[],.inl ⟨e,rfl⟩,List.nodup_nil,fun j a z=>by simp at z⟩
 ·exact⟨a::cs,.inr ⟨a,cs,rfl,e⟩,c⟩
theorem HdC.hd {A:Around}{h:Heap}{cs:List Addr} (x:HdC A cs) (c:Chn h cs):Hd A h:=by
 rcases x with⟨e,rfl⟩|⟨a,r,rfl,e⟩
 ·exact .inl e
 ·exact .inr ⟨a,r,e,c⟩
theorem Chn.but {h h':Heap}{cs:List Addr}{it:Addr} (c:Chn h cs) (hI:it∉cs) (k:∀ b o,b≠it→h.get? b=some o→h'.get? b=some o):Chn h' cs:=
 c.mono fun b o hb e=>k b o (fun z=>hI (z ▸ hb)) e
section
variable {prog:Program}{w:World}{A:Around}{E:Value→Shared→Prop}{s:Shared}{cs:List Addr}
theorem zhc (hc:HdC A cs) (I ax:Addr) (hne:ax≠I) (hI:I∉cs) (items:Array Value) :
  Walks prog w A I (I::ax::cs) [I] items.size (fun i v=>items[i]?=some v) (fun i h=>h.IsListIter I ax i∧h.IsList ax items∧Chn h cs) where
 sub:=fun b hb=>by simp at hb;simp[hb]
 frame:=fun _ _ _ st hk=>⟨st.1.at fun o e=>hk I (by simp) o e,st.2.1.at fun o e=>hk ax (by simp) o e,st.2.2.mono fun b o hb e=>hk b (by simp[hb]) o e⟩
 item:=fun i s Q E hi st hQ=>by
  refine wpAny_pyNext_list_item st.1 st.2.1 (x:=items[i]) (by simp[hi]) fun h' hit' hs'=>?_
  exact hQ _ h' s.toks (by simp[hi]) ⟨hit',st.2.1.extBut hs'.extBut hne,st.2.2.but hI hs'.extBut⟩ fun b o hb e=>hs'.extBut b o (fun h=>hb (by simp[h])) e
 done:=fun s Q E st hQ=>zdA (hc.hd st.2.2) st.1 st.2.1 (by simp) fun h' he'=>hQ h' s.toks fun b o hb e=>he' b o (fun h=>hb (by simp[h])) e
 self:=fun _ _ _ _ st hQ=>wpAny_pyIter_listiter st.1 hQ
theorem zhd {it:Addr}{x:Str}{t:Tok}{i:Nat}{Q:Option Value→Shared→Prop} (hd:Hd A s.heap) (hit:s.heap.IsStrIter it "str_ascii_iterator" x t i) (hx:x.cps[i]?=none)
  (hQ:∀ h',Heap.ExtBut it s.heap h'→Q none { s with heap:=h' }):wpAny (model prog w) A (pyNext (.ref it)) Q E s:=by
 obtain⟨o,ho,hc,hdat⟩:=id hit
 unfold pyNext
 refine wpAny_bind (wpAny_attempt (wpAny_callSpecial?_slot (name:=Str.ofString "__next__") hit.typeIs F.slot_str_ascii_iterator_next (wpAny_call_entry F.slot_str_ascii_iterator_next hit.typeIs F.entry_str_ascii_iterator_next ?_ (F.args_str_ascii_iterator_next_1 _))))
 refine(show wpAny _ _ (field (.ref it) 0 >>= _) _ _ s from wpAny_bind (wpAny_field ho hdat (x:=.str x t) rfl ?_))
 refine(show wpAny _ _ (field (.ref it) 1 >>= _) _ _ s from wpAny_bind (wpAny_field ho hdat (x:=.int i 0) rfl ?_))
 simp only[Int.toNat_natCast,hx]
 refine wpAny_bind (wpAny_rule (wpAny_bind (wpAny_setField ho hdat (by simp) (wpAny_bind (wpAny_letGo ?_)))))
 refine zb7 (A:=A.in1) (hd.but ho (fun vs q=>.inl (by rw[hdat] at q;cases q;simp)) (Heap.SameBut.update ..).extBut) fun h' e k' ⟨o',e',c'⟩=>?_
 exact wpAny_bind (wpAny_isInstance (T:="StopIteration") (b:=true) ⟨o',e',c'⟩ isSubtype_stop (wpAny_pure (hQ h' fun b q hb hq=>k' b q ((Heap.SameBut.update ..).extBut b q hb hq))))
theorem zh6 {it:Addr}{x:Str}{t:Tok}{i:Nat}{Q:Option Value→Shared→Prop} (hd:Hd A s.heap) (hit:s.heap.IsStrIter it "str_iterator" x t i) (hx:x.cps[i]?=none)
  (hQ:∀ h',Heap.ExtBut it s.heap h'→Q none { s with heap:=h' }):wpAny (model prog w) A (pyNext (.ref it)) Q E s:=by
 obtain⟨o,ho,hc,hdat⟩:=id hit
 unfold pyNext
 refine wpAny_bind (wpAny_attempt (wpAny_callSpecial?_slot (name:=Str.ofString "__next__") hit.typeIs F.slot_str_iterator_next (wpAny_call_entry F.slot_str_iterator_next hit.typeIs F.entry_str_iterator_next ?_ (F.args_str_iterator_next_1 _))))
 refine(show wpAny _ _ (field (.ref it) 0 >>= _) _ _ s from wpAny_bind (wpAny_field ho hdat (x:=.str x t) rfl ?_))
 refine(show wpAny _ _ (field (.ref it) 1 >>= _) _ _ s from wpAny_bind (wpAny_field ho hdat (x:=.int i 0) rfl ?_))
 simp only[Int.toNat_natCast,hx]
 refine wpAny_bind (wpAny_rule (wpAny_bind (wpAny_setField ho hdat (by simp) (wpAny_bind (wpAny_letGo ?_)))))
 refine zb7 (A:=A.in1) (hd.but ho (fun vs q=>.inl (by rw[hdat] at q;cases q;simp)) (Heap.SameBut.update ..).extBut) fun h' e k' ⟨o',e',c'⟩=>?_
 exact wpAny_bind (wpAny_isInstance (T:="StopIteration") (b:=true) ⟨o',e',c'⟩ isSubtype_stop (wpAny_pure (hQ h' fun b q hb hq=>k' b q ((Heap.SameBut.update ..).extBut b q hb hq))))
def zfv (h:Heap) (I:Addr) (x:Str) (t:Tok) (i:Nat):Prop:=h.IsStrIter I "str_ascii_iterator" x t i∨h.IsStrIter I "str_iterator" x t i
theorem zfv.keep {h h':Heap}{I:Addr}{x:Str}{t:Tok}{i:Nat} (y:zfv h I x t i) (k:∀ o,h.get? I=some o→h'.get? I=some o):zfv h' I x t i:=by
 rcases y with⟨o,e,r⟩|⟨o,e,r⟩
 ·exact .inl ⟨o,k o e,r⟩
 ·exact .inr ⟨o,k o e,r⟩
theorem zh7 {it:Addr}{x:Str}{t:Tok}{i c:Nat}{Q:Option Value→Shared→Prop} (hit:zfv s.heap it x t i) (hx:x.cps[i]?=some c)
  (hQ:∀ h' u tk,zfv h' it x t (i + 1)→Heap.SameBut it s.heap h'→Q (some (.str ⟨#[c]⟩ u)) { s with heap:=h',toks:=tk }):wpAny (model prog w) A (pyNext (.ref it)) Q E s:=by
 rcases hit with y|y
 ·exact wpAny_pyNext_ascii_item y hx fun h' y' hs=>hQ h' _ _ (.inl y') hs
 ·exact wpAny_pyNext_wide_item y hx fun h' y' hs=>hQ h' _ _ (.inr y') hs
theorem zjk {it:Addr}{x:Str}{t:Tok}{i:Nat}{Q:Option Value→Shared→Prop} (hd:Hd A s.heap) (hit:zfv s.heap it x t i) (hx:x.cps[i]?=none)
  (hQ:∀ h',Heap.ExtBut it s.heap h'→Q none { s with heap:=h' }):wpAny (model prog w) A (pyNext (.ref it)) Q E s:=by
 rcases hit with y|y
 ·exact zhd hd y hx hQ
 ·exact zh6 hd y hx hQ
theorem zh8 {it l:Addr}{i:Nat} {items}{Q:Value→Shared→Prop} (hd:Hd A s.heap) (hit:s.heap.IsListIter it l i) (hl:s.heap.IsList l items) (hx:items[i]?=none)
  (hE:∀ h' e,Heap.ExtBut it s.heap h'→(∃ o,h'.get? e=some o∧o.cls=.type "StopIteration")→E (.ref e) { s with heap:=h' }):wpAny (model prog w) A (Builtin.SmallTypes.nextOf (.ref it)) Q E s:=by
 obtain⟨o,ho,hc,hdat⟩:=id hit
 obtain⟨ol,hol,_,nl,hdl⟩:=hl
 unfold Builtin.SmallTypes.nextOf
 refine wpAny_bind (wpAny_callSpecial?_slot (name:=Str.ofString "__next__") hit.typeIs slot_listiter_next (wpAny_call_entry slot_listiter_next hit.typeIs entry_listiter_next ?_ (args_listiter_next _)))
 refine(show wpAny _ _ (field (.ref it) 0 >>= _) _ _ s from wpAny_bind (wpAny_field ho hdat (x:=.ref l) rfl ?_))
 refine(show wpAny _ _ (if (Value.ref l == Value.none)=true then _ else _) _ _ s from ?_)
 rw[if_neg (show ¬ ((Value.ref l == Value.none)=true) from Bool.false_ne_true)]
 refine(show wpAny _ _ (field (.ref it) 1 >>= _) _ _ s from wpAny_bind (wpAny_field ho hdat (x:=.int i 0) rfl ?_))
 refine(show wpAny _ _ (seqItems? (.ref l) >>= _) _ _ s from wpAny_bind (wpAny_seqItems hol hdl ?_))
 simp only[Int.toNat_natCast,hx]
 refine wpAny_bind (wpAny_rule (wpAny_bind (wpAny_setField ho hdat (by simp) ?_)))
 refine zb7 (A:=A.in1) (hd.but ho (fun vs q=>.inl (by rw[hdat] at q;cases q;simp)) (Heap.SameBut.update ..).extBut) fun h' e k' x=>hE h' e (fun b q hb hq=>k' b q ((Heap.SameBut.update ..).extBut b q hb hq)) x
section
variable {κ:Type} [DecidableEq κ] {knd:KeyKind prog w κ}
theorem zh9 {it d:Addr}{i ep:Nat}{kvs:List (κ×Value)}{Q:Option Value→Shared→Prop} (hd:Hd A s.heap) (hit:s.heap.IsKeyIter it d i kvs.length ep) (hm:s.heap.DictAt knd d kvs ep) (hx:kvs[i]?=none)
  (hQ:∀ h',Heap.ExtBut it s.heap h'→Q none { s with heap:=h' }):wpAny (model prog w) A (pyNext (.ref it)) Q E s:=by
 obtain⟨o,ho,hc,hdat⟩:=id hit
 obtain⟨od,es,hod,hcd,hdd,hk,hp,hn⟩:=id hm
 have hsz:es.size=kvs.length:=by rw[← hp.length];simp
 have hge:es.size≤i:=by rw[hsz];simpa using hx
 have hown:Builtin.Dict_items.ownsTuple "dict_keyiterator"=false:=by decide
 unfold pyNext
 refine wpAny_bind (wpAny_attempt (wpAny_callSpecial?_slot (name:=Str.ofString "__next__") hit.typeIs F.slot_dict_keyiterator_next (wpAny_call_entry F.slot_dict_keyiterator_next hit.typeIs F.entry_dict_keyiterator_next ?_ (F.args_dict_keyiterator_next_1 _))))
 refine wpAny_bind (wpAny_pure (wpAny_bind (wpAny_bind ?_)))
 first|refine wpAny_bind (wpAny_typeNameOfWhole_keyiter hit.typeIs (wpAny_pure (wpAny_bind (wpAny_fieldsOf ho hdat ?_))))|refine wpAny_bind (wpAny_typeNameOf_keyiter hit.typeIs (wpAny_pure (wpAny_bind (wpAny_fieldsOf ho hdat ?_))))
 simp only[hown,Bool.false_eq_true,if_false]
 show wpAny _ _ (if (Value.ref d == Value.none)=true then _ else _) _ _ s
 rw[if_neg (show ¬ ((Value.ref d == Value.none)=true) from Bool.false_ne_true)]
 refine wpAny_bind (wpAny_pure (wpAny_bind (wpAny_dictEntries hod hdd ?_)))
 rw[if_neg (by rw[hsz];simp)]
 refine wpAny_bind (wpAny_pure (wpAny_bind (wpAny_dictEpoch hod hdd ?_)))
 rw[if_neg (by simp)]
 refine wpAny_pure ?_
 simp only[show ¬ ((i:Int)<0) from by omega,if_false,Int.toNat_natCast,Array.getElem?_eq_none hge]
 refine wpAny_bind ?_
 first|refine wpAny_bind (wpAny_typeNameOfWhole_keyiter hit.typeIs (wpAny_pure ?_))|refine wpAny_bind (wpAny_typeNameOf_keyiter hit.typeIs (wpAny_pure ?_))
 refine(show wpAny _ _ (setField (.ref it) 0 .none >>= _) _ _ s from wpAny_bind (wpAny_setField ho hdat (by simp) ?_))
 refine zb7 (A:=A.in1) (hd.but ho (fun vs q=>.inr (by rw[hdat] at q;cases q;simp)) (Heap.SameBut.update ..).extBut) fun h' e k' ⟨o',e',c'⟩=>?_
 exact wpAny_bind (wpAny_isInstance (T:="StopIteration") (b:=true) ⟨o',e',c'⟩ isSubtype_stop (wpAny_pure (hQ h' fun b q hb hq=>k' b q ((Heap.SameBut.update ..).extBut b q hb hq))))
theorem zhe (hc:HdC A cs) (I d:Addr) (hne:d≠I) (hI:I∉cs) (kvs:List (κ×Value)) (ep:Nat) :
  Walks prog w A I (I::d::cs) [I] kvs.length (fun i v=>∃ k x,kvs[i]?=some (k,x)∧knd.is k v=true) (fun i h=>h.IsKeyIter I d i kvs.length ep∧h.DictAt knd d kvs ep∧Chn h cs) where
 sub:=fun b hb=>by simp at hb;simp[hb]
 frame:=fun _ _ _ st hk=>⟨st.1.at fun o e=>hk I (by simp) o e,st.2.1.at' fun o e=>hk d (by simp) o e,st.2.2.mono fun b o hb e=>hk b (by simp[hb]) o e⟩
 item:=fun i s Q E hi st hQ=>by
  obtain⟨⟨k,x⟩,hx⟩:∃ p,kvs[i]?=some p:=⟨kvs[i],by simp[hi]⟩
  refine wpAny_pyNext_dict_item st.1 st.2.1 hx fun key h' hkey hit' hs'=>?_
  exact hQ key h' s.toks ⟨k,x,hx,hkey⟩ ⟨hit',st.2.1.extBut hs'.extBut hne,st.2.2.but hI hs'.extBut⟩ fun b o hb e=>hs'.extBut b o (fun h=>hb (by simp[h])) e
 done:=fun s Q E st hQ=>zh9 (hc.hd st.2.2) st.1 st.2.1 (by simp) fun h' he'=>hQ h' s.toks fun b o hb e=>he' b o (fun h=>hb (by simp[h])) e
 self:=fun _ _ _ _ st hQ=>wpAny_pyIter_keyiter st.1 hQ
theorem zhf {it d:Addr}{i ep:Nat}{kvs:List (κ×Value)}{ok ov:Value}{Q:Option Value→Shared→Prop} (hc:HdC A cs) (c:Chn s.heap cs) (hI:it∉cs) (hit:IsItemIter s.heap it d i kvs.length ep ok ov) (hm:s.heap.DictAt knd d kvs ep) (hx:kvs[i]?=none)
  (hQ:∀ h',Heap.ExtBut it s.heap h'→Q none { s with heap:=h' }):wpAny (model prog w) A (pyNext (.ref it)) Q E s:=by
 obtain⟨od,es,hod,hcd,hdd,hk,hp,hn⟩:=id hm
 have hT:s.TypeIs (.ref it) "dict_itemiterator":=⟨_,hit,rfl⟩
 have hsz:es.size=kvs.length:=by rw[← hp.length];simp
 have hge:es.size≤i:=by rw[hsz];simpa using hx
 have hown:Builtin.Dict_items.ownsTuple "dict_itemiterator"=true:=by decide
 unfold pyNext
 refine wpAny_bind (wpAny_attempt (wpAny_callSpecial?_slot (name:=Str.ofString "__next__") hT F.slot_dict_itemiterator_next (wpAny_call_entry F.slot_dict_itemiterator_next hT F.entry_dict_itemiterator_next ?_ (F.args_dict_itemiterator_next_1 _))))
 refine wpAny_bind (wpAny_pure (wpAny_bind (wpAny_bind ?_)))
 first|refine wpAny_bind (wpAny_typeNameOfWhole_itemiter hT (wpAny_pure (wpAny_bind (wpAny_fieldsOf hit rfl ?_))))|refine wpAny_bind (wpAny_typeNameOf_itemiter hT (wpAny_pure (wpAny_bind (wpAny_fieldsOf hit rfl ?_))))
 simp only[hown,if_true]
 show wpAny _ _ (if (Value.ref d == Value.none)=true then _ else _) _ _ s
 rw[if_neg (show ¬ ((Value.ref d == Value.none)=true) from Bool.false_ne_true)]
 refine wpAny_bind (wpAny_pure (wpAny_bind (wpAny_dictEntries hod hdd ?_)))
 rw[if_neg (by rw[hsz];simp)]
 refine wpAny_bind (wpAny_pure (wpAny_bind (wpAny_dictEpoch hod hdd ?_)))
 rw[if_neg (by simp)]
 refine wpAny_pure ?_
 simp only[show ¬ ((i:Int)<0) from by omega,if_false,Int.toNat_natCast,Array.getElem?_eq_none hge]
 refine wpAny_bind ?_
 first|refine wpAny_bind (wpAny_typeNameOfWhole_itemiter hT (wpAny_pure ?_))|refine wpAny_bind (wpAny_typeNameOf_itemiter hT (wpAny_pure ?_))
 refine(show wpAny _ _ (setField (.ref it) 2 .none >>= _) _ _ s from wpAny_bind (wpAny_setField hit rfl (by simp) ?_))
 refine zb7 (A:=A.in1) (HdC.hd (A:=A.in1) hc (c.but hI (Heap.SameBut.update ..).extBut)) fun h' e k' ⟨o',e',c'⟩=>?_
 exact wpAny_bind (wpAny_isInstance (T:="StopIteration") (b:=true) ⟨o',e',c'⟩ isSubtype_stop (wpAny_pure (hQ h' fun b q hb hq=>k' b q ((Heap.SameBut.update ..).extBut b q hb hq))))
theorem zdT:typeLookup (.type "dict") "__len__"=pure (some (.builtin "dict.__len__")):=by rw[typeLookup_type,builtinLookup_eq_fast];kernel_rfl
theorem zf6 {R:Result→Shared→Prop} (hc:HdC A cs){d S:Addr}{kvs:List (κ×Value)}{ep c₀:Nat}{res:Value} (hd:(d == sysModules)=false) (hm:s.heap.DictAt knd d kvs ep) (c:Chn s.heap cs) (hS:s.heap.get? S=some { cls:=.type "list",data:=.seq #[] c₀ }) (hSd:S≠d) (hSc:S∉cs) (hn:kvs.length≤sizeLine)
  (hR:∀ s' acc c',Moved (S::[s.heap.objs.size]) (fun a b=>b=a) s s'→s'.heap.get? S=some { cls:=.type "list",dict:=none,data:=.seq acc c',slots:=#[] }→ItemsOf (fun i v=>∃ k x,kvs[i]?=some (k,x)∧knd.is k v=true) acc kvs.length→R (.ok (.ret res)) s') :
  wpAny (model prog w) A.in1 (Builtin.List.listExtendWith (.ref S) (.ref d) res) (fun fin s'=>match fin with|.done f=>R (.ok f) s'|.again c'=>c'.quiet=true∧codeAny (model prog w) A c' R s') (fun e s'=>R (.error e) s') s:=by
 have hT:s.TypeIs (.ref d) "dict":=hm.dictOf.typeIs
 have h1:Builtin.List.listSameRef (.ref S) (.ref d)=false:=by simp[Builtin.List.listSameRef,hSd]
 unfold Builtin.List.listExtendWith
 refine wpAny_bind (wpAny_typeOf hT ?_)
 rw[if_neg (by rw[h1];decide)]
 refine wpAny_bind (wpAny_pyIter_dict hd hm ?_)
 have m1:=hm.push { cls:=.type "dict_keyiterator",data:=.fields #[.ref d,.int 0 0,.int kvs.length 0,.int ep 0] }
 have hT1:Shared.TypeIs { s with heap:=s.heap.push { cls:=.type "dict_keyiterator",data:=.fields #[.ref d,.int 0 0,.int kvs.length 0,.int ep 0] } } (.ref d) "dict":=m1.dictOf.typeIs
 refine wpAny_bind (wpAny_holding ?_)
 unfold Builtin.List.listLengthHint
 refine wpAny_bind (wpAny_specialOf hT1 zdT ?_)
 generalize hid:("dict.__len__":String)=id0
 wp_delta
 rw[show splitId id0=some ("dict","__len__") from by subst hid;decide +kernel]
 subst hid
 refine wpAny_bind (wpAny_isInstance (b:=true) hT1 (by rw[isSubtype_type];kernel_rfl) ?_)
 simp only[Bool.not_true,Bool.false_eq_true,if_false]
 rw[if_pos (by decide +kernel)]
 refine wpAny_bind (wpAny_typeOf hT1 (wpAny_pure ?_))
 rw[if_pos (by decide +kernel)]
 refine wpAny_bind (wpAny_rule (wpAny_bind ?_))
 have hlt:S<s.heap.objs.size:=Heap.lt_size hS
 have hSI:S≠s.heap.objs.size:=Nat.ne_of_lt hlt
 have hdI:d≠s.heap.objs.size:=Nat.ne_of_lt hm.lt_size
 have hIc:s.heap.objs.size∉cs:=fun z=>Nat.lt_irrefl _ (c.lt _ z)
 have hS1:=Heap.get?_push_of_some { cls:=.type "dict_keyiterator",data:=.fields #[.ref d,.int 0 0,.int kvs.length 0,.int ep 0] } hS
 refine(show wpAny _ A.in1 (updateSeq S (·.push .none) >>= fun _=>updateSeq S (·.pop)) _ _ _ from wpAny_bind (wpAny_updateSeq hS1 rfl ?_))
 have hS2:=Heap.get?_update_self (Obj.mapSeq (·.push Value.none)) hS1 rfl
 refine wpAny_updateSeq (hz:=by seq_fits) hS2 rfl ?_
 have hS3:=Heap.get?_update_self (Obj.mapSeq (·.pop)) hS2 rfl
 generalize hG:((s.heap.push { cls:=.type "dict_keyiterator",data:=.fields #[.ref d,.int 0 0,.int kvs.length 0,.int ep 0] }).update S (Obj.mapSeq (·.push Value.none))).update S (Obj.mapSeq (·.pop))=G at hS3
 have oth:∀ b o,b≠S→(s.heap.push { cls:=.type "dict_keyiterator",data:=.fields #[.ref d,.int 0 0,.int kvs.length 0,.int ep 0] }).get? b=some o→G.get? b=some o:=fun b o hb e=>by
  rw[← hG];exact(Heap.get?_update_other _ _ (Ne.symm hb)).trans ((Heap.get?_update_other _ _ (Ne.symm hb)).trans e)
 have W:=(zhe (prog:=prog) (w:=w) (knd:=knd) (A:=A.in1) hc s.heap.objs.size d hdI hIc kvs ep).toS
 have it0:G.IsKeyIter s.heap.objs.size d 0 kvs.length ep:=⟨_,oth _ _ (Ne.symm hSI) (Heap.get?_push_size _ rfl),rfl,rfl⟩
 have d0:G.DictAt knd d kvs ep:=m1.at' fun o e=>oth d o (Ne.symm hSd) e
 have c0:Chn G cs:=c.mono fun b o hb e=>oth b o (fun z=>hSc (z ▸ hb)) (Heap.get?_push_of_some _ e)
 have hSf:S∉s.heap.objs.size::d::cs:=by simp[hSI,hSd,hSc]
 refine wpAny_pure ⟨plainId_quiet F.plain_extend_loop _,codeAny_extend_loopS W hn S hSf res kvs.length 0 _ _ _ rfl (Nat.zero_le _) ⟨it0,d0,c0⟩ hS3 (ItemsOf.nil _) fun s' acc' c' hm' hS' hacc=>?_⟩
 have mv0:Moved (S::[s.heap.objs.size]) (fun a b=>b=a) s { s with heap:=G }:=⟨fun b o hb e=>oth b o (fun z=>hb (List.mem_cons.mpr (.inl z))) (Heap.get?_push_of_some _ e),rfl,rfl,rfl,Nat.le_refl _⟩
 exact hR s' acc' c' (Moved.trans (fun _ _ _ h1 h2=>h2.trans h1) mv0 hm') hS' hacc
theorem zeb {Q:Value→Shared→Prop} (hc:HdC A cs){d:Addr}{kvs:List (κ×Value)}{ep:Nat} (hd:(d == sysModules)=false) (hm:s.heap.DictAt knd d kvs ep) (c:Chn s.heap cs) (hn:kvs.length≤sizeLine)
  (hQ:∀ s' acc c',(∀ b o,s.heap.get? b=some o→s'.heap.get? b=some o)→s'.gens=s.gens→s'.drawn=s.drawn→s'.os=s.os→s'.heap.get? s.heap.objs.size=some { cls:=.type "list",dict:=none,data:=.seq acc c',slots:=#[] } →
   ItemsOf (fun i v=>∃ k x,kvs[i]?=some (k,x)∧knd.is k v=true) acc kvs.length→Q (.ref s.heap.objs.size) s'):wpAny (model prog w) A (call (.type "list") [.ref d]) Q E s:=by
 refine callType_codes (Q₁:=fun obj s₁=>obj=.ref s.heap.objs.size∧s₁={ s with heap:=s.heap.push { cls:=.type "list",data:=.seq #[] } }) F.called_list (F.typeCall_list_1 _) F.entry_list_init (code_list_new _ ⟨rfl,rfl⟩) fun obj s₁ h₁=>?_
 obtain⟨rfl,rfl⟩:=h₁
 have hS:(s.heap.push { cls:=.type "list",data:=.seq #[] }).get? s.heap.objs.size=some { cls:=.type "list",data:=.seq #[] }:=Heap.get?_push_size _ rfl
 have hdI:s.heap.objs.size≠d:=Ne.symm (Nat.ne_of_lt hm.lt_size)
 have hIc:s.heap.objs.size∉cs:=fun z=>Nat.lt_irrefl _ (c.lt _ z)
 refine⟨⟨_,hS,rfl⟩,F.args_list_init_2 _ _,?_⟩
 refine(show wpAny _ A.in1.in1 (do let old ← Builtin.List.listItems (.ref s.heap.objs.size);Builtin.List.listUpdate (.ref s.heap.objs.size) (fun _=>#[]);letGo old.toList.reverse;Builtin.List.listExtendWith (.ref s.heap.objs.size) (.ref d) .none) _ _ _ from wpAny_bind ?_)
 unfold Builtin.List.listItems
 refine wpAny_bind (wpAny_seqItems hS rfl (wpAny_pure ?_))
 refine(show wpAny _ A.in1.in1 (updateSeq s.heap.objs.size (fun _=>#[]) >>= fun _=>letGo (#[]:Array Value).toList.reverse >>= fun _=>Builtin.List.listExtendWith (.ref s.heap.objs.size) (.ref d) .none) _ _ _ from wpAny_bind (wpAny_updateSeq hS rfl (wpAny_bind (wpAny_letGo ?_))))
 have hS2:=Heap.get?_update_self (Obj.mapSeq (fun _=>(#[]:Array Value))) hS rfl
 have oth:∀ b o,s.heap.get? b=some o→((s.heap.push { cls:=.type "list",data:=.seq #[] }).update s.heap.objs.size (Obj.mapSeq (fun _=>(#[]:Array Value)))).get? b=some o:=fun b o e=>
  (Heap.get?_update_other _ _ (Ne.symm (Nat.ne_of_lt (Heap.lt_size e)))).trans (Heap.get?_push_of_some _ e)
 have sz:((s.heap.push { cls:=.type "list",data:=.seq #[] }).update s.heap.objs.size (Obj.mapSeq (fun _=>(#[]:Array Value)))).objs.size=s.heap.objs.size + 1:=by rw[Heap.size_update,Heap.size_push]
 refine zf6 (A:=A.in1) hc hd (hm.at' fun o e=>oth d o e) (c.mono fun b o _ e=>oth b o e) hS2 hdI hIc hn fun s' acc c' mv hS' hacc=>⟨rfl,?_⟩
 refine hQ s' acc c' (fun b o e=>mv.heap b o (fun z=>?_) (oth b o e)) mv.gens mv.drawn mv.os hS' hacc
 have lt:=Heap.lt_size e
 simp only[List.mem_cons,List.not_mem_nil,or_false] at z
 rcases z with z|z
 ·exact absurd lt (by rw[z];exact Nat.lt_irrefl _)
 ·exact absurd lt (by rw[z,sz];exact Nat.not_lt.mpr (Nat.le_succ _))
end
end
end L2
namespace L2
open PySem PySem.Spec PyProof.Rows
def Its (x:Str):It:=⟨fun i _=>i<x.cps.size,fun i H v H'=>H'=H∧∃ c,x.cps[i]?=some c∧v=.str ⟨#[c]⟩,fun i _=>x.cps.size≤i⟩
theorem zjl {P:Program}{w:World}{K:PySem.W.Frag}{tg:Expr} (x:Str) (t:Tok) (it:Addr):zkm P w K tg (Its x) [it] it (fun i h=>zfv h it x t i) where
 mem:=by simp
 obj:=fun i h st b hb=>by
  have e:b=it:=by simpa using hb
  subst e
  rcases st with⟨o,e,c,d⟩|⟨o,e,c,d⟩ <;> exact⟨o,e,fun v z=>by rw[d] at z;cases z⟩
 keep:=fun i h h' st k=>st.keep fun o e=>k it (by simp) o e
 item:=by
  intro X hP hw hK hc i pins s σ H E I hf st hg
  subst hP hw hK
  obtain⟨f0,f1,f2,f3,f4,f5⟩:=hf it (by simp)
  have hg':i<x.cps.size:=hg
  have hx:x.cps[i]?=some x.cps[i]:=by simp[hg']
  refine zh7 st hx fun h' u tk st' sb=>?_
  have I1:Inv X pins σ H { s with heap:=h',toks:=tk }:=I.turned (fun b o hb e=>(sb.2 b hb).trans e) f0 f1 f3 f4 f5
  rcases id st' with⟨o,e,c,d⟩|⟨o,e,c,d⟩
  ·exact⟨_,rfl,zi2 (s:={ s with heap:=h',toks:=tk }) e c d (by decide) ⟨.str ⟨#[x.cps[i]]⟩,H,I1,⟨u,rfl⟩,⟨rfl,_,hx,rfl⟩,st',fun b hb=>(hf b hb).1⟩⟩
  ·exact⟨_,rfl,zi2 (s:={ s with heap:=h',toks:=tk }) e c d (by decide) ⟨.str ⟨#[x.cps[i]]⟩,H,I1,⟨u,rfl⟩,⟨rfl,_,hx,rfl⟩,st',fun b hb=>(hf b hb).1⟩⟩
 done:=by
  intro X hP hw hK hc i pins s σ H E I hf st hg
  subst hP hw hK
  obtain⟨f0,f1,f2,f3,f4,f5⟩:=hf it (by simp)
  exact zjk I.hd st (Array.getElem?_eq_none hg) fun h' eb=>⟨rfl,I.turned (t':=s.toks) (fun b o hb e=>eb b o hb e) f0 f1 f3 f4 f5⟩
 self:=fun _ _ _ _ _ st h=>by
  rcases st with y|y
  ·exact wpAny_pyIter_striter_ascii y h
  ·exact wpAny_pyIter_striter_wide y h
def iStr (tl:TE):TI:=fun σ H R=>tl σ H fun x H1=>∃ z,x=.str z∧R (Its z) H1
section
variable {X:Cx}{tg:Expr}
theorem zj5 {l:Expr}{tl:TE} (hl:PE X l tl):PI X tg l (iStr tl):=by
 intro pins s σ H R I h
 refine thn (hl pins s σ H _ I h) fun v s1=>L2.ex5 fun x H1 I1 r1 hq_=>?_
 obtain⟨z,e,q⟩:=hq_
 subst e
 obtain⟨t,rfl⟩:=r1
 have fin:∀ ob:Obj,zfv (s1.heap.push ob) s1.heap.objs.size z t 0→PIE X pins σ tg R (.ref s1.heap.objs.size) { s1 with heap:=s1.heap.push ob }:=fun ob st=>
  ⟨s1.heap.objs.size,[s1.heap.objs.size],_,Its z,H1,rfl,I1.kept (t':=s1.toks) fun b o e=>Heap.get?_push_of_some _ e,zjl z t _,st,fun b hb=>by
   have e:b=s1.heap.objs.size:=by simpa using hb
   subst e
   exact I1.fpOk (Nat.le_refl _) (I1.hok.fresh (Nat.le_refl _)),q⟩
 cases ha:z.cps.all (·<128)
 ·exact wpAny_pyIter_wide ha (fin _ (.inr ⟨_,Heap.get?_push_size _ rfl,rfl,rfl⟩))
 ·exact wpAny_pyIter_ascii ha (fin _ (.inl ⟨_,Heap.get?_push_size _ rfl,rfl,rfl⟩))
end
section
variable {g:TG}{tt:TT}{te:TE}
theorem zgD {x:Str}{D:Addr}{τ:St}{H:Hp}{Q:VK} (Pv:Nat→St→Hp→Prop) (h0:Pv 0 τ H)
  (hs:∀ i c τ H,x.cps[i]?=some c→Pv i τ H→g (.str ⟨#[c]⟩) τ H fun τ2 H2=>tt τ2 H2 fun b H3=>
   if b=true then te τ2 H3 fun y H4=>∃ ys,H4 D=some (.lst ys)∧ys.length<sizeLine∧Pv (i + 1) τ2 (upd H4 D (.lst (ys++[y]))) else Pv (i + 1) τ2 H3)
  (hd:∀ τ H,Pv x.cps.size τ H→Q (.ref D) H):zg7 (Its x) D τ H g tt te Q:=by
 refine⟨fun i m τ H=>m=x.cps.size - i∧i≤x.cps.size∧Pv i τ H,⟨x.cps.size,by simp,Nat.zero_le _,h0⟩,?_⟩
 rintro i m τ H ⟨rfl,hi,p⟩
 by_cases hlt:i<x.cps.size
 ·refine .inr ⟨hlt,Pv (i + 1),fun τ' H' p'=>⟨x.cps.size - (i + 1),by omega,rfl,hlt,p'⟩,fun v H' y=>?_⟩
  obtain⟨e,c,hc,ev⟩:=y
  subst e ev
  exact hs i c τ _ hc p
 ·have e:i=x.cps.size:=by omega
  subst e
  exact .inl ⟨Nat.le_refl _,hd τ H p⟩
end
section
variable {X:Cx}
theorem Inv.freeze {pins:List (Addr×Obj)}{σ:St}{H:Hp}{s:Shared}{d:Addr}{kvs:List (Key×V)}{o:Obj} (I:Inv X pins σ H s) (e:H d=some (.dK kvs)) (ho:s.heap.get? d=some o):Inv X pins σ (upd H d (.frz o (.dK kvs))) s:=by
 have ne:∀ b u,H b=some u→u≠.dK kvs→b≠d:=fun b u q n z=>by rw[z,e] at q;cases q;exact n rfl
 have kp:∀ b u,H b=some u→u≠.dK kvs→upd H d (.frz o (.dK kvs)) b=some u:=fun b u q n=>by rw[zaf (ne b u q n)];exact q
 refine I.un (h':=s.heap) (t':=s.toks) ⟨fun b _ q _ _ _=>q,fun b ob q _ _ _=>⟨ob.slots,q⟩,fun b ob q n _=>?_,fun b ob q _=>⟨ob,q⟩,fun b xs q=>kp b _ q (by intro z;cases z),fun b ob u q=>kp b _ q (by intro z;cases z),fun b pp pq q=>kp b _ q (by intro z;cases z)⟩ fun b u q=>?_
 ·rw[zaf (fun z=>by rw[z,e] at n;cases n)];exact n
 ·by_cases hb:b=d
  ·subst hb
   rw[zab] at q;cases q
   exact⟨ho,(I.hok _ _ e)⟩
  ·rw[zaf hb] at q
   exact(I.hok b u q).stay (fun c v _ r=>r) (fun c r=>kp c _ r (by intro z;cases z)) (fun c xs r=>kp c _ r (by intro z;cases z)) fun c ob r=>kp c _ r (by intro z;cases z)
theorem Inv.thaw {pins:List (Addr×Obj)}{σ:St}{H:Hp}{s:Shared}{d:Addr}{kvs:List (Key×V)}{o:Obj} (I:Inv X pins σ H s) (hX:∀ o u,X.H₀ d≠some (.frz o u)) (e:H d=some (.frz o (.dK kvs))):Inv X pins σ (upd H d (.dK kvs)) s:=by
 have ne:∀ b u,H b=some u→(∀ o v,u≠.frz o v)→b≠d:=fun b u q n z=>by rw[z,e] at q;cases q;exact n _ _ rfl
 have kp:∀ b u,H b=some u→(∀ o v,u≠.frz o v)→upd H d (.dK kvs) b=some u:=fun b u q n=>by rw[zaf (ne b u q n)];exact q
 have nn:∀ b,H b=none→upd H d (.dK kvs) b=none:=fun b q=>by rw[zaf (fun z=>by rw[z,e] at q;cases q)];exact q
 have un:Un X.fs X.ex X.H₀ (upd H d (.dK kvs)) X.s₀.heap s.heap:=by
  obtain⟨b1,b2,b3,b4,b5,b6,b7⟩:=I.base
  refine⟨b1,b2,fun b ob q n x=>nn b (b3 b ob q n x),b4,fun b xs q=>kp b _ (b5 b xs q) (by intro _ _ z;cases z),fun b ob u q=>?_,fun b pp pq q=>?_⟩
  ·rw[zaf (fun z=>hX ob u (by rw[← z];exact q))];exact b6 b ob u q
  ·exact kp b _ (b7 b pp pq q) (by intro _ _ z;cases z)
 refine { I with base:=un,free:=nn _ I.free,freeC:=fun x c q=>nn _ (I.freeC x c q),pin:=fun p hp=>?_,hok:=fun b u q=>?_ }
 ·obtain⟨p1,p2,p3⟩:=I.pin p hp
  exact⟨p1,nn _ p2,p3⟩
 ·by_cases hb:b=d
  ·subst hb
   rw[zab] at q;cases q
   exact(I.hok _ _ e).2
  ·rw[zaf hb] at q
   exact(I.hok b u q).stay (fun c v _ r=>r) (fun c r=>kp c _ r (by intro _ _ z;cases z)) (fun c xs r=>kp c _ r (by intro _ _ z;cases z)) fun c ob r=>by rw[zaf (fun z=>by rw[z,e] at r;cases r)];exact r
theorem Inv.notFrz {pins:List (Addr×Obj)}{σ:St}{H:Hp}{s:Shared}{d:Addr}{kvs:List (Key×V)} (I:Inv X pins σ H s) (e:H d=some (.dK kvs)):∀ o u,X.H₀ d≠some (.frz o u):=fun o u q=>by
 have:=I.base.frzs d o u q
 rw[e] at this;cases this
def tThaw (t:TE):TE:=fun σ H Q=>∃ d kvs,H d=some (.dK kvs)∧t σ H fun v H1=>∃ o,H1 d=some (.frz o (.dK kvs))∧Q v (upd H1 d (.dK kvs))
theorem zkI {e:Expr}{t:TE} (h:PE X e t):PE X e (tThaw t):=by
 intro pins s σ H Q I q
 obtain⟨d,kvs,hd,q⟩:=q
 exact thn (h pins s σ H _ I q) fun u s1 ⟨x,H1,I1,r,o,e1,q1⟩=>⟨x,_,I1.thaw (I.notFrz hd) e1,r,q1⟩
def zia (v d:Addr):HO:=.ext fun h=>h.IsItemsView v d
def rItems:V→List V→Hp→VK→Prop:=fun x vs H Q=>∃ d kvs,x=.ref d∧vs=[]∧H d=some (.dK kvs)∧∀ v,H v=none→Q (.ref v) (upd H v (zia v d))
theorem zjm:MtR X "dict.items" rItems:=by
 intro pins s σ H x xs v us Q I rx r h
 obtain⟨d,kvs,rfl,rfl,e,q⟩:=h
 obtain rfl:v=Value.ref d:=rx
 cases r
 obtain⟨z,hd,vs,rel,dd⟩:=zje I.hok e
 refine call_meetsIn PySem.F.slot_dict_items dd.typeIs PySem.F.entry_dict_items (PySem.F.args_dict_items_1 _) (meets_dict_items (zaI X.prog X.w) d hd) ⟨⟨vs,dd⟩,?_⟩
 refine⟨.ref s.heap.objs.size,_,I.laid (t':=s.toks) (o:=zia s.heap.objs.size d) (fun b ob q=>Heap.get?_push_of_some _ q) (Nat.le_refl _) ?_,rfl,q _ (I.hok.fresh (Nat.le_refl _))⟩
 exact⟨⟨_,Heap.get?_push_size _ rfl,rfl,rfl⟩,⟨_,Heap.get?_push_size _ rfl⟩,fun h1 h2 ⟨o,a,r⟩ k=>⟨o,k o a,r⟩⟩
end
def Iti (d:Addr) (o:Obj) (kvs:List (Key×V)):It:=
 ⟨fun i H=>H d=some (.frz o (.dK kvs))∧i<kvs.length,fun i H v H'=>∃ T k x,v=.ref T∧H T=none∧kvs[i]?=some (k,x)∧H'=upd H T (.tup [kV k,x]),fun i H=>H d=some (.frz o (.dK kvs))∧kvs.length≤i⟩
def ItemIt (h:Heap) (it d:Addr) (o:Obj) (n i:Nat):Prop:=∃ es ep ok ov,o.data=.dict es ep∧IsItemIter h it d i n ep ok ov
theorem kV_of {P:Program}{w:World}{k:Key}{u:Value} (h:(zaI P w).is k u=true):za3 (kV k) u:=by
 rcases zaL (show zew k u=true from h) with⟨i,t,rfl,rfl⟩|⟨x,t,rfl,rfl⟩
 ·exact⟨t,rfl⟩
 ·exact⟨t,rfl⟩
theorem KV.get {kvs:List (Key×V)}{vs:List (Key×Value)} (r:KV kvs vs):∀ {i:Nat}{k:Key}{x:V},kvs[i]?=some (k,x)→∃ u,vs[i]?=some (k,u)∧za3 x u:=by
 induction r with
 | nil=>intro i k x e;simp at e
 | @cons p q l1 l2 h t ih=>
  intro i k x e
  cases i with
  | zero=>
   simp at e
   subst e
   exact⟨q.2,by simp only[List.getElem?_cons_zero,Option.some.injEq];exact Prod.ext h.1.symm rfl,h.2⟩
  | succ i=>exact ih (by simpa using e)
theorem zcA:entryFor table "dict_itemiterator.__iter__"=some Builtin.«dict_keyiterator.__iter__»:=entryFor_alias (id':="dict_keyiterator.__iter__") (by kernel_rfl) rfl (by decide +kernel) (by kernel_rfl)
theorem zhg {P:Program}{w:World}{K:PySem.W.Frag}{es:List Expr}{k:Nat}{pos:Pos}{it d:Addr}{o:Obj}{kvs:List (Key×V)}:zkm P w K (.Tuple es k pos) (Iti d o kvs) [it] it (fun i h=>ItemIt h it d o kvs.length i) where
 mem:=by simp
 obj:=fun i h st b hb=>by
  have e:b=it:=by simpa using hb
  subst e
  obtain⟨_,_,_,_,_,e⟩:=st
  exact⟨_,e,fun v q=>by simp at q⟩
 keep:=fun i h h' st kk=>by
  obtain⟨a,b,c,e,q,y⟩:=st
  exact⟨a,b,c,e,q,kk it (by simp) _ y⟩
 item:=by
  intro X hP hw hK hc i pins s σ H E I hf st hg
  subst hP hw hK
  obtain⟨hd,hlt⟩:=hg
  obtain⟨es',ep,ok,ov,hdat,hit⟩:=st
  obtain⟨f0,f1,f2,f3,f4,f5⟩:=hf it (by simp)
  obtain⟨ho,hdk⟩:=I.hok _ _ hd
  obtain⟨z,hsm,vs,rel,⟨o',es2,ep2,ho2,hx2,hd2,r2⟩⟩:=hdk
  rw[ho] at ho2;cases ho2
  rw[hdat] at hd2;cases hd2
  have dat:s.heap.DictAt (zaI X.prog X.w) d vs ep:=⟨o,es',ho,hx2,hdat,r2⟩
  obtain⟨⟨kk,x⟩,hx⟩:∃ p,kvs[i]?=some p:=⟨kvs[i],by simp[hlt]⟩
  obtain⟨u,hu,ru⟩:=rel.get hx
  have hlen:kvs.length=vs.length:=rel.length
  rw[hlen] at hit
  refine wpAny_pyNext_items_item hit dat hu fun key h' hkey a1 a2 a3 hkp=>⟨_,rfl,?_⟩
  refine wpAny_letOwnedTupleGo_items (s:={ s with heap:=h' }) a1 fun h'' hit' hs'=>?_
  have hTn:H s.heap.objs.size=none:=I.hok.fresh (Nat.le_refl _)
  have nT:s.heap.objs.size≠it:=Ne.symm (Nat.ne_of_lt (Heap.lt_size hit))
  have I1:Inv X pins σ (upd H s.heap.objs.size (.tup [kV kk,x])) { s with heap:=s.heap.push { cls:=.type "tuple",data:=.seq #[key,u] } }:=
   I.laid (t':=s.toks) (fun b o e=>Heap.get?_push_of_some _ e) (Nat.le_refl _) ⟨by show 2≤sizeLine;decide,[key,u],.cons (kV_of hkey) (.cons ru .nil),⟨_,Heap.get?_push_size _ rfl,rfl,_,rfl⟩⟩
  have f0':upd H s.heap.objs.size (.tup [kV kk,x]) it=none:=by rw[zaf (Ne.symm nT)];exact f0
  have I2:Inv X pins σ (upd H s.heap.objs.size (.tup [kV kk,x])) { s with heap:=h'' }:=I1.turned (t':=s.toks) (fun b ob hb e=>by
   rcases Heap.get?_push_cases e with⟨rfl,rfl⟩|e
   ·exact hs'.extBut _ _ hb a2
   ·exact hs'.extBut _ _ hb (hkp b ob hb e)) f0' f1 f3 f4 f5
  refine⟨.ref s.heap.objs.size,_,I2,rfl,⟨_,kk,x,rfl,hTn,hx,rfl⟩,⟨es',ep,key,u,hdat,by rw[hlen];exact hit'⟩,fun b hb=>?_⟩
  have e:b=it:=by simpa using hb
  subst e
  exact f0'
 done:=by
  intro X hP hw hK hc i pins s σ H E I hf st hg
  subst hP hw hK
  obtain⟨hd,hge⟩:=hg
  obtain⟨es',ep,ok,ov,hdat,hit⟩:=st
  obtain⟨f0,f1,f2,f3,f4,f5⟩:=hf it (by simp)
  obtain⟨ho,hdk⟩:=I.hok _ _ hd
  obtain⟨z,hsm,vs,rel,⟨o',es2,ep2,ho2,hx2,hd2,r2⟩⟩:=hdk
  rw[ho] at ho2;cases ho2
  rw[hdat] at hd2;cases hd2
  have dat:s.heap.DictAt (zaI X.prog X.w) d vs ep:=⟨o,es',ho,hx2,hdat,r2⟩
  have hlen:kvs.length=vs.length:=rel.length
  rw[hlen] at hit
  have nc:∃ cs,HdC X.A cs∧Chn s.heap cs∧it∉cs:=by
   rcases I.hdAt with e|⟨b,cs,e,c⟩
   ·exact⟨[],.inl ⟨e,rfl⟩,⟨List.nodup_nil,fun j a q=>by simp at q⟩,by simp⟩
   ·exact⟨b::cs,.inr ⟨b,cs,rfl,e⟩,c.chn I.hok,c.not_mem f0⟩
  obtain⟨cs,hcs,ch,ncs⟩:=nc
  exact zhf hcs ch ncs hit dat (List.getElem?_eq_none (by rw[← hlen];exact hge)) fun h' eb=>⟨rfl,I.turned (t':=s.toks) (fun b o hb e=>eb b o hb e) f0 f1 f3 f4 f5⟩
 self:=fun A i s Q E st h=>by
  obtain⟨es',ep,ok,ov,hdat,hit⟩:=st
  have hT:s.TypeIs (.ref it) "dict_itemiterator":=⟨_,hit,rfl⟩
  refine wpAny_pyIter_slot hT PySem.F.slot_dict_itemiterator_iter (wpAny_call_entry PySem.F.slot_dict_itemiterator_iter hT zcA ?_ (PySem.F.args_dict_itemiterator_iter_1 _))
  show wpAny _ _ (ret (.ref it)) _ _ s
  exact wpAny_pure ⟨_,rfl,"dict_itemiterator",_,hT,PySem.F.slot_dict_itemiterator_next.lookup,h⟩
def iView (tl:TE):TI:=fun σ H R=>tl σ H fun x H1=>∃ v d kvs,x=.ref v∧H1 v=some (zia v d)∧H1 d=some (.dK kvs)∧∀ o,R (Iti d o kvs) (upd H1 d (.frz o (.dK kvs)))
section
variable {X:Cx}
theorem zkJ {es:List Expr}{k:Nat}{tpos:Pos}{l:Expr}{tl:TE} (hl:PE X l tl):PI X (.Tuple es k tpos) l (iView tl):=by
 intro pins s σ H R I h
 refine thn (hl pins s σ H _ I h) fun w s1=>L2.ex5 fun x H1 I1 r1 hq_=>?_
 obtain⟨v,d,kvs,e,hv,hd,q⟩:=hq_
 subst e
 obtain rfl:w=Value.ref v:=r1
 obtain⟨z,hsm,vs,rel,dd⟩:=zje I1.hok hd
 obtain⟨o,es',ep,ho,hx,hdat,r⟩:=id dd
 have dat:s1.heap.DictAt (zaI X.prog X.w) d vs ep:=⟨o,es',ho,hx,hdat,r⟩
 refine wpAny_pyIter_items (I1.hok _ _ hv).1 dat ?_
 have I2:=(I1.freeze hd ho).kept (t':=s1.toks) (h':=s1.heap.push { cls:=.type "dict_itemiterator",data:=.fields #[.none,.bool false,.ref d,.int 0 0,.int vs.length 0,.int ep 0,.none,.none] }) fun b o e=>Heap.get?_push_of_some _ e
 refine⟨s1.heap.objs.size,[s1.heap.objs.size],_,_,_,rfl,I2,zhg,⟨es',ep,.none,.none,hdat,?_⟩,fun b hb=>?_,q o⟩
 ·rw[rel.length];exact Heap.get?_push_size _ rfl
 ·have e:b=s1.heap.objs.size:=by simpa using hb
  subst e
  refine I1.fpOk (Nat.le_refl _) ?_
  rw[zaf (Ne.symm (Nat.ne_of_lt (Heap.lt_size ho)))]
  exact I1.hok.fresh (Nat.le_refl _)
end
end L2
namespace L2
open PySem PySem.Spec PyProof.Rows
section
variable {g:TG}{tt:TT}{te:TE}
theorem zhh {d D:Addr}{o:Obj}{kvs:List (Key×V)}{τ:St}{H:Hp}{Q:VK} (Pv:Nat→St→Hp→Prop) (h0:Pv 0 τ H) (hf:∀ i τ H,i≤kvs.length→Pv i τ H→H d=some (.frz o (.dK kvs)))
  (hs:∀ i k x T τ H,kvs[i]?=some (k,x)→H T=none→Pv i τ H→g (.ref T) τ (upd H T (.tup [kV k,x])) fun τ2 H2=>tt τ2 H2 fun b H3=>
   if b=true then te τ2 H3 fun y H4=>∃ ys,H4 D=some (.lst ys)∧ys.length<sizeLine∧Pv (i + 1) τ2 (upd H4 D (.lst (ys++[y]))) else Pv (i + 1) τ2 H3)
  (hd:∀ τ H,Pv kvs.length τ H→Q (.ref D) H):zg7 (Iti d o kvs) D τ H g tt te Q:=
 wk_ (n:=kvs.length) Pv h0 (fun i σ H hi p=>⟨fun h=>⟨hf i σ H hi p,h⟩,fun h=>⟨hf i σ H hi p,h⟩⟩) (fun i v σ H H' hi p y=>by
 obtain⟨T,k,x,rfl,hT,hx,rfl⟩:=y
 exact hs i k x T σ H hx hT p) hd
end
end L2
namespace L2
open PySem PySem.Spec PyProof.Rows
theorem zj6:bootBuiltins "int"=some (.type "int"):=by decide +kernel
theorem zfw:bootBuiltins "str"=some (.type "str"):=by decide +kernel
theorem zkK:bootBuiltins "bool"=some (.type "bool"):=by decide +kernel
theorem zib:bootBuiltins "list"=some (.type "list"):=by decide +kernel
theorem zeN:bootBuiltins "ValueError"=some (.type "ValueError"):=by decide +kernel
theorem za0:bootBuiltins "isinstance"=some (.builtin "isinstance"):=by decide +kernel
theorem zic:bootBuiltins "all"=some (.builtin "all"):=by decide +kernel
theorem zaU:bootBuiltins "len"=some (.builtin "len"):=by decide +kernel
theorem zid:bootBuiltins "sorted"=some (.builtin "sorted"):=by decide +kernel
theorem zie (bs:List Bool) (d:Bool):(List.range bs.length).all (fun i=>bs.getD i d)=bs.all id:=by
 induction bs with
 | nil=>rfl
 | cons b bs ih=>
  rw[List.length_cons,List.range_succ_eq_map,List.all_cons,List.all_map,List.all_cons,← ih]
  rfl
theorem zif {bs:List Bool}{us:List Value} (r:zaN (bs.map V.bl) us){i:Nat}{v:Value} (h:us[i]?=some v):v=.bool (bs.getD i true):=by
 have hl:(bs.map V.bl).length=us.length:=r.length
 have hi:i<bs.length:=by
  have:=(List.getElem?_eq_some_iff.mp h).1
  rw[List.length_map] at hl
  omega
 obtain⟨u,hu,ru⟩:=r.get (i:=i) (x:=.bl bs[i]) (by simp[hi])
 rw[h] at hu;cases hu
 rw[List.getD_eq_getElem?_getD,List.getElem?_eq_getElem hi]
 exact ru
section
variable {X:Cx}
theorem zdU:zcl X (.builtin "all") (fun xs H Q=>∃ p,∃ bs:List Bool,xs=[.ref p]∧SqL X.K H p (bs.map V.bl)∧Q (.bl (bs.all id)) H):=by
 intro pins s σ H xs us Q I r h
 obtain⟨p,bs,rfl,hq,q⟩:=h
 obtain⟨u,rfl,ru⟩:=zcX r
 obtain rfl:u=Value.ref p:=ru
 obtain⟨its,rv,pl,_⟩:=I.list hq
 obtain⟨cs,hcs,ch⟩:=I.hd.chain
 have hlt:p<s.heap.objs.size:=by obtain⟨o,e,_⟩:=pl.isList;exact Heap.lt_size e
 have hnc:s.heap.objs.size∉cs:=fun z=>Nat.lt_irrefl _ (ch.lt _ z)
 have hlen:its.length=bs.length:=by rw[← rv.length,List.length_map]
 refine call_all_walk (wpAny_pyIter_list pl.isList ⟨s.heap.objs.size,_,_,_,_,_,fun i=>bs.getD i true,rfl,zhc (A:=X.A.in1) hcs s.heap.objs.size p (Nat.ne_of_lt hlt) hnc its.toArray,⟨⟨_,Heap.get?_push_size _ rfl,rfl,rfl⟩,pl.isList.push _,ch.mono fun b o _ e=>Heap.get?_push_of_some _ e⟩,?_,fun h' tk hk=>?_⟩)
 ·intro i v s' Q' E' hv hQ'
  have hv':its[i]?=some v:=by simpa using hv
  rw[zif rv hv']
  exact wpAny_truthy_bool hQ'
 ·have e:(List.range its.toArray.size).all (fun i=>bs.getD i true)=bs.all id:=by rw[List.size_toArray,hlen];exact zie bs true
  rw[e]
  exact⟨.bl _,H,I.kept fun b o e=>hk b o (fun z=>by
   have:b=s.heap.objs.size:=by simpa using z
   exact absurd (Heap.lt_size e) (by rw[this];exact Nat.lt_irrefl _)) (Heap.get?_push_of_some _ e),rfl,q⟩
theorem zig {P:Program}{w:World}:∀ {kvs:List (Key×V)}{vs:List (Key×Value)}{acc:List Value},KV kvs vs→acc.length=vs.length→(∀ (i:Nat) (v:Value),acc[i]?=some v→∃ k x,vs[i]?=some (k,x)∧(zaI P w).is k v=true)→zaN (kvs.map fun kv=>kV kv.1) acc:=by
 intro kvs vs acc r
 induction r generalizing acc with
 | nil=>
  intro hl _
  cases acc with
  | nil=>exact .nil
  | cons _ _=>simp at hl
 | @cons p q ps qs h t ih=>
  intro hl hk
  cases acc with
  | nil=>simp at hl
  | cons v acc=>
   obtain⟨k,x,e,hv⟩:=hk 0 v rfl
   simp at e
   subst e
   refine .cons ?_ (ih (by simpa using hl) fun i v' hv'=>by simpa using hk (i + 1) v' (by simpa using hv'))
   show za3 (kV p.1) v
   rw[h.1]
   exact kV_of hv
theorem zhi:zcl X (.type "list") (fun xs H Q=>∃ d kvs,xs=[.ref d]∧H d=some (.dK kvs)∧∀ l,H l=none→Q (.ref l) (upd H l (.lst (kvs.map fun kv=>kV kv.1)))):=by
 intro pins s σ H xs us Q I r h
 obtain⟨d,kvs,rfl,hd,q⟩:=h
 obtain⟨u,rfl,ru⟩:=zcX r
 obtain rfl:u=Value.ref d:=ru
 obtain⟨z,hsm,vs,rel,dd⟩:=zje I.hok hd
 obtain⟨ep,dat⟩:=dd.dictAt
 obtain⟨cs,hcs,ch⟩:=I.hd.chain
 refine zeb hcs hsm dat ch (by rw[← rel.length];exact z) fun s' acc c' kp g1 g2 g3 hS ha=>?_
 have rv:zaN (kvs.map fun kv=>kV kv.1) acc.toList:=zig rel (by simpa using ha.1) fun i v hv=>ha.2 i v (by simpa using hv)
 have I':Inv X pins σ (upd H s.heap.objs.size (.lst (kvs.map fun kv=>kV kv.1))) { s with heap:=s'.heap,toks:=s'.toks }:=
  I.laid kp (Nat.le_refl _) ⟨by rw[List.length_map];exact z,acc.toList,c',rv,by simpa using hS⟩
 obtain⟨h',g',d',t',os'⟩:=s'
 dsimp only at g1 g2 g3 I'
 subst g1 g2 g3
 exact⟨.ref s.heap.objs.size,_,I',rfl,q _ (I.hok.fresh (Nat.le_refl _))⟩
end
end L2
namespace L2
open PySem PySem.Spec PyProof.Rows
section
variable {X:Cx}{K:PySem.W.Frag} (hK:X.K=K)
include hK
theorem zjn:IxR X (rIxL K):=hK ▸ zaH
theorem zeO:IxR X (rIxT K):=hK ▸ zeg
theorem zfx:OpR X (compareOp .NotIn) (rIn K true):=hK ▸ zdd
theorem zgE:SlR X (rSlL K):=hK ▸ zbu
theorem zjo {e:Expr}{f:Str}{pos:Pos}{ta:TE} (he:PE X e ta) (hb:attributeBase e f X.env (eval e X.env)=eval e X.env):PE X (.Attribute e f pos) (tFldX K ta f):=hK ▸ zkH he hb
theorem zc5 {es:List Expr}{k:Nat}{pos:Pos}{t:TGs}{n:Nat} (hc:X.calm=true) (h:PGs X es t) (hn:(assignEach es X.env).length=n:=by rfl) (hst:(assignEach es X.env).findIdx? (·.1)=none:=by rfl):PG X (.Tuple es k pos) (gTup K n t):=hK ▸ zjZ hc h hn hst
theorem zj7 {o e:Expr}{es:List Expr}{to:TE}{t:TA}{name:Str}{apos cpos:Pos}{T id:String}{r:V→List V→Hp→VK→Prop} (pa:PlainAttrs T) (slot:Slot T name id) (hty:typeOf (.builtin id)=pure (.type "method_descriptor")) (hm:MtR X id r) (ho:PE X o to) (ha:PA X (e::es) t)
  (hbase:attributeBase o name X.env (eval o X.env)=eval o X.env:=by rfl)
  (hfew:((backTo cpos (starEach (e::es) X.env)).all (fun x=>!x.1) && (backToKw cpos (keywordEach [] X.env)).all (fun x=>x.1.isSome) && decide ((e::es).length + ([]:List Keyword).length + (if ([]:List Keyword).isEmpty then 0 else 1)<30))=true:=by rfl)
  (hline:(apos.endLine == cpos.line)=true:=by rfl) (hs:starEach (e::es) X.env=(false,eval e X.env)::starEach es X.env:=by rfl) (hplain:(backTo cpos (starEach es X.env)).any (·.1)=false:=by rfl) :
  PE X (.Call (.Attribute o name apos) (e::es) [] cpos) (tBM K T r to t):=hK ▸ zb4 pa slot hty hm ho ha hbase hfew hline hs hplain
end
end L2
namespace L2
open PySem PySem.Spec PyProof.Rows
section
variable {prog:Program}{w:World}{A:Around}{E:Value→Shared→Prop}{s:Shared}{cs:List Addr}
section
variable {κ:Type} [DecidableEq κ] {knd:KeyKind prog w κ}
end
end
section
variable {X:Cx}
end
end L2
namespace L2
open PySem PySem.Spec PyProof.Rows
section
variable {prog:Program}{w:World}{A:Around}{E:Value→Shared→Prop}{s:Shared}{cs:List Addr}
end
section
variable {X:Cx}
end
end L2
namespace L2
open PySem
theorem len0 {P:List Value→Prop} (h:P []) (us:List Value) (e:us.length=0):P us:=by
 rw[List.length_eq_zero_iff.mp e]
 exact h
theorem zlL {n:Nat}{P:List Value→Prop} (h:∀ a us,us.length=n→P (a::us)) (us:List Value) (e:us.length=n + 1):P us:=by
 cases us with
 | nil=>cases e
 | cons a us=>exact h a us (Nat.succ.inj e)
theorem len1 {P:List Value→Prop} (h:∀ a0,P [a0]):∀ us:List Value,us.length=1→P us:=zlL fun a=>len0 (P:=fun r=>P (a::r)) (h a)
theorem len2 {P:List Value→Prop} (h:∀ a0 a1,P [a0,a1]):∀ us:List Value,us.length=2→P us:=zlL fun a=>len1 (P:=fun r=>P (a::r)) (h a)
theorem len3 {P:List Value→Prop} (h:∀ a0 a1 a2,P [a0,a1,a2]):∀ us:List Value,us.length=3→P us:=zlL fun a=>len2 (P:=fun r=>P (a::r)) (h a)
theorem len4 {P:List Value→Prop} (h:∀ a0 a1 a2 a3,P [a0,a1,a2,a3]):∀ us:List Value,us.length=4→P us:=zlL fun a=>len3 (P:=fun r=>P (a::r)) (h a)
theorem len5 {P:List Value→Prop} (h:∀ a0 a1 a2 a3 a4,P [a0,a1,a2,a3,a4]):∀ us:List Value,us.length=5→P us:=zlL fun a=>len4 (P:=fun r=>P (a::r)) (h a)
theorem len6 {P:List Value→Prop} (h:∀ a0 a1 a2 a3 a4 a5,P [a0,a1,a2,a3,a4,a5]):∀ us:List Value,us.length=6→P us:=zlL fun a=>len5 (P:=fun r=>P (a::r)) (h a)
theorem zih {A B:Prop}{b:Bool} (hb:b=false) (h:B):if b=true then A else B:=by
 subst hb
 exact zjg h
theorem zfy {A B:Prop}{b:Bool} (hb:b=true) (h:A):if b=true then A else B:=by
 subst hb
 exact zgx h
theorem zb6 {A B:Prop}{b:Bool} (h1:b=true→A) (h2:b=false→B):if b=true then A else B:=by
 cases b with
 | true=>exact zgx (h1 rfl)
 | false=>exact zjg (h2 rfl)
def isTup:HO→Bool
 | .tup _=>true
 | .frz _ (.tup _)=>true
 | _=>false
def Tk (H H':Hp):Prop:=∀ b o,H b=some o→isTup o=true→H' b=some o
theorem Tk.of {H H':Hp} (e:zan H H'):Tk H H':=fun b o h _=>e b o h
theorem Tk.trans {H H1 H2:Hp} (a:Tk H H1) (b:Tk H1 H2):Tk H H2:=fun c o h z=>b c o (a c o h z) z
theorem Tk.upd {H:Hp}{c:Addr}{u o:HO} (h:H c=some u) (n:isTup u=false):Tk H (L2.upd H c o):=fun b w e z=>by
 have:b≠c:=fun q=>by subst q;rw[h] at e;cases e;rw[n] at z;cases z
 rw[zaf this]
 exact e
theorem Tk.sqT {K:PySem.W.Frag}{H H':Hp}{a:Addr}{xs:List V} (e:Tk H H') (h:SqT K H a xs):SqT K H' a xs:=by
 rcases h with(h|⟨o,h⟩)|h
 ·exact .inl (.inl (e _ _ h rfl))
 ·exact .inl (.inr ⟨o,e _ _ h rfl⟩)
 ·exact .inr h
mutual
def zjp:Dt→Bool
 | .lst _=>false
 | .tup ds=>zfz ds
 | _=>true
def zfz:List Dt→Bool
 | []=>true
 | d::ds=>zjp d && zfz ds
end
mutual
theorem Tk.dt {K:PySem.W.Frag}{H H':Hp} (e:Tk H H'):∀ {d:Dt}{x:V},zjp d=true→DtV K H d x→DtV K H' d x
 | .non,_,_,h=>h
 | .bl _,_,_,h=>h
 | .int _,_,_,h=>h
 | .str _,_,_,h=>h
 | .lst ds,_,z,h=>by cases z
 | .tup ds,_,z,h=>by
  obtain⟨a,xs,e1,h1,h2⟩:=h
  exact⟨a,xs,e1,e.sqT h1,e.dts z h2⟩
theorem Tk.dts {K:PySem.W.Frag}{H H':Hp} (e:Tk H H'):∀ {ds:List Dt}{xs:List V},zfz ds=true→zcp K H ds xs→zcp K H' ds xs
 | [],_,_,h=>h
 | d::ds,_,z,h=>by
  obtain⟨y,ys,e1,h1,h2⟩:=h
  have z':=(Bool.and_eq_true _ _).mp z
  exact⟨y,ys,e1,e.dt z'.1 h1,e.dts z'.2 h2⟩
end
theorem zaF {α:Type}{f:α→Dt} (h:∀ x,zjp (f x)=true):∀ l:List α,zfz (l.map f)=true
 | []=>rfl
 | x::l=>by
  show(zjp (f x) && zfz (l.map f))=true
  rw[h x,zaF h l]
  rfl
theorem zii {K:PySem.W.Frag}{H:Hp}{α:Type}{f:α→Dt}{l:List α}{xs:List V}{i:Nat}{x:V} (h:zcp K H (l.map f) xs) (e:xs[i]?=some x):∃ q,l[i]?=some q∧DtV K H (f q) x:=by
 have hi:i<l.length:=by
  have h1:=h.length
  rw[List.length_map] at h1
  have:=(List.getElem?_eq_some_iff.mp e).1
  omega
 obtain⟨q,hq⟩:=zdR hi
 obtain⟨y,hy,hd⟩:=h.get (j:=i) (d:=f q) (by rw[List.getElem?_map,hq];rfl)
 rw[e] at hy
 cases hy
 exact⟨q,hq,hd⟩
theorem zaS {α:Type}{l:List α}{i:Nat}{q:α} (h:l[i]?=some q):l.take (i + 1)=l.take i++[q]:=by
 rw[List.take_add_one,h]
 rfl
def Tps (H:Hp) (xs:List V):Prop:=∀ x∈xs,∃ q zs,x=V.ref q∧H q=some (.tup zs)
theorem Tps.tk {H H':Hp}{xs:List V} (h:Tps H xs) (e:Tk H H'):Tps H' xs:=fun x hx=>by
 obtain⟨q,zs,rfl,hq⟩:=h x hx
 exact⟨q,zs,rfl,e _ _ hq rfl⟩
theorem Tps.snoc {H:Hp}{xs:List V}{z:Addr}{zs:List V} (h:Tps H xs) (hz:H z=some (.tup zs)):Tps H (xs++[.ref z]):=fun x hx=>by
 rcases List.mem_append.mp hx with q|q
 ·exact h x q
 ·exact⟨z,zs,List.mem_singleton.mp q,hz⟩
theorem Tps.nil {H:Hp}:Tps H []:=fun x hx=>by simp at hx
theorem at_int {ns:List Int}{k:Int} (h0:0≤k) (h1:k<ns.length):∃ c,atI (ns.map V.int) k=some (.int c):=by
 refine⟨ns.getD k.toNat 0,?_⟩
 unfold atI ixN
 rw[if_pos h0,if_pos (by rw[List.length_map];exact h1)]
 show(ns.map V.int)[k.toNat]?=_
 rw[List.getElem?_map,List.getD_eq_getElem?_getD,List.getElem?_eq_getElem (show k.toNat<ns.length by omega)]
 rfl
theorem zkL {α:Type}{f:St→Hp→Prop} (σ:α→St) (I:α→Hp→Prop){G:Prop} (h:∀ x H,I x H→f (σ x) H) (g:(∀ x H,I x H→f (σ x) H)→G):G:=g h
def pz (ps:List Int) (k:Int):Int:=ps.getD k.toNat 0
theorem zdh {α:Type}{xs:List α}{k:Int} (h0:0≤k):atI xs k=xs[k.toNat]?:=by
 unfold atI ixN
 rw[if_pos h0]
 by_cases h:k<xs.length
 ·rw[if_pos h];rfl
 ·rw[if_neg h]
  show none=_
  rw[List.getElem?_eq_none (by omega)]
end L2
namespace L2
open PySem PySem.Spec PyProof.Rows
def Ite (K:PySem.W.Frag) (l:Addr):It:=
  ⟨fun i H=>∃ xs x,SqL K H l xs∧xs[i]?=some x,
   fun i H v H'=>∃ T x,v=.ref T∧H T=none∧H'=upd H T (.tup [.int i,x])∧∀ xs,SqL K H l xs→xs[i]?=some x,
   fun i H=>∃ xs,SqL K H l xs∧xs.length≤i⟩
section
variable {prog:Program}{w:World}{A:Around}{E:Value→Shared→Prop}{s:Shared}
theorem zij {e it l:Addr}{i:Nat}{items:Array Value}{old:Value}{Q:Option Value→Shared→Prop} (hd:Hd A s.heap)
  (he:IsEnum s.heap e it i old) (hit:s.heap.IsListIter it l i) (hl:s.heap.IsList l items) (hx:items[i]?=none)
  (hQ:∀ h',Heap.ExtBut it s.heap h'→Q none { s with heap:=h' }):wpAny (model prog w) A (pyNext (.ref e)) Q E s:=by
 have ht:s.TypeIs (.ref e) "enumerate":=⟨_,he,rfl⟩
 unfold pyNext
 refine wpAny_bind (wpAny_attempt (wpAny_callSpecial?_slot (name:=Str.ofString "__next__") ht F.slot_enumerate_next (wpAny_call_entry F.slot_enumerate_next ht F.entry_enumerate_next ?_ (F.args_enumerate_next_1 _))))
 refine(show wpAny _ _ (field (.ref e) 2 >>= _) _ _ _ from wpAny_bind (wpAny_field he rfl (x:=.ref it) rfl ?_))
 refine wpAny_bind (zh8 (A:=A.in1) hd hit hl hx fun h' x he' hx'=>?_)
 obtain⟨o,ho,hc⟩:=hx'
 exact wpAny_bind (wpAny_isInstance (T:="StopIteration") (b:=true) ⟨o,ho,hc⟩ isSubtype_stop (wpAny_pure (hQ _ he')))
end
def EnumIt (h:Heap) (e it l:Addr) (i:Nat):Prop:=∃ old,IsEnum h e it (i:Int) old∧h.IsListIter it l i
theorem zik {P:Program}{w:World}{K:PySem.W.Frag}{es:List Expr}{k:Nat}{pos:Pos}{e it l:Addr} (hne:e≠it) :
  zkm P w K (.Tuple es k pos) (Ite K l) [e,it] e (fun i h=>EnumIt h e it l i) where
 mem:=by simp
 obj:=fun i h st b hb=>by
  obtain⟨old,he,⟨o1,e1,c1,d1⟩⟩:=st
  simp only[List.mem_cons,List.not_mem_nil,or_false] at hb
  rcases hb with rfl|rfl
  ·exact⟨_,he,fun v q=>by simp at q⟩
  ·exact⟨_,e1,fun v q=>by rw[d1] at q;cases q⟩
 keep:=fun i h h' st k=>by
  obtain⟨old,he,h1⟩:=st
  exact⟨old,k e (by simp) _ he,h1.at fun o q=>k it (by simp) o q⟩
 item:=by
  intro X hP hw hK hc i pins s σ H E I hf st hg
  subst hP hw hK
  obtain⟨xs,x,q1,hx⟩:=hg
  obtain⟨old,he,h1⟩:=st
  obtain⟨its,rv,pl,_⟩:=I.list q1
  obtain⟨u,hu,ru⟩:=rv.get hx
  have nf:∀ b∈[e,it],b∉frs X.stack:=fun b hb q=>(List.mem_cons.mp (I.stkSub b q)).elim (hf b hb).2.1 (hf b hb).2.2.1
  refine wpAny_pyNext_enum_item he h1 pl.isList (x:=u) (by simpa using hu) hne fun h' a1 a2 a3 a4 hk=>⟨_,rfl,?_⟩
  refine wpAny_letOwnedTupleGo_enum (s:={ s with heap:=h',toks:=s.toks + 1 }) a1 fun h'' hz' hs'=>?_
  replace hs':Heap.SameBut e h' h'':=hs'
  have hTn:H s.heap.objs.size=none:=I.hok.fresh (Nat.le_refl _)
  have lte:=Heap.lt_size he
  have old':∀ b o,b≠e→b≠it→s.heap.get? b=some o→h''.get? b=some o:=fun b o n1 n2 q=>hs'.extBut b o n1 (hk b o n1 n2 q)
  have I1:Inv X pins σ (upd H s.heap.objs.size (.tup [.int i,x])) { s with heap:=s.heap.push { cls:=.type "tuple",data:=.seq #[.int i s.toks,u] },toks:=s.toks + 1 }:=
   I.laid (t':=s.toks + 1) (fun b o q=>Heap.get?_push_of_some _ q) (Nat.le_refl _) ⟨by show 2≤sizeLine;decide,[.int i s.toks,u],.cons ⟨_,rfl⟩ (.cons ru .nil),⟨_,Heap.get?_push_size _ rfl,rfl,_,rfl⟩⟩
  have fp1:∀ b∈[e,it],zdn X pins (upd H s.heap.objs.size (.tup [.int i,x])) b:=fun b hb=>by
   obtain⟨f0,r⟩:=hf b hb
   refine⟨?_,r⟩
   have lt:b<s.heap.objs.size:=by
    simp only[List.mem_cons,List.not_mem_nil,or_false] at hb
    rcases hb with rfl|rfl
    ·exact lte
    ·obtain⟨o,q,_⟩:=h1;exact Heap.lt_size q
   rw[zaf (Nat.ne_of_lt lt)];exact f0
  have I2:Inv X pins σ (upd H s.heap.objs.size (.tup [.int i,x])) { s with heap:=h'',toks:=s.toks + 1 }:=by
   have back:∀ b o,(s.heap.push { cls:=.type "tuple",data:=.seq #[.int i s.toks,u] }).get? b=some o→b≠e→b≠it→h''.get? b=some o:=fun b o q n1 n2=>by
    rcases Heap.get?_push_cases q with⟨rfl,rfl⟩|q
    ·exact hs'.extBut _ _ n1 a3
    ·exact old' b o n1 n2 q
   refine I1.slots (ch:=[e,it]) (tk:=s.toks + 1) fp1 (fun b o _ hc q=>?_) (fun b o hb q=>⟨o.slots,?_⟩) (fun b hb o q=>?_)
   ·simp only[List.mem_cons,List.not_mem_nil,or_false,not_or] at hc
    exact back b o q hc.1 hc.2
   ·exact back b o q (fun z=>nf e (by simp) (z ▸ hb)) (fun z=>nf it (by simp) (z ▸ hb))
   ·simp only[List.mem_cons,List.not_mem_nil,or_false] at hb
    rcases hb with rfl|rfl
    ·exact⟨_,hz'⟩
    ·obtain⟨o,q,_⟩:=a2;exact⟨_,hs'.extBut _ _ hne.symm q⟩
  refine⟨.ref s.heap.objs.size,_,I2,rfl,⟨_,x,rfl,hTn,rfl,fun xs' q=>by rw[I.list_inj q q1];exact hx⟩,?_,fun b hb=>(fp1 b hb).1⟩
  exact⟨u,hz',a2.extBut hs'.extBut hne.symm⟩
 done:=by
  intro X hP hw hK hc i pins s σ H E I hf st hg
  subst hP hw hK
  obtain⟨xs,q1,hlen⟩:=hg
  obtain⟨old,he,h1⟩:=st
  obtain⟨its,rv,pl,_⟩:=I.list q1
  have e1:=rv.length
  have nf:∀ b∈[e,it],b∉frs X.stack:=fun b hb q=>(List.mem_cons.mp (I.stkSub b q)).elim (hf b hb).2.1 (hf b hb).2.2.1
  refine zij I.hd he h1 pl.isList (by simp;omega) fun h' hk=>⟨rfl,?_⟩
  refine I.slot0 (ch:=[e,it]) (tk:=s.toks) hf (fun b o _ hc q=>?_) (fun b o hb q=>⟨o.slots,?_⟩)
  ·simp only[List.mem_cons,List.not_mem_nil,or_false,not_or] at hc
   exact hk b o hc.2 q
  ·exact hk b o (fun z=>nf it (by simp) (z ▸ hb)) q
 self:=fun _ _ s _ _ st h=>by
  obtain⟨old,he,_⟩:=st
  exact wpAny_pyIter_enum he h
def iEnum (K:PySem.W.Frag) (ta:TA):TI:=fun σ H R=>ta σ H fun vs H1=>∃ l,vs=[.ref l]∧(∃ xs,SqL K H1 l xs)∧R (Ite K l) H1
section
variable {X:Cx}
theorem zfA {es:List Expr}{k:Nat}{tpos p pos:Pos}{a:Expr}{ta:TA} (hg:Gl X "enumerate") (hm:X.mg "enumerate"=none) (ha:PA X [a] ta) (hs:starEach [a] X.env=[(false,eval a X.env)]:=by rfl) :
  PI X (.Tuple es k tpos) (.Call (.Name "enumerate" p) [a] [] pos) (iEnum X.K ta):=by
 intro pins s σ H R I h
 refine Call_ (ze8 I hg hm boot_enumerate (PyProof.Rows.callWith_type1 (thn (ha pos pins s σ H _ I h) fun us s1=>L2.ex5 fun vs H1 I1 r1 hq_=>?_) hs rfl))
 obtain⟨l,e,⟨xs,q1⟩,q⟩:=hq_
 subst e
 obtain⟨u,rfl,ru⟩:=zcX r1
 obtain rfl:u=Value.ref l:=ru
 obtain⟨its,rv,pl,_⟩:=I1.list q1
 refine call_enumerate_list pl.isList fun h' b1 b2 b3 hk=>?_
 refine wpAny_pyIter_enum (s:={ s1 with heap:=h' }) b1 ?_
 refine⟨s1.heap.objs.size + 1,[s1.heap.objs.size + 1,s1.heap.objs.size],_,_,H1,rfl,I1.kept (t':=s1.toks) hk,zik (Nat.ne_of_gt (Nat.lt_succ_self _)),⟨_,b1,b2⟩,fun b hb=>?_,q⟩
 have ge:s1.heap.objs.size≤b:=by
  simp only[List.mem_cons,List.not_mem_nil,or_false] at hb
  rcases hb with rfl|rfl
  ·exact Nat.le_add_right _ _
  ·exact Nat.le_refl _
 exact I1.fpOk ge (I1.hok.fresh ge)
theorem zjq {K:PySem.W.Frag}{l:Addr}{xs:List V}{g:TG}{tb:TS}{D:zfW}{σ:St}{H:Hp} (Pv:Nat→St→Hp→Prop) (h0:Pv 0 σ H) (hl:∀ i σ H,i≤xs.length→Pv i σ H→SqL K H l xs)
  (hs:∀ i x T σ H,xs[i]?=some x→H T=none→Pv i σ H→g (.ref T) σ (upd H T (.tup [.int i,x])) fun σ2 H2=>tb { D with nx:=Pv (i + 1),ct:=Pv (i + 1),bk:=D.nx } σ2 H2) (hd:∀ σ H,Pv xs.length σ H→D.nx σ H):ForW (Ite K l) D g tb σ H:=
 wk_ (n:=xs.length) Pv h0 (fun i σ H hi p=>⟨fun h=>⟨xs,xs[i],hl i σ H hi p,by simp[h]⟩,fun h=>⟨xs,hl i σ H hi p,h⟩⟩) (fun i v σ H H' hi p y=>by
 obtain⟨T,x,rfl,hT,rfl,hx⟩:=y
 exact hs i x T σ H (hx xs (hl i σ H (Nat.le_of_lt hi) p)) hT p) hd
end
end L2
namespace L2
open PySem PySem.Spec PyProof.Rows
section
variable {prog:Program}{w:World}{A:Around}{R:Result→Shared→Prop}{I:Addr}{fp wr:List Addr}{n:Nat}{P:Nat→Value→Prop}{St:Nat→Heap→Prop}
end
section
variable {X:Cx}
end
section
variable {prog:Program}{w:World}{A:Around}{R:Result→Shared→Prop}{I:Addr}{fp wr:List Addr}{n:Nat}{P:Nat→Value→Prop}{St:Nat→Heap→Prop}
end
section
variable {X:Cx}
end
section
variable {X:Cx}
end
end L2
namespace L2
open PySem PySem.Spec PyProof.Rows
section
variable {X:Cx}{pins:List (Addr×Obj)}{σ:St}{H:Hp}{s:Shared}
open Classical in
end
end L2
namespace L2
open PySem PySem.Spec PyProof.Rows
section
variable {prog:Program}{w:World}{A:Around}{E:Value→Shared→Prop}{s:Shared}{cs:List Addr}
end
section
variable {X:Cx}
end
end L2
namespace L2
open PySem PySem.Spec PyProof.Rows
section
variable {prog:Program}{w:World}{A:Around}{E:Value→Shared→Prop}{s:Shared}{cs:List Addr}
end
section
variable {X:Cx}
end
end L2
namespace L2
open PySem PySem.Spec PyProof.Rows
section
variable {X:Cx}
theorem zdi:∀ {ns:List Str}{us:List Value},StrsAre us ns→zaN (ns.map V.str) us
 | _,_,.nil=>.nil
 | _,_,.cons n t r=>.cons ⟨_,rfl⟩ (zdi r)
theorem zfB:zcl X (.builtin "sorted") (fun xs H Q=>∃ l,∃ ss:List Str,xs=[.ref l]∧H l=some (.lst (ss.map V.str))∧ss.length<64 ∧
  ∀ (r:Addr) (ss':List Str),H r=none→ss'.Perm ss→sortedS ss'=true→Q (.ref r) (upd H r (.lst (ss'.map V.str)))):=by
 intro pins s σ H xs us Q I r h
 obtain⟨l,ss,rfl,hl,h64,q⟩:=h
 obtain⟨u,rfl,ru⟩:=zcX r
 obtain rfl:u=Value.ref l:=ru
 obtain⟨z,its,n,rv,hn,e⟩:=I.lstM hl
 rw[List.length_map] at hn
 refine sorted_strs (vs:=its) ⟨_,e,rfl,n,rfl⟩ (zej rv) (by omega) fun out ss' a1 a2 a3=>?_
 obtain⟨ep,he⟩:=sortedAll_at s.heap its out
 have le:s.heap.objs.size≤s.heap.objs.size + 1:=Nat.le_succ _
 have hz':ss'.length≤sizeLine:=by rw[a2.length_eq,sizeLine_eq];omega
 have I':Inv X pins σ (upd H (s.heap.objs.size + 1) (.lst (ss'.map V.str))) { s with heap:=sortedAll s.heap its out,toks:=s.toks }:=
  I.laid (fun _ _=>sortedAll_old) le ⟨by rw[List.length_map];exact hz',out.toList,ep,zdi a1,by simpa using he⟩
 exact⟨.ref (s.heap.objs.size + 1),_,I',rfl,q _ _ (I.hok.fresh le) a2 a3⟩
end
end L2
namespace L2
open PySem PySem.Spec PyProof.Rows
section
variable {X:Cx}
end
theorem zaD {H H':Hp}{d:Addr}{o:HO} (nd:H d=none) (s:zan H H'):zan H (upd H' d o):=fun b u e=>by
 rw[zaf (zam e nd)]
 exact s b u e
end L2
namespace L2
open PySem PySem.Spec PyProof.Rows
section
variable {X:Cx}
end
end L2
namespace L2
open PySem PySem.Spec PyProof.Rows
section
variable {X:Cx}
end
end L2
namespace L2
open PySem PySem.Spec PyProof.Rows
section
variable {X:Cx}
end
end L2
namespace L2
open PySem PySem.Spec PyProof.Rows
end L2
namespace L2
open PySem PySem.Spec PyProof.Rows
section
variable {X:Cx}{K:PySem.W.Frag} (hK:X.K=K)
include hK
def rIsX (K:PySem.W.Frag):List V→Hp→VK→Prop:=fun xs H Q=>∃ a C dd vc c b,xs=[.ref a,vc]∧IsX H a C dd∧XDs H dd∧XIs K C∧(∀ u,za3 vc u→u=c)∧PySem.W.kitOne K (.ref C) c=some b∧Q (.bl b) H
theorem zcO:zcl X (.builtin "isinstance") (rIsX K):=by subst hK;exact zfu
def rIsXT (K:PySem.W.Frag):List V→Hp→VK→Prop:=fun xs H Q=>∃ a C dd p vcs cs b,xs=[.ref a,.ref p]∧IsX H a C dd∧XDs H dd∧XIs K C∧H p=some (.tup vcs)∧(∀ us,zaN vcs us→us=cs)∧PySem.W.kitAny K (.ref C) cs=some b∧Q (.bl b) H
theorem zec:zcl X (.builtin "isinstance") (rIsXT K):=by subst hK;exact zeJ
end
end L2
namespace L2
open PySem PySem.Spec PyProof.Rows
section
variable {prog:Program}{w:World}{A:Around}{E:Value→Shared→Prop}{s:Shared}{cs:List Addr}
end
end L2
namespace L2
open PySem PySem.Spec PyProof.Rows
section
variable {prog:Program}{w:World}{A:Around}{R:Result→Shared→Prop}{κ:Type} [DecidableEq κ] {knd:KeyKind prog w κ}{I d:Addr}{fp wr:List Addr}{G:Array GenState→Array GenState→Prop}{n:Nat}{P:Nat→Value→Prop}{St:Nat→Shared→Prop}
end
section
variable {prog:Program}{w:World}{A:Around}{E:Value→Shared→Prop}{s:Shared}{cs:List Addr}{κ:Type} [DecidableEq κ] {knd:KeyKind prog w κ}
end
end L2
namespace L2
open PySem PySem.Spec PyProof.Rows
section
variable {X:Cx}{pins:List (Addr×Obj)}{σ:St}{H:Hp}{s:Shared}
end
section
variable {X:Cx}
end
end L2
namespace L2
open PySem PySem.Spec PyProof.Rows
end L2
namespace L2
open PySem PySem.Spec PyProof.Rows PySem.SeqAt
open AutoSeq1 (wpAny_loadPart')
section
variable {prog:Program}{w:World}{A:Around}{s:Shared}
end
section
variable {X:Cx}{pins:List (Addr×Obj)}{σ:St}{H:Hp}{s:Shared}{A:Around}
end
end L2
namespace L2
open PySem PySem.Spec PyProof.Rows
section
variable {X:Cx}
end
end L2
namespace L2
open PySem PySem.Spec PyProof.Rows
section
variable {X:Cx}{pins:List (Addr×Obj)}{σ:St}{H:Hp}{s:Shared}{scope:Scope}{N:List Str}{cap:List (Option Nat)}{fp:List Addr}
end
section
variable {X:Cx}{elt tg iter:Expr}{ifs:List Expr}{scope:Scope}{pos:Pos}{N:List Str}{cap:List (Option Nat)}{wi:TI}{g:TG}{tt:TT}{te:TE}
end
end L2
namespace L2
open PySem PySem.Spec PyProof.Rows
section
variable {X:Cx}{e st:Expr}{te ts:TE}{pos p2:Pos}
end
end L2
namespace L2
open PySem PySem.Spec PyProof.Rows
end L2
namespace L2
open PySem PySem.Spec PyProof.Rows
open Sem (wp)
section
variable {M:Model}{A:Around}{E:Value→Shared→Prop}{s:Shared}{env:Env}
end
section
variable {prog:Program}{w:World}{A:Around}{E:Value→Shared→Prop}{s:Shared}
end
section
variable {prog:Program}{w:World}{A:Around}{E:Value→Shared→Prop}{s:Shared}
end
section
variable {prog:Program}{w:World}{A:Around}{E:Value→Shared→Prop}{s:Shared}
end
section
variable {prog:Program}{w:World}{A:Around}{E:Value→Shared→Prop}{s:Shared}
end
section
variable {X:Cx}
end
section
end
end L2
namespace L2
open PySem PySem.Spec PyProof.Rows
def alike (c:Int) (l:List Keyed):List Keyed:=l.filter fun p=>numOf p.1 == c
structure Dn (O:List Keyed) (x neq:Nat) (l U B C O1:List Keyed) (b:Int):Prop where
 arr:l=U++B++C
 org:O=O1++B++C
 len:U.length + B.length=x
 lb:B.length=neq + 1
 fil:∀ c,alike c U=(alike c O1).reverse
 eqb:∀ p∈B,numOf p.1=b
 gt:∀ p∈U,b<numOf p.1
 dec:U.Pairwise fun p q=>numOf q.1≤numOf p.1
section
variable {O U B C O1:List Keyed}{x neq:Nat}{b:Int}{xs:Array Keyed}{p:Keyed}
end
section
variable {prog:Program}{w:World}{Ar:Around}{E:Value→Shared→Prop}{s:Shared}{a₀:Array Keyed}{O:List Keyed}
end
end L2
namespace L2
open PySem PySem.Spec PyProof.Rows
section
variable {X:Cx}{pins:List (Addr×Obj)}{σ:St}{H:Hp}{s:Shared}{scope:Scope}{params:Arguments}{body:Expr}{pos:Pos}{c P:Addr}{N:List Str}{cap:List (Option Nat)}
end
end L2
namespace L2
open PySem PySem.Spec PyProof.Rows
section
variable {X:Cx}{pins:List (Addr×Obj)}{σ:St}{H H1:Hp}{s:Shared}
variable {A:Around}{E:Value→Shared→Prop}{P:PySem.Fin→Shared→Prop}{f D kS:Addr}{fo:Obj}{key:V→Int}{xs:List V}{vs:List Value}{e1:Nat}
end
end L2
namespace L2
open PySem PySem.Spec PyProof.Rows
def fdCode (K:PySem.W.Frag) (f:Addr):Option Value:=match K.lookup f with
 | some ⟨_,_,.func fd,_⟩=>some fd.code
 | _=>none
structure LamIn (K:PySem.W.Frag) (f P:Addr):Prop where
 ex:∃ c,fdCode K f=some (.ref c)∧PySem.W.codeHdIn K c P=true
 no:K.lookup P=none
structure LamDef (K:PySem.W.Frag) (mg:Str→Option Value) (x:Str) (P:Addr):Prop where
 ex:∃ f,mg x=some (.ref f)∧LamIn K f P
section
variable {P:Program}{w:World}{K:PySem.W.Frag}{mg:Str→Option Value}{base:Heap}
end
abbrev Tab:=Addr×Pos×Str
def zil (ts:List Tab) (H:Hp):Prop:=(∀ t∈ts,H t.1=some (.tbl t.2.1 t.2.2))∧∀ b u,H b=some u→(∃ o xs,u=.frz o (.lst xs))∨∃ t∈ts,b=t.1∧u=.tbl t.2.1 t.2.2
def zkM:List Tab→Hp→Hp
 | [],H=>H
 | t::ts,H=>upd (zkM ts H) t.1 (.tbl t.2.1 t.2.2)
theorem zf7:∀ {ts:List Tab}{H:Hp},(ts.map (·.1)).Nodup→∀ t∈ts,zkM ts H t.1=some (.tbl t.2.1 t.2.2)
 | [],_,_,t,h=>by simp at h
 | q::ts,H,nd,t,h=>by
  rcases List.mem_cons.mp h with z|z
  ·rw[z];exact zab
  ·have n:t.1≠q.1:=fun y=>(List.nodup_cons.mp (show(q.1::ts.map (·.1)).Nodup from nd)).1 (List.mem_map.mpr ⟨t,z,y⟩)
   show upd _ _ _ _=_
   rw[zaf n]
   exact zf7 (List.nodup_cons.mp nd).2 t z
theorem zeP:∀ {ts:List Tab}{H:Hp}{b:Addr}{u:HO},zkM ts H b=some u→H b=some u∨∃ t∈ts,b=t.1∧u=.tbl t.2.1 t.2.2
 | [],_,_,_,h=>.inl h
 | q::ts,H,b,u,h=>by
  have h:upd (zkM ts H) q.1 (.tbl q.2.1 q.2.2) b=some u:=h
  by_cases z:b=q.1
  ·rw[z,zab] at h
   exact .inr ⟨q,List.mem_cons_self,z,(Option.some.inj h).symm⟩
  ·rw[zaf z] at h
   rcases zeP h with y|⟨t,h1,h2⟩
   ·exact .inl y
   ·exact .inr ⟨t,List.mem_cons_of_mem _ h1,h2⟩
theorem zim:∀ {ts:List Tab}{H:Hp}{b:Addr},(∀ t∈ts,b≠t.1)→zkM ts H b=H b
 | [],_,_,_=>rfl
 | q::ts,H,b,h=>by
  show upd _ _ _ _=_
  rw[zaf (h q List.mem_cons_self)]
  exact zim fun t ht=>h t (List.mem_cons_of_mem _ ht)
theorem zin {P:Program}{w:World}{K:PySem.W.Frag}{mg mb:Str→Option Value}{CX:CXT}{k:Nat}{fa a:Addr}{fd:FuncData}{x:Str}{sp:Sp}{s₁:Shared}{vs:List Value}{ns:List Int}{ts:List Tab}
  (KX:K.In s₁.heap) (hns:s₁.heap.Ns mainGlobals mg) (hb:s₁.heap.Ns builtinsNs mb) (hbb:∀ x:Str,x≠"__name__"→mb x=bootBuiltins x) (hlim:s₁.heap.NoLimit)
  (hbm:∃ bm ob,mg "__builtins__"=some (.ref bm)∧bm≠builtinsNs∧s₁.heap.get? bm=some ob∧ob.cls=.type "module"∧ob.dict=some builtinsNs∧ob.data=.plain) (hg:s₁.gens=#[])
  (ha:s₁.heap.get? a=some { cls:=.type "list",data:=.seq vs.toArray }) (hi:IntsAre vs ns) (hl:ns.length≤sizeLine) (hr:zbQ k callerA)
  (nd:(ts.map (·.1)).Nodup) (hts:∀ t∈ts,s₁.heap.get? t.1=some (PySem.W.tabObj #[])∧(∃ c,PySem.W.codeHdIn K c t.1=true)∧K.lookup t.1=none)
  (F:∀ base:Heap,K.In base→base.Ns mainGlobals mg→zcZ P w K mg base CX k fa fd [x] sp) (hbind:∀ (s:Shared) (u:Value),BindsTo s fd ⟨[u],[]⟩ [(x,u)])
  (hsp:∀ H:Hp,zil ts H→SqL K H a (ns.map V.int)→sp [.ref a] H (fun v _=>v=.bl true) fun _ _ _=>False)
  (hCX:∀ H e s',CX [] H s₁ (fun _ _ _=>False) e s'→False) :
  codeAny (model P w) callerA (.call (.ref fa) ⟨[.ref a],[]⟩) (fun r s'=>r=.ok (.ret (.bool true))∧OldK s₁.heap s'.heap∧s'.os=s₁.os∧AllBare s'.gens) s₁:=by
 have rv:=zfn hi
 have lenV:=hi.length
 have core:∀ H:Hp,(∀ t∈ts,H t.1=some (.tbl t.2.1 t.2.2))→(∀ b u,H b=some u→(b=a∧K.lookup a=none∧u=.frz { cls:=.type "list",data:=.seq vs.toArray } (.lst (ns.map V.int)))∨∃ t∈ts,b=t.1∧u=.tbl t.2.1 t.2.2)→SqL K H a (ns.map V.int) →
   codeAny (model P w) callerA (.call (.ref fa) ⟨[.ref a],[]⟩) (fun r s'=>r=.ok (.ret (.bool true))∧OldK s₁.heap s'.heap∧s'.os=s₁.os∧AllBare s'.gens) s₁:=by
  intro H h1 h2 hS
  have hO:zil ts H:=⟨h1,fun b u q=>(h2 b u q).elim (fun z=>.inl ⟨_,_,z.2.2⟩) .inr⟩
  have hok:HOk P w H s₁.heap:=fun b u q=>by
   rcases h2 b u q with⟨rfl,_,rfl⟩|⟨t,ht,rfl,rfl⟩
   ·exact⟨ha,by rw[List.length_map];exact hl,vs,_,rv,ha⟩
   ·exact .inl (hts t ht).1
  have free:∀ {b:Addr}{o:Obj},s₁.heap.get? b=some o→(∀ xs n,o.data≠.seq xs n)→(∀ xs,o.data≠.fields xs)→H b=none:=fun {b o} e n1 n2=>by
   cases q:H b with
   | none=>rfl
   | some u=>
    rcases h2 b u q with⟨rfl,_,_⟩|⟨t,ht,rfl,_⟩
    ·rw[ha] at e;cases e
     exact(n1 _ _ rfl).elim
    ·rw[(hts t ht).1] at e;cases e
     exact(n2 _ rfl).elim
  have nsK:∀ {b:Addr}{m:Str→Option Value},s₁.heap.Ns b m→(zjX s₁.heap H).Ns b m:=fun {b m} ⟨o,es,ep,e,d,r⟩=>⟨o,es,ep,zex e (free e (by rw[d];intro _ _ z;cases z) (by rw[d];intro _ z;cases z)),d,r⟩
  have hKb:K.In (zjX s₁.heap H):=fun b o e=>zex (KX b o e) (by
   cases q:H b with
   | none=>rfl
   | some u=>
    rcases h2 b u q with⟨rfl,z,_⟩|⟨t,ht,rfl,_⟩
    ·rw[z] at e;cases e
    ·rw[(hts t ht).2.2] at e;cases e)
  have hM:Mod K mg (zjX s₁.heap H):=⟨hKb,nsK hns,⟨mb,nsK hb,hbb⟩,let ⟨mc,y1,y2⟩:=hlim;⟨mc,nsK y1,y2⟩,by
   obtain⟨bm,ob,a1,a2,a3,a4,a5,a6⟩:=hbm
   exact⟨bm,ob,a1,a2,zex a3 (free a3 (by rw[a6];intro _ _ z;cases z) (by rw[a6];intro _ z;cases z)),a4,a5,a6⟩⟩
  have e0:zkr P w K mg (zjX s₁.heap H) callerA [] s₁ H:=⟨rfl,hM,fun b o e=>zkj e,Nat.le_of_eq (zhy _ _),trivial,fun b hb=>absurd (show b∈([]:List Addr) from hb) (by simp),hok,.of_eq hg,.inl rfl⟩
  refine codeAny_mono ((F _ hKb (nsK hns)).run callerA [] s₁ H ⟨[.ref a],[]⟩ [.ref a] [.ref a] _ _ hr e0 (hbind s₁ (.ref a)) (.cons rfl .nil) (hsp H hO hS)) fun r s' h=>?_
  cases r with
  | error e=>exact(hCX H e s' h).elim
  | ok fl=>
   cases fl with
   | next=>exact False.elim h
   | brk=>exact False.elim h
   | cont=>exact False.elim h
   | ret u=>
    obtain⟨v,H',os,bare,un,hok',r',q⟩:=h
    have q':v=.bl true:=q
    subst q'
    obtain rfl:u=Value.bool true:=r'
    have no:∀ b:Addr,b∉frs []:=fun b z=>absurd (show b∈([]:List Addr) from z) (by simp)
    refine⟨rfl,⟨fun b o e=>?_,fun b o e=>un.there b o e (by simp)⟩,os,bare⟩
    cases q:H b with
    | none=>exact .inl (un.keep b o e q (no b) (by simp))
    | some u=>
     rcases h2 b u q with⟨rfl,_,rfl⟩|⟨t,ht,rfl,rfl⟩
     ·obtain⟨y1,_⟩:=hok _ _ q
      obtain⟨y2,_⟩:=hok' _ _ (un.frzs _ _ _ q)
      rw[e] at y1;cases y1
      exact .inl y2
     ·obtain⟨g1,⟨c,g2⟩,_⟩:=hts t ht
      rw[e] at g1;cases g1
      rcases hok' _ _ (un.tbls _ _ _ q) with y|⟨c',oc,xs,tt,_,_,_,y⟩
      ·exact .inl y
      ·exact .inr (.inl ⟨((PySem.W.codeHd_of_K KX g2).tab e).isCodeTable,rfl,#[],#[rawInt t.2.1.line,rawInt t.2.1.col,.ref c'],rfl,y⟩)
 have apart:∀ t∈ts,a≠t.1:=fun t ht z=>by
  have y:=(hts t ht).1
  rw[← z,ha] at y;cases y
 cases hk:K.lookup a with
 | some o=>
  have e:=KX a o hk
  rw[ha] at e
  cases e
  refine core (zkM ts fun _=>none) (zf7 nd) (fun b u q=>.inr ((zeP q).elim (fun z=>by cases z) id)) (.inr ⟨_,vs.toArray,_,hk,rfl,rfl,rfl,by rw[List.size_toArray,lenV];exact hl,by simpa using rv⟩)
 | none=>
  refine core (zkM ts (upd (fun _=>none) a (.frz { cls:=.type "list",data:=.seq vs.toArray } (.lst (ns.map V.int))))) (zf7 nd) (fun b u q=>?_) (.inl (.inr ⟨_,by rw[zim apart];exact zab⟩))
  rcases zeP q with z|z
  ·by_cases y:b=a
   ·rw[y,zab] at z
    exact .inl ⟨y,hk,(Option.some.inj z).symm⟩
   ·rw[zaf y] at z;cases z
  ·exact .inr z
theorem zjr {l:PySem.W.OpenLaw}{n k:Nat}{q:Program}{loose:List Str}{XP:(Str→Option Value)→Heap→Prop}{YP:World→Heap→Prop}{d:DefRec}{K:Params→PySem.W.Frag}{x:Str}{TS:List Addr}
  (hn:l.most=some n) (hn2:n≤sizeLine) (hdf:d.params.defaults=[]) (hr:zbQ k callerA)
  (hY:∀ (w:World) (h:Heap),YP w h→(K w.params).In h∧∀ P∈TS,h.get? P=some (PySem.W.tabObj #[]))
  (F:∀ (w:World) (mg:Str→Option Value) (fa:Addr) (h:Heap),(K w.params).In h→h.Ns mainGlobals mg→mg d.name=some (.ref fa) →
   ∃ (fd:FuncData) (ts:List Tab) (sp:Sp),(∀ (s:Shared) (u:Value),BindsTo s fd ⟨[u],[]⟩ [(x,u)])∧(ts.map (·.1)).Nodup∧(∀ t∈ts,t.1∈TS∧(∃ c,PySem.W.codeHdIn (K w.params) c t.1=true)∧(K w.params).lookup t.1=none) ∧
    (∀ (H:Hp) (a:Addr) (ns:List Int),ns.length≤n→zil ts H→SqL (K w.params) H a (ns.map V.int)→sp [.ref a] H (fun v _=>v=.bl true) fun _ _ _=>False) ∧
    ∀ base:Heap,(K w.params).In base→base.Ns mainGlobals mg→zcZ l.prog w (K w.params) mg base CX0 k fa fd [x] sp) :
  PySem.W.WalkO q loose XP YP l.row.toRowW d [] (fun f vs=>PySem.call f vs):=by
 refine Att.zf0 hn hdf fun w s₀ s₁ mg mb fa o pm cd doc a vs ns G Y ho hd hcd hmg hobj hints hlen hg=>?_
 obtain⟨KX,tb⟩:=hY w _ Y
 obtain⟨fd,ts,sp,hb,nd,ht,hsp,hF⟩:=F w mg fa _ KX G.T.g hmg
 exact zin KX G.T.g G.T.b G.T.builtins G.T.nolimit G.T.bmain hg hobj hints (Nat.le_trans hlen hn2) hr nd (fun t m=>⟨tb _ (ht t m).1,(ht t m).2⟩) hF hb (fun H hO hS=>hsp H a ns hlen hO hS) fun H e s' z=>z
end L2
namespace L2
open PySem PySem.Spec PyProof.Rows
section
variable {X:Cx}{a b:Expr}{zbH:List Expr}{ta tb:TE}{pos:Pos}
def dOf:V→Dt
 | .int i=>.int i
 | _=>.non
end
end L2
namespace L2
open PySem PySem.Spec PyProof.Rows
section
variable {prog:Program}{w:World}{A:Around}{E:Value→Shared→Prop}{s:Shared}
end
end L2
namespace L2
open PySem PySem.Spec PyProof.Rows
section
variable {X:Cx}{pins:List (Addr×Obj)}{σ:St}{H H1:Hp}{s:Shared}{A:Around}{E:Value→Shared→Prop}
variable {f d it S:Addr}{fo o:Obj}{key:V→Int}{kvs:List (Key×V)}{es:Array DictEntry}{ep:Nat}
def zdq (kvs:List (Key×V)):List V:=kvs.map fun p=>kV p.1
variable {R:Result→Shared→Prop}
end
end L2
namespace L2
open PySem PySem.Spec PyProof.Rows
section
variable {prog:Program}{w:World}{A:Around}{E:Value→Shared→Prop}{s:Shared}{cs:List Addr}
end
def rng (n:Nat):List V:=(List.range n).map fun i=>V.int (i:Nat)
end L2
namespace L2
open PySem PySem.Spec PyProof.Rows
end L2
namespace L2
open PySem PySem.Spec PyProof.Rows
section
variable {X:Cx}
end
end L2
namespace L2
open PySem PySem.Spec PyProof.Rows
section
variable {X:Cx}
end
end L2
namespace L2
open PySem PySem.Spec PyProof.Rows
section
variable {prog:Program}{w:World}{A:Around}{E:Value→Shared→Prop}{s:Shared}{cs:List Addr}
structure DApart (z TI TO i1 i2 l1 l2 d:Addr):Prop where
 z:z≠d
 TI:TI≠d
 TO:TO≠d
 i1:i1≠d
 i2:i2≠d
 l1:l1≠d
 l2:l2≠d
end
section
variable {prog:Program}{w:World}{A:Around}{R:Result→Shared→Prop}{cs:List Addr}{κ:Type} [DecidableEq κ] {knd:KeyKind prog w κ}
end
section
variable {prog:Program}{w:World}{A:Around}{E:Value→Shared→Prop}{s:Shared}{cs:List Addr}
end
section
variable {prog:Program}{w:World}{A:Around}{E:Value→Shared→Prop}{s:Shared}{cs:List Addr}{κ:Type} [DecidableEq κ] {knd:KeyKind prog w κ}
end
section
variable {X:Cx}
end
end L2
namespace L2
open PySem PySem.Spec PyProof.Rows
section
variable {prog:Program}{w:World}{A:Around}{E:Value→Shared→Prop}{s:Shared}{cs:List Addr}
variable {κ:Type} [DecidableEq κ] {knd:KeyKind prog w κ}
end
section
variable {X:Cx}
end
section
variable {g:TG}{tt:TT}{te:TE}
end
end L2
namespace L2
open PySem PySem.Spec PyProof.Rows
theorem zau.of {N P:List Str}{sc:Scope} (h:sc.kind=.function∧sc.isCoroutine=false∧sc.isGenerator=false∧N.Nodup∧N.take P.length=P∧(∀ x∈P,sc.names.lookup x=some .local∨sc.names.lookup x=some .cell)∧∀ y∈sc.names,y.2≠.free):zau N P sc:=⟨h.1,h.2.1,h.2.2.1,h.2.2.2.1,h.2.2.2.2.1,h.2.2.2.2.2.1,h.2.2.2.2.2.2⟩
section
variable {K:PySem.W.Frag}{h:Heap}{mg:Str→Option Value}{x m qual:Str}{st:Stmt}{ps:List Str}{f C cL TP:Addr}{oc oc2:Value}{od an od2:Option Addr}{osl sl2:Array (Option Value)}{kV doc pm cdv ct:Value}{vs:Array Value}
abbrev fnN (x qual:Str) (st:Stmt) (kV doc pm:Value) (an:Option Addr) (cdv ct:Value):FuncData:=PySem.W.fnOf x qual (zcx st) (zbR st) (zah st) .none kV doc pm an cdv ct
theorem def_mk (X:K.In h) (G:h.Ns mainGlobals mg) (a:PySem.W.nsIn K mainGlobals x=some (some (.ref f))) (l:K.lookup f=some ⟨oc,od,.func (fnN x x st kV doc pm an cdv ct),osl⟩) (c:PySem.W.codeIn K cdv x=true) (k:PySem.W.keepIn K (.ref f)=true)
  (b:∀ us:List Value,us.length=ps.length→bindArgs (fnN x x st kV doc pm an cdv ct) ⟨us,[]⟩=pure (ps.zip us)):Def K mg x st ps []:=⟨⟨_,_,[],zc4 l c,PySem.W.mg_of X G a,k,.all b,.nil⟩⟩
theorem met_mk (a:PySem.W.findIn K (.ref C) m=some (some (.ref f))) (i:PySem.W.isFn K (.ref f)=true) (l:K.lookup f=some ⟨oc,od,.func (fnN m qual st kV doc pm an cdv ct),osl⟩) (c:PySem.W.codeIn K cdv qual=true) (k:PySem.W.keepIn K (.ref f)=true)
  (b:∀ us:List Value,us.length=ps.length→bindArgs (fnN m qual st kV doc pm an cdv ct) ⟨us,[]⟩=pure (ps.zip us)):Met K C m qual st ps []:=⟨⟨f,_,[],zc4 l c,⟨a,i,k⟩,.all b,.nil⟩⟩
theorem zf8 {dvs:List V}{ds:List Value}{Tt:Addr}{ocT:Value}{odT:Option Addr}{slT:Array (Option Value)}{nT:Nat}{D:Array Value} (a:PySem.W.findIn K (.ref C) m=some (some (.ref f))) (i:PySem.W.isFn K (.ref f)=true) (l:K.lookup f=some ⟨oc,od,.func (PySem.W.fnOf m qual (zcx st) (zbR st) (zah st) (.ref Tt) kV doc pm an cdv ct),osl⟩) (c:PySem.W.codeIn K cdv qual=true) (k:PySem.W.keepIn K (.ref f)=true) (td:K.lookup Tt=some ⟨ocT,odT,.seq D nT,slT⟩) (v:zaN dvs ds)
  (b:K.lookup Tt=some ⟨ocT,odT,.seq D nT,slT⟩→zbK K (PySem.W.fnOf m qual (zcx st) (zbR st) (zah st) (.ref Tt) kV doc pm an cdv ct) ps ds):Met K C m qual st ps dvs:=⟨⟨f,_,ds,zc4 l c,⟨a,i,k⟩,b td,v⟩⟩
theorem vals1i {i:Int}{t:Tok}:zaN [.int i] [.int i t]:=.cons ⟨t,rfl⟩ .nil
theorem vals2i {i j:Int}{t u:Tok}:zaN [.int i,.int j] [.int i t,.int j u]:=.cons ⟨t,rfl⟩ (.cons ⟨u,rfl⟩ .nil)
theorem ini_mk (X:K.In h) (G:h.Ns mainGlobals mg) (g:PySem.W.nsIn K mainGlobals x=some (some (.ref C))) (mk:PySem.W.makesIn K C=true) (kc:PySem.W.keepIn K (.ref C)=true) (a:PySem.W.findIn K (.ref C) "__init__"=some (some (.ref f))) (i:PySem.W.isFn K (.ref f)=true) (l:K.lookup f=some ⟨oc,od,.func (fnN "__init__" qual st kV doc pm an cdv ct),osl⟩) (c:PySem.W.codeIn K cdv qual=true)
  (b:∀ us:List Value,us.length=ps.length→bindArgs (fnN "__init__" qual st kV doc pm an cdv ct) ⟨us,[]⟩=pure (ps.zip us)):Ini K mg C x qual st ps:=⟨⟨f,_,zc4 l c,⟨mk,a,i,kc⟩,PySem.W.mg_of X G g,.all b⟩⟩
theorem zkN (X:K.In h) (G:h.Ns mainGlobals mg) (g:PySem.W.nsIn K mainGlobals x=some (some (.ref C))) (xa:zhY K C bmV "ValueError.__new__"=true) (kc:PySem.W.keepIn K (.ref C)=true) (a:PySem.W.findIn K (.ref C) "__init__"=some (some (.ref f))) (i:PySem.W.isFn K (.ref f)=true) (l:K.lookup f=some ⟨oc,od,.func (fnN "__init__" qual st kV doc pm an cdv ct),osl⟩) (c:PySem.W.codeIn K cdv qual=true)
  (b:∀ us:List Value,us.length=ps.length→bindArgs (fnN "__init__" qual st kV doc pm an cdv ct) ⟨us,[]⟩=pure (ps.zip us)):zlK K mg C x qual st ps:=⟨⟨f,_,zc4 l c,⟨xa,kc,a,i⟩,PySem.W.mg_of X G g,.all b⟩⟩
theorem int_mk {n:Int}{t:Tok} (X:K.In h) (G:h.Ns mainGlobals mg) (a:PySem.W.nsIn K mainGlobals x=some (some (.int n t))):∃ t,mg x=some (.int n t):=⟨t,PySem.W.mg_of X G a⟩
theorem str_mk {n:Str}{t:Tok} (X:K.In h) (G:h.Ns mainGlobals mg) (a:PySem.W.nsIn K mainGlobals x=some (some (.str n t))):∃ t,mg x=some (.str n t):=⟨t,PySem.W.mg_of X G a⟩
end
end L2
namespace L2
open PySem PySem.Spec PyProof.Rows PySem.SeqAt
open AutoSeq1 (wpAny_loadPart')
section
variable {prog:Program}{w:World}{A:Around}{s:Shared}
end
section
variable {X:Cx}
end
end L2
namespace L2
open PySem PySem.Spec PyProof.Rows
section
variable {prog:Program}{w:World}{A:Around}{E:Value→Shared→Prop}{s:Shared}{cs:List Addr}{κ:Type} [DecidableEq κ] {knd:KeyKind prog w κ}
end
section
variable {X:Cx}
theorem zio:zcl X (.type "int") (fun xs H Q=>∃ n:Int,xs=[.str (toString n)]∧0≤n∧n<10 ^ 10∧Q (.int n) H):=by
 intro pins s σ H xs us Q I r h
 obtain⟨n,rfl,h0,h1,q⟩:=h
 obtain⟨u,rfl,t,rfl⟩:=zcX r
 exact PySem.W.KIN.call_num h0 h1 ⟨.int n,H,I.tok _,⟨_,rfl⟩,q⟩
end
end L2
namespace L2
open PySem PySem.Spec PyProof.Rows PySem.Builtin PySem.Builtin.Str
theorem zfC:∀ l:List (Str×Tok),zaN ((l.map (·.1)).map V.str) (strValues l)
 | []=>.nil
 | p::l=>.cons ⟨p.2,rfl⟩ (zfC l)
section
variable {X:Cx}
def rSplit:V→List V→Hp→VK→Prop:=fun x vs H Q=>∃ a b:Str,x=.str a∧vs=[.str b]∧(b.length == 0)=false∧a.length + 2≤sizeLine∧∀ p,H p=none→Q (.ref p) (upd H p (.lst ((Txt.split a b).map V.str)))
theorem zgF:MtR X "str.split" rSplit:=by
 intro pins s σ H x xs v us Q I rx r h
 obtain⟨a,b,rfl,rfl,hb,ha,q⟩:=h
 obtain⟨t,rfl⟩:=rx
 obtain⟨u,rfl,t',rfl⟩:=zcX r
 have fin:∀ (l:List (Str×Tok)) (k:Nat),l.map (·.1)=Txt.split a b→EP X pins σ Q (.ref s.heap.objs.size) { s with heap:=s.heap.push { cls:=.type "list",data:=.seq (strValues l).toArray },toks:=k }:=fun l k e=>by
  refine⟨.ref _,_,I.lnew (t':=k) (zfC l) ?_,rfl,?_⟩
  ·rw[List.length_map,e]
   exact Nat.le_trans (split_le a b) ha
  ·rw[e]
   exact q _ I.fresh
 have hn:(partsBetween a (occurrences a b 0 a.length (a.length + 1)) b.length).length≤sizeLine:=by
  have e1:=StrLaws.occ_length_le a b 0 a.length (a.length + 1)
  rw[length_partsBetween]
  omega
 cases h1:(decide (a.length<b.length) || decide (strKind a<strKind b))
 ·cases hf:(occurrences a b 0 a.length (a.length + 1)).isEmpty
  ·refine call_meets F.slot_str_split (typeIs_str _ _ _) F.entry_str_split (F.args_str_split_2 _ _) (meets_str_split_sep a b t t' h1 hb hf (by omega) hn) ?_
   show EP X pins σ Q (.ref s.heap.objs.size) { s with toks:=_,heap:=s.heap.push { cls:=.type "list",data:=.seq (strsFrom s.toks (partsBetween a (occurrences a b 0 a.length (a.length + 1)) b.length)).toArray } }
   rw[strsFrom_eq]
   exact fin (numbered s.toks _) _ ((numbered_texts _ _).trans ((if_neg (ne_true_of_eq_false h1)).trans (if_neg (ne_true_of_eq_false hf))).symm)
  ·exact call_meets F.slot_str_split (typeIs_str _ _ _) F.entry_str_split (F.args_str_split_2 _ _) (meets_str_split_not_found a b t t' h1 hb hf) (fin [(a,t)] s.toks ((if_neg (ne_true_of_eq_false h1)).trans (if_pos hf)).symm)
 ·exact call_meets F.slot_str_split (typeIs_str _ _ _) F.entry_str_split (F.args_str_split_2 _ _) (meets_str_split_cannot_occur a b t t' h1) (fin [(a,t)] s.toks (if_pos h1).symm)
def rRepS:R2:=fun x y H Q=>∃ (a:Str) (n:Int),x=.str a∧y=.int n∧MulOk a n∧Q (.str (Txt.mul a n)) H
theorem zkO:OpR X (binaryOp .Mult) rRepS:=by
 intro pins s σ H x y v u Q I rx ry h
 obtain⟨a,n,rfl,rfl,ok,q⟩:=h
 obtain⟨t,rfl⟩:=rx
 obtain⟨t',rfl⟩:=ry
 exact SB.mul ok fun t' k=>⟨.str _,H,I.tok _,⟨_,rfl⟩,q⟩
end
def jl (c:Nat):List (List Nat)→List Nat
 | []=>[]
 | [x]=>x
 | x::y::r=>x++c::jl c (y::r)
theorem zeQ (c:Nat):∀ ys:List Str,(Str.join ⟨#[c]⟩ ys).cps.toList=jl c (ys.map fun y=>y.cps.toList)
 | []=>rfl
 | [x]=>rfl
 | x::y::r=>by
  show(x++(⟨#[c]⟩:Str)++Str.join ⟨#[c]⟩ (y::r)).cps.toList=_
  rw[PySem.Str.cps_append,PySem.Str.cps_append,Array.toList_append,Array.toList_append,zeQ c (y::r),List.append_assoc]
  rfl
theorem ziq {c:Nat}:∀ {a b a' b':List Nat},c∉a→c∉a'→a++c::b=a'++c::b'→a=a'∧b=b'
 | [],_,[],_,_,_,e=>⟨rfl,(List.cons.inj e).2⟩
 | [],_,x::a',_,_,h',e=>absurd (List.mem_cons.mpr (.inl (List.cons.inj e).1)) h'
 | x::a,_,[],_,h,_,e=>absurd (List.mem_cons.mpr (.inl (List.cons.inj e).1.symm)) h
 | x::a,_,y::a',_,h,h',e=>by
  obtain⟨e1,e2⟩:=List.cons.inj e
  obtain⟨r1,r2⟩:=ziq (fun z=>h (List.mem_cons_of_mem _ z)) (fun z=>h' (List.mem_cons_of_mem _ z)) e2
  exact⟨by rw[e1,r1],r2⟩
theorem zj8 {c:Nat}:∀ {xs ys:List (List Nat)},xs≠[]→ys≠[]→(∀ x∈xs,c∉x)→(∀ y∈ys,c∉y)→jl c xs=jl c ys→xs=ys
 | [],_,h,_,_,_,_=>absurd rfl h
 | _,[],_,h,_,_,_=>absurd rfl h
 | [x],[y],_,_,_,_,e=>by rw[show x=y from e]
 | [x],y::y'::r,_,_,hx,_,e=>absurd (show c∈x by rw[show x=y++c::jl c (y'::r) from e];simp) (hx x (List.mem_cons_self ..))
 | x::x'::r,[y],_,_,_,hy,e=>absurd (show c∈y by rw[show y=x++c::jl c (x'::r) from e.symm];simp) (hy y (List.mem_cons_self ..))
 | x::x'::r,y::y'::r',_,_,hx,hy,e=>by
  obtain⟨e1,e2⟩:=ziq (hx x (List.mem_cons_self ..)) (hy y (List.mem_cons_self ..)) (show x++c::jl c (x'::r)=y++c::jl c (y'::r') from e)
  rw[e1,zj8 (by simp) (by simp) (fun z hz=>hx z (List.mem_cons_of_mem _ hz)) (fun z hz=>hy z (List.mem_cons_of_mem _ hz)) e2]
theorem zgG:∀ {xs ys:List Str},(xs.map fun y=>y.cps.toList)=(ys.map fun y=>y.cps.toList)→xs=ys
 | [],[],_=>rfl
 | [],_::_,e=>by simp at e
 | _::_,[],e=>by simp at e
 | x::xs,y::ys,e=>by
  rw[List.map_cons,List.map_cons] at e
  obtain⟨e1,e2⟩:=List.cons.inj e
  rw[str_of_list e1,zgG e2]
theorem zem {c:Nat}{ys:List Str} (h0:ys≠[]) (h:∀ y∈ys,c∉y.cps.toList):Txt.split (Txt.join ⟨#[c]⟩ ys) ⟨#[c]⟩=ys:=by
 have e1:Txt.join ⟨#[c]⟩ ys=Str.join ⟨#[c]⟩ ys:=StrLaws.glued_eq_join _ _
 rw[e1]
 refine zgG (zj8 (c:=c) ?_ (by simpa using h0) (fun x hx=>?_) (fun x hx=>?_) ?_)
 ·intro z
  have:=split_pos (Str.join ⟨#[c]⟩ ys) ⟨#[c]⟩
  rw[List.map_eq_nil_iff.mp z] at this
  simp at this
 ·obtain⟨y,hy,rfl⟩:=List.mem_map.mp hx
  exact StrLaws.split_free _ c y hy
 ·obtain⟨y,hy,rfl⟩:=List.mem_map.mp hx
  exact h y hy
 ·rw[← zeQ,← zeQ,StrLaws.join_split]
end L2
namespace L2
open PySem PySem.Spec PyProof.Rows
section
variable {X:Cx}
def KD (prog:Program) (w:World) (K:PySem.W.Frag) (a:Addr) (kvs:List (Key×V)):Prop:=(a == sysModules)=false∧∃ vs,KV kvs vs∧∃ o,K.lookup a=some o∧o.IsDictOf (zaI prog w) vs
theorem Inv.kd {pins:List (Addr×Obj)}{σ:St}{H:Hp}{s:Shared}{a:Addr}{kvs:List (Key×V)} (I:Inv X pins σ H s) (h:KD X.prog X.w X.K a kvs):(a == sysModules)=false∧∃ vs,KV kvs vs∧s.heap.DictOf (zaI X.prog X.w) a vs:=by
 obtain⟨hs,vs,r,o,hk,hd⟩:=h
 exact⟨hs,vs,r,Heap.dictOf_iff.mpr ⟨o,I.kIn a o hk,hd⟩⟩
def tKGet (prog:Program) (w:World) (K:PySem.W.Frag) (td ty:TE):TE:=fun σ H Q=>td σ H fun x H1=>ty σ H1 fun y H2=>∃ a kvs k v,x=.ref a∧KD prog w K a kvs∧y=kV k∧zde kvs k=some v∧Q v H2
theorem zkP {o i:Expr}{td ty:TE}{pos:Pos} (ho:PE X o td) (hi:PE X i ty) (hs:NoSl i):PE X (.Subscript o i pos) (tKGet X.prog X.w X.K td ty):=by
 intro pins s σ H Q I h
 refine zkA PySem.F.slot_dict_getitem.lookup hs (thn (ho pins s σ H _ I h) fun u s1=>L2.ex5 fun x H1 I1 rx q1=>thn (hi pins s1 σ H1 _ I1 q1) fun iv s2=>L2.ex5 fun y H2 I2 ry hq_=>?_)
 obtain⟨a,kvs,k,v,ex,g,ey,l,q2⟩:=hq_
 subst ex
 subst ey
 obtain rfl:u=Value.ref a:=rx
 obtain⟨_,vs,rel,dd⟩:=I2.kd g
 obtain⟨w',hw,rw'⟩:=zfR.some_of (v:=v) (o:=valueAt vs k) (by rw[← l];exact rel.val k)
 exact⟨dd.typeIs,wpAny_getItem_of (zhN ry) dd.mapOf hw ⟨v,H2,I2.tok _,rw',q2⟩⟩
def tKNot (prog:Program) (w:World) (K:PySem.W.Frag) (ty td:TE):TE:=fun σ H Q=>ty σ H fun y H1=>td σ H1 fun x H2=>∃ a kvs k,x=.ref a∧KD prog w K a kvs∧y=kV k∧Q (.bl (!(zde kvs k).isSome)) H2
theorem zir {o i:Expr}{td ty:TE} (hi:PE X i ty) (ho:PE X o td):PC X .NotIn i o (tKNot X.prog X.w X.K ty td):=by
 intro pins s σ H Q I h
 refine thn (hi pins s σ H _ I h) fun iv s1=>L2.ex5 fun y H1 I1 ry q1=>thn (ho pins s1 σ H1 _ I1 q1) fun u s2=>L2.ex5 fun x H2 I2 rx hq_=>?_
 obtain⟨a,kvs,k,ex,g,ey,q2⟩:=hq_
 subst ex
 subst ey
 obtain rfl:u=Value.ref a:=rx
 obtain⟨hd,vs,rel,dd⟩:=I2.kd g
 refine wpAny_notIn_of (zhN ry) hd dd.mapOf ?_
 rw[← (rel.val k).isSome_eq]
 exact⟨.bl _,H2,I2.tok _,rfl,q2⟩
end
end L2
namespace HT
open PySem PySem.Spec PyProof.Rows
section
variable {prog:Program}{w:World}{A:Around}{E:Value→Shared→Prop}{s:Shared}
theorem zc6 {t sl:Addr}{items:Array Value}{vl vu:Value}{lo hi:Option Int}{Q:Value→Shared→Prop} (ht:IsTup s.heap t items) (hs:s.heap.IsSliceOf sl vl vu .none) (pl:IsPart vl lo) (pu:IsPart vu hi)
  (hw:sIx items.size 0 lo=0∧sIx items.size items.size hi=items.size) (h:Q (.ref t) s):wpAny (model prog w) A (getItem (.ref t) (.ref sl)) Q E s:=by
 obtain⟨os,hos,hcs,hds⟩:=id hs
 have hTs:s.TypeIs (.ref sl) "slice":=⟨os,hos,hcs⟩
 unfold getItem
 try with_reducible refine wpAny_holding ?_
 first|refine wpAny_bind (wpAny_pure ?_)|skip
 refine wpAny_bind (wpAny_sequenceKey ht.typeIs (by decide) ?_)
 refine wpAny_bind (wpAny_callSpecial?_slot (name:=Str.ofString "__getitem__") ht.typeIs PyProof.Rows.slot_tuple_getitem
  (wpAny_call_entry PyProof.Rows.slot_tuple_getitem ht.typeIs entry_tuple_getitem ?_ (args_tuple_getitem _ _)))
 show wpAny _ _ (Builtin.Tuple.tupleItemsOf (.ref t) >>= _) _ _ s
 refine wpAny_bind (tupleItemsOf_ ht ?_)
 refine wpAny_bind (wpAny_typeOf hTs ?_)
 rw[if_pos (by decide)]
 refine wpAny_bind (zbZ hs pl pu ?_)
 have hyes:(((sIx items.size 0 lo:Nat):Int) == 0 && (1:Int) == 1 && (sIx items.size items.size hi - sIx items.size 0 lo) == items.size)=true:=by
  rw[hw.1,hw.2]
  simp
 show wpAny _ _ (if (((sIx items.size 0 lo:Nat):Int) == 0 && (1:Int) == 1 && (sIx items.size items.size hi - sIx items.size 0 lo) == items.size)=true then _ else _) _ _ s
 rw[if_pos hyes]
 first
  | exact wpAny_bind (wpAny_bind (wpAny_typeOf ht.typeIs (wpAny_pure (wpAny_bind (wpAny_rule (wpAny_bind (wpAny_pure ⟨_,rfl,wpAny_pure h⟩)))))))
  | exact wpAny_bind (wpAny_bind (wpAny_typeOf ht.typeIs (wpAny_pure (wpAny_bind (wpAny_rule (wpAny_pure ⟨_,rfl,wpAny_pure h⟩))))))
end
end HT
namespace L2
open PySem PySem.Spec PyProof.Rows
section
variable {X:Cx}
def rSlTA (K:PySem.W.Frag):V→Option Int→Option Int→Hp→VK→Prop:=fun x lo hi H Q=>∃ a xs,x=.ref a∧SqT K H a xs ∧
 ((HT.sIx xs.length 0 lo=0∧HT.sIx xs.length xs.length hi=xs.length)→Q (.ref a) H)∧(¬ (HT.sIx xs.length 0 lo=0∧HT.sIx xs.length xs.length hi=xs.length)→∀ p,H p=none→Q (.ref p) (upd H p (.tup (zdu xs lo hi))))
theorem zkQ:SlR X (rSlTA X.K):=by
 intro pins s σ H x v vl vu lo hi sl Q I rx hs pl pu h
 obtain⟨a,xs,rfl,hx,q1,q2⟩:=h
 by_cases hw:HT.sIx xs.length 0 lo=0∧HT.sIx xs.length xs.length hi=xs.length
 ·cases rx
  obtain⟨its,r,ht,hz⟩:=I.tuple hx
  have hlen:its.toArray.size=xs.length:=by rw[List.size_toArray];exact r.length.symm
  exact⟨"tuple",_,PyProof.Rows.slot_tuple_getitem.lookup,ht.typeIs,HT.zc6 ht hs pl pu (by rw[hlen];exact hw) ⟨.ref a,H,I,rfl,q1 hw⟩⟩
 ·exact sl_tup pins s σ H _ v vl vu lo hi sl Q I rx hs pl pu ⟨a,xs,rfl,hx,hw,q2 hw⟩
end
end L2
namespace L2
open PySem PySem.Spec PyProof.Rows
section
variable {X:Cx}{e st:Expr}{te ts:TE}{pos p2:Pos}
end
theorem ki {pr:Program}{w:World}{k:Str}{t:Tok}:(zaI pr w).is (Sum.inr k) (.str k t)=true:=by
 show zew (Sum.inr k) (.str k t)=true
 simp[zew,Value.isStrOf]
end L2
namespace L2
open PySem PySem.Spec PyProof.Rows
section
variable {X:Cx}{pins:List (Addr×Obj)}{σ:St}{H:Hp}{s:Shared}
theorem zhj {R:RK}{C t a:Addr}{dx:Option Addr}{Q:Flow→Shared→Prop} (hp:PX X R) (I:Inv X pins σ H s) (fp:zdn X pins H a)
  (he:s.heap.get? a=some { cls:=.ref C,dict:=dx,data:=.fields #[.ref t,.none,.none,.none,.bool true,.none] }) (hR:R σ (.ref C) dx H):wpAny (model X.prog X.w) X.A (raiseNew (.ref a):Sem Flow) Q X.xe s:=by
 obtain⟨f0,f1,f2,f3,f4,f5⟩:=id fp
 refine zev (s:=s) ?_ he rfl (by simp) fun h' o' vs' k1 k2 k3 k4 k5 k6 k7 k8=>?_
 ·rcases I.hdAt with z|⟨b,cs,z,c⟩
  ·exact .inl z
  ·exact .inr ⟨b,cs,z,c.chn I.hok,c.not_mem f0⟩
 ·have I':Inv X pins σ H { s with heap:=h' }:=I.turned (t':=s.toks) k1 f0 f1 f3 f4 f5
  refine hp pins σ H _ a (.ref C) dx none I' ⟨fp,fun p q=>(by cases q),⟨⟨o',vs',k2,k3,k4,k5,k6,?_,?_⟩,fun p q=>(by cases q)⟩⟩ hR
  ·rcases I.hdAt with z|⟨b,cs,z,c⟩
   ·rw[z] at k8
    exact⟨[],⟨List.nodup_nil,fun j a q=>by simp at q⟩,k8⟩
   ·rw[z] at k8
    exact⟨b::cs,c,k8⟩
  ·exact k7
end
section
variable {A:Around}{E:Value→Shared→Prop}{nm q:Str}{C N:Addr}{bs bm:List Value}{hdct:Bool}{sn:List Str}{sub:List Value}{ab:Bool}{col:Option Bool}{dd:Option Addr}{k0 k1 k2 k3 k5:Option Value}{newId:String}
theorem zf9 {M:Model}{env:Env}{s:Shared}{x:Sem Value}{j:Nat}{p1 pos:Pos}{Q:Flow→Shared→Prop} (hb:bm.contains (.type "BaseException")=true)
  (hx:wpAny M A x (fun v s₁=>∃ e t dx,v=.ref e∧s₁.heap.get? C=some (excClassObj nm q C N bs bm hdct sn sub ab col dd k0 k1 k2 k3 k5 newId)∧s₁.heap.get? e=some { cls:=.ref C,dict:=dx,data:=.fields #[.ref t,.none,.none,.none,.bool false,.none] } ∧
   ∀ h',(∀ b o,b≠e→s₁.heap.get? b=some o→h'.get? b=some o)→h'.get? e=some { cls:=.ref C,dict:=dx,data:=.fields #[.ref t,.none,.none,.none,.bool true,.none] }→wpAny M A (raiseNew (.ref e):Sem Flow) Q E { s₁ with heap:=h' }) E s) :
  wpAny M A (raiseStmt env (some x) (some (do let v ← eval (.Constant .none j p1) env;standAt pos;pure v))) Q E s:=by
 have isB:(Value.ref C::bm).contains (.type "BaseException")=true:=by rw[List.contains_cons,hb,Bool.or_true]
 unfold raiseStmt
 refine wpAny_bind (wpAny_mono hx (fun v s₁ z=>?_) fun _ _ y=>y)
 obtain⟨e,t,dx,rfl,oC,oe,z⟩:=z
 obtain⟨hp,g,d,tk,os⟩:=s₁
 refine wpAny_bind (wpAny_holding (wpAny_bind (Constant_none (wpAny_bind (wpAny_standAt (wpAny_pure (wpAny_bind (wpAny_pure ?_))))))))
 dsimp only
 repeat (first|(with_reducible refine wpAny_loadPart_at oe ?_)|(with_reducible refine wpAny_loadPart_at oC ?_)|(with_reducible refine wpAny_isSubtype_exc oC ?_;rw[isB])|wp_step)
 have ne:e≠C:=fun w=>by
  rw[w] at oe
  cases oe.symm.trans oC
 have up3:=Heap.get?_update_self (Obj.mapFields (·.setIfInBounds 3 Value.none)) oe rfl
 have up4:=Heap.get?_update_self (Obj.mapFields (·.setIfInBounds 4 (Value.bool true))) up3 rfl
 refine wpAny_loadPart_at ((Heap.get?_update_other _ _ ne).trans ((Heap.get?_update_other _ _ ne).trans oC)) ?_
 repeat (first|(with_reducible refine wpAny_loadPart_at up4 ?_)|wp_step)
 exact z _ (fun b o hb q=>(Heap.get?_update_other _ _ (Ne.symm hb)).trans ((Heap.get?_update_other _ _ (Ne.symm hb)).trans q)) up4
end
section
variable {X:Cx}{R:RK}{C:Addr}{x:Str}{np cpos pos p1:Pos}{j:Nat}{e:Expr}{es:List Expr}{t:TA}
theorem zis {a:List Expr}{s:Shared}{bm:List Value}{Q:Flow→Shared→Prop} (hx:XCls s.heap C bmV bm "ValueError.__new__")
  (h:wpAny (model X.prog X.w) X.A (eval (.Call (.Name x np) a [] cpos) X.env) (fun v s₁=>∃ b t dx,v=.ref b∧(∀ o,s.heap.get? C=some o→s₁.heap.get? C=some o)∧s₁.heap.get? b=some { cls:=.ref C,dict:=dx,data:=.fields #[.ref t,.none,.none,.none,.bool false,.none] } ∧
   ∀ h',(∀ c o,c≠b→s₁.heap.get? c=some o→h'.get? c=some o)→h'.get? b=some { cls:=.ref C,dict:=dx,data:=.fields #[.ref t,.none,.none,.none,.bool true,.none] }→wpAny (model X.prog X.w) X.A (raiseNew (.ref b):Sem Flow) Q X.xe { s₁ with heap:=h' }) X.xe s) :
  wpAny (model X.prog X.w) X.A (exec (.Raise (some (.Call (.Name x np) a [] cpos)) (some (.Constant .none j p1)) pos) X.env) Q X.xe s:=by
 obtain⟨⟨nm,q,N,bs,hdct,sn,sub,ab,col,dd,k0,k1,k2,k3,k5,oC⟩,T⟩:=hx
 rw[arm_exec_Raise]
 refine wpAny_bind (wpAny_standAt (zf9 (C:=C) (nm:=nm) (q:=q) (N:=N) (bs:=bs) (bm:=bm) (hdct:=hdct) (sn:=sn) (sub:=sub) (ab:=ab) (col:=col) (dd:=dd) (k0:=k0) (k1:=k1) (k2:=k2) (k3:=k3) (k5:=k5) (newId:="ValueError.__new__") (T.hasType rfl) (wpAny_bind (wpAny_mono h (fun v s1 z=>wpAny_bind (wpAny_standAt (wpAny_pure ?_))) fun _ _ y=>y))))
 obtain⟨b,t,dx,z1,z2,z3,z4⟩:=z
 exact⟨b,t,dx,z1,z2 _ oC,z3,z4⟩
variable {k:Nat}{ps:List Str}{sp:Sp}{f:Addr}{fd:FuncData}{dvs:List V}{ds:List Value}
theorem zhk (hp:PX X R) (c:XCI X.K C f) (F:zcZ X.prog X.w X.K X.mg X.base CX0 k f fd ps sp) (hr:zbQ (k + 1) X.A) (hb:zbK X.K fd ps ds) (hd:zaN dvs ds) (hg:Gl X x) (hm:X.mg x=some (.ref C)) (ha:PA X (e::es) t)
  (hdb:(x == ("__debug__":Str))=false:=by decide) (he:starEach (e::es) X.env=(false,eval e X.env)::starEach es X.env:=by rfl) (hpl:(backTo cpos (starEach es X.env)).any (·.1)=false:=by rfl) :
  PS X (.Raise (some (.Call (.Name x np) (e::es) [] cpos)) (some (.Constant .none j p1)) pos) (zeI C sp dvs R t):=by
 intro pins s σ H D I h
 obtain⟨bm0,xc⟩:=zbB I.kIn c.at_
 refine zis xc (wpAny_Call_Name_kw (zcv I hg hm ?_ hdb))
 refine PySem.W.callWith_K (h₀:=X.base) I.ok.mod.kin c.kp (thn (ha cpos pins s σ H _ I h) fun us s1 ⟨vs,H1,I1,r,z,q⟩=>⟨I1.kIn,?_⟩) he hpl
 obtain⟨bm2,⟨nm2,q2,N2,bs2,hdct2,sn2,sub2,ab2,col2,dd2,l0,l1,l2,l3,l5,oC2⟩,_⟩:=zbB I.ok.mod.kin c.at_
 have C0:∀ o,s.heap.get? C=some o→X.base.get? C=some o:=fun o q=>by rw[I.bk _ _ oC2] at q;rw[← q];exact oC2
 obtain⟨bm,⟨nm,qn,N,bs,hdct,sn,sub,ab,col,dd,k0,k1,k2,k3,k5,oC⟩,T⟩:=zbB I1.kIn c.at_
 have fnC:(X.K.lookup f).map (·.cls)=some (.type "function"):=beq_iff_eq.mp c.fn
 obtain⟨oF,hF,hFc⟩:∃ oF,X.K.lookup f=some oF∧oF.cls=.type "function":=by
  cases hk:X.K.lookup f with
  | none=>rw[hk] at fnC;cases fnC
  | some oF=>rw[hk] at fnC;exact⟨oF,rfl,Option.some.inj fnC⟩
 have hz:us.length≤sizeLine:=by rw[← r.length];exact z
 have J:=I1
 obtain⟨hp1,g,d,tk,os⟩:=s1
 refine zfr PySem.F.excBase_ValueError T oC (PySem.W.looks_findIn I1.kIn c.init) (I1.kIn _ _ hF) hFc hz ?_
 have kk:∀ b o,hp1.get? b=some o→((hp1.push (zcf us)).push (zb0 C hp1.objs.size)).get? b=some o:=fun b o e=>Heap.get?_push_of_some _ (Heap.get?_push_of_some _ e)
 have oX:((hp1.push (zcf us)).push (zb0 C hp1.objs.size)).get? (hp1.objs.size + 1)=some { cls:=.ref C,data:=.fields #[.ref hp1.objs.size,.none,.none,.none,.bool false,.none] }:=by heap_get
 have fr:H1 (hp1.objs.size + 1)=none:=J.hok.fresh (Nat.le_succ _)
 have I2:Inv X pins σ (upd H1 (hp1.objs.size + 1) (zf4 C hp1.objs.size (hp1.objs.size + 1) none)) ⟨(hp1.push (zcf us)).push (zb0 C hp1.objs.size),g,d,tk,os⟩:=
  J.laid (t':=tk) kk (Nat.le_succ _) ⟨oX,⟨_,oX⟩,fun h1 h2 p1 p2=>p2 _ p1⟩
 have q':=q (hp1.objs.size + 1) hp1.objs.size fr
 have r2:zaN (V.ref (hp1.objs.size + 1)::(vs++dvs)) (Value.ref (hp1.objs.size + 1)::(us++ds)):=.cons rfl (r.append hd)
 have hl:(Value.ref (hp1.objs.size + 1)::us++ds).length=ps.length:=by
  have e:=r2.length
  rw[F.len _ _ _ _ q'] at e
  exact e.symm
 refine wpAny_call (codeAny_mono (F.run _ X.stack _ _ ⟨Value.ref (hp1.objs.size + 1)::us,[]⟩ (Value.ref (hp1.objs.size + 1)::(us++ds)) _ _ (R σ) (hr.make C us []) (I2.env0.make C us []) (hb _ (Value.ref (hp1.objs.size + 1)::us) I2.kIn hl) r2 q') fun rr s' hq'=>?_)
 cases rr with
 | error e=>exact False.elim hq'
 | ok fl=>
  cases fl with
  | ret u=>
   obtain⟨v,H',I3,rv,ev,dx,e3,q3⟩:=I2.after hq'
   subst ev
   refine⟨rv,_,hp1.objs.size,dx,rfl,fun o q=>I3.bk _ _ (C0 o q),(I3.hok _ _ e3).1,fun h' k1 k2=>?_⟩
   have fp:zdn X pins (del H' (hp1.objs.size + 1)) (hp1.objs.size + 1):=J.fpOk (s:=⟨hp1,g,d,tk,os⟩) (Nat.le_succ _) zeH
   obtain⟨f0,f1,f2,f3,f4,f5⟩:=id fp
   exact zhj hp ((I3.del e3).turned (t':=s'.toks) k1 f0 f1 f3 f4 f5) fp k2 q3
  | next=>exact False.elim hq'
  | brk=>exact False.elim hq'
  | cont=>exact False.elim hq'
theorem zit (hp:PX X R) (c:zh3 X.prog X.w X.K X.mg X.base CX0 k C x ps sp) (hr:zbQ (k + 1) X.A) (hg:Gl X x) (ha:PA X (e::es) t)
  (hdb:(x == ("__debug__":Str))=false:=by decide) (he:starEach (e::es) X.env=(false,eval e X.env)::starEach es X.env:=by rfl) (hpl:(backTo cpos (starEach es X.env)).any (·.1)=false:=by rfl) :
  PS X (.Raise (some (.Call (.Name x np) (e::es) [] cpos)) (some (.Constant .none j p1)) pos) (zeI C sp [] R t):=by
 obtain⟨f,fd,F,c',hm,hb⟩:=c.ex
 exact zhk hp c' F hr hb .nil hg hm ha hdb he hpl
end
abbrev Cx.hndR (X:Cx) (a:Addr) (H₀:Hp) (pn:List (Addr×Obj)):Cx:={ X with A:=X.A.mark (some (.ref a)),H₀:=H₀,pn:=pn }
section
variable {X:Cx}{R:RK}
theorem zkR {body orelse:List Stmt}{x:Str}{np hpos pos:Pos}{b₀:Stmt}{su:List Stmt}{Dc:Addr}{t:TS}{tb:RK→TS}{te:TS} (B:Body X) (hex:X.ex=[]) (hp:PX X R) (po:∀ hd,PassesOwnAt (model X.prog X.w) (X.A.mark hd) X.A X.env X.xe)
  (hg:Gl X x) (hm:X.mg x=some (.ref Dc)) (hB:PySem.W.mroIn X.K Dc (.type "BaseException")=some true) (hT:PySem.W.typeIn X.K (.ref Dc)=some (.type "type")) (hdb:(x == ("__debug__":Str))=false)
  (hs:∀ a H₀ pn,PX (X.hndR a H₀ pn) R→PSs (X.hndR a H₀ pn) (b₀::su) t)
  (hb:∀ (pn:List (Addr×Obj)) (E:Value→Shared→Prop) (R:RK),PX (X.tr pn E) R→PassesOwn (model X.prog X.w) X.A X.env E→PSs (X.tr pn E) body (tb R)) (he:PSs X orelse te):PS X (.Try body [.ExceptHandler (some (.Name x np)) none (b₀::su) hpos] orelse [] pos) (tTry X.K [(Dc,none,t)] tb te):=by
 intro pins s σ H D I h
 refine wpAny_Try_except ?_
 have to:∀ {pins' σ' H' s'},Inv X pins σ' H' s'→Inv (X.tr (X.pn++pins) pins') [] σ' H' s':=fun {pins' σ' H' s'} J=>{ J with pin:=fun p hp=>J.pin p (by simpa using hp),ok:={ J.ok with } }
 have fro:∀ {E' pins' σ' H' s'},Inv (X.tr (X.pn++pins) E') pins' σ' H' s'→Inv X pins σ' H' s':=fun {E' pins' σ' H' s'} J=>{ J with pin:=fun p hp=>J.pin p (List.mem_append_left _ hp),ok:={ J.ok with } }
 refine wpAny_mono (hb (X.pn++pins) (fun e s₁=>wpAny (model X.prog X.w) X.A (noteFrame e X.env) (fun _ s₂=>wpAny (model X.prog X.w) X.A (setFlight e none) (fun _ s₃=>wpAny (model X.prog X.w) X.A (handleBy e X.env [.ExceptHandler (some (.Name x np)) none (b₀::su) hpos]) (SP X pins D) X.xe s₃) X.xe s₂) X.xe s₁)
  (zha X.K [(Dc,none,t)] D) ?_ PassesOwn.looking [] s σ H _ (to I) h) (fun f s1 z=>?_) fun _ _ z=>z
 ·intro pins' σ' H' s' a c dd tb J x hR
  have J':=fro J
  have x':Exc X pins H' s'.heap a c dd (tb.map fun T=>(T,Value.none)):=⟨⟨x.fp.1,x.fp.2.1,x.fp.2.2.1,x.fp.2.2.2.1,x.fp.2.2.2.2.1,fun p hp=>x.fp.2.2.2.2.2 p (List.mem_append_left _ hp)⟩,fun p q=>by
   have y:=x.fpT p q
   exact⟨y.1,y.2.1,y.2.2.1,y.2.2.2.1,y.2.2.2.2.1,fun p hp=>y.2.2.2.2.2 p (List.mem_append_left _ hp)⟩,x.at_⟩
  refine J'.note B x' zhW fun s2 T I2 x2=>?_
  refine I2.land x2 fun s3 I3 x3=>?_
  obtain⟨C,b,rfl,hmro,h⟩:=hR
  obtain⟨o,vs,h1,hc,_⟩:=x3.at_.ob
  refine wpAny_handleBy_cons (codeAny_handlers_test (zeL I3 hg hm (zc3 I3.kIn h1 hc hmro hB hT ?_) hdb)) (by intro q;cases q)
  cases b with
  | false=>exact(show False by simpa [zha] using h).elim
  | true=>
   refine codeAny_handlers_suite (I3.land x3 fun s4 I4 x4=>?_)
   obtain⟨o1,g1,g2,g3,JJ⟩:=I4.enter hex x4
   rw[if_pos rfl] at h
   have h0:=h a o1 x4.fp.1 g1 g2 g3
   generalize hH0:zel (upd H' a (.frz o1 (.own a))) X.H₀=H0 at JJ
   have J5:Inv (X.hndR a H0 (X.pn++pins)) [] σ' (upd H' a (.frz o1 (.own a))) s4:={ JJ with pin:=fun p hp=>JJ.pin p (by simpa using hp),ok:={ JJ.ok with } }
   have bk:∀ {pins' σ' H' s'},Inv (X.hndR a H0 (X.pn++pins)) pins' σ' H' s'→Inv X pins σ' H' s':=fun {pins' σ' H'' s'} J=>by
    have J6:Inv (X.hnd a H0) pins σ' H'' s':={ J with pin:=fun p hp=>J.pin p (List.mem_append_left _ hp),ok:={ J.ok with } }
    subst hH0
    exact I4.leave hex x4.fp J6
   refine wpAny_mono (hs a H0 (X.pn++pins) ?_ [] s4 σ' _ D J5 h0) (fun f s5 z=>?_) fun e2 s5 z=>po _ e2 s5 z
   ·intro pins2 σ2 H2 s2' a2 c2 dd2 tb2 J2 y hR2
    refine hp pins σ2 H2 s2' a2 c2 dd2 tb2 (bk J2) ⟨⟨y.fp.1,y.fp.2.1,y.fp.2.2.1,y.fp.2.2.2.1,y.fp.2.2.2.2.1,fun p hp=>y.fp.2.2.2.2.2 p (List.mem_append_left _ hp)⟩,fun p q=>?_,y.at_⟩ hR2
    have y:=y.fpT p q
    exact⟨y.1,y.2.1,y.2.2.1,y.2.2.2.1,y.2.2.2.2.1,fun p hp=>y.2.2.2.2.2 p (List.mem_append_left _ hp)⟩
   ·cases f with
    | next=>obtain⟨σ',H',J,q⟩:=z;exact⟨σ',H',bk J,q⟩
    | brk=>obtain⟨σ',H',J,q⟩:=z;exact⟨σ',H',bk J,q⟩
    | cont=>obtain⟨σ',H',J,q⟩:=z;exact⟨σ',H',bk J,q⟩
    | ret u=>obtain⟨v,σ',H',J,q⟩:=z;exact⟨v,σ',H',bk J,q⟩
 ·cases f with
  | next=>obtain⟨σ',H',J,q⟩:=z;exact he pins s1 σ' H' D (fro J) q
  | brk=>obtain⟨σ',H',J,q⟩:=z;exact⟨σ',H',fro J,q⟩
  | cont=>obtain⟨σ',H',J,q⟩:=z;exact⟨σ',H',fro J,q⟩
  | ret u=>obtain⟨v,σ',H',J,q⟩:=z;exact⟨v,σ',H',fro J,q⟩
end
end L2
namespace L2
open PySem PySem.Spec PyProof.Rows
section
variable {prog:Program}{w:World}{A:Around}{E:Value→Shared→Prop}{s:Shared}
theorem zfD {it t:Addr}{items:Array Value} (hne:t≠it):∀ (n i:Nat) (s:Shared) (Q:List Value→Shared→Prop),s.heap.IsListIter it t i→s.heap.IsList t items→i + n≤items.size →
  (∀ h',h'.IsListIter it t (i + n)→Heap.SameBut it s.heap h'→Q ((items.toList.drop i).take n) { s with heap:=h' })→wpAny (model prog w) A (draw (.ref it) n) Q E s
 | 0,i,s,Q,hit,_,_,hQ=>by
  show wpAny _ _ (pure []) Q E s
  exact wpAny_pure (by simpa using hQ s.heap hit (Heap.SameBut.refl ..))
 | n + 1,i,s,Q,hit,ht,hle,hQ=>by
  have hlt:i<items.size:=by omega
  show wpAny _ _ (pyNext (.ref it) >>= _) Q E s
  refine wpAny_bind (wpAny_pyNext_list_item hit ht (x:=items[i]) (by simp[hlt]) fun h₁ hit₁ hs₁=>?_)
  refine wpAny_bind (wpAny_holding (zfD hne n (i + 1) _ _ hit₁ (ht.extBut hs₁.extBut hne) (by omega) fun h₂ hit₂ hs₂=>wpAny_pure ?_))
  have hd:items.toList.drop i=items[i]::items.toList.drop (i + 1):=by simp[List.drop_eq_getElem_cons,hlt]
  have:=hQ h₂ (by rw[show i + (n + 1)=i + 1 + n by omega];exact hit₂) (hs₁.trans hs₂)
  rw[hd,List.take_succ_cons] at this
  exact this
theorem zkS {t:Addr}{items:Array Value}{Q:List Value→Shared→Prop} (hd:Hd A s.heap) (ht:s.heap.IsList t items)
  (hQ:∀ h',Heap.ExtBut s.heap.objs.size s.heap h'→Q items.toList { s with heap:=h' }):wpAny (model prog w) A (unpackItems (.ref t) items.size none) Q E s:=by
 have hlt:t≠s.heap.objs.size:=by obtain⟨o,ho,_⟩:=ht;exact Nat.ne_of_lt (Heap.lt_size ho)
 unfold unpackItems
 refine wpAny_bind ?_
 unfold notIterableAtAll
 refine wpAny_bind (wpAny_specialOf ht.typeIs slot_list_iter.lookup (wpAny_pure ?_))
 simp only[Bool.false_eq_true,if_false]
 refine wpAny_bind (wpAny_holding (wpAny_pyIter_list ht (wpAny_bind (wpAny_holding (zfD hlt items.size 0 _ _ ⟨_,Heap.get?_push_size _ rfl,rfl,rfl⟩ (ht.push _) (by omega) fun h₁ hit₁ hs₁=>?_)))))
 rw[show List.take items.size (List.drop 0 items.toList)=items.toList by rw[List.drop_zero];exact List.take_of_length_le (by simp)]
 rw[if_neg (by simp)]
 have ht₁:h₁.IsList t items:=(ht.push _).extBut hs₁.extBut hlt
 have k₁:∀ b o,s.heap.get? b=some o→h₁.get? b=some o:=fun b o e=>hs₁.extBut b o (Nat.ne_of_lt (Heap.lt_size e)) (Heap.get?_push_of_some _ e)
 refine wpAny_bind (wpAny_holding (zdA (hd.keeps k₁) hit₁ ht₁ (by simp) fun h₂ he₂=>?_))
 simp only[Option.isSome_none,Bool.false_eq_true,if_false]
 exact wpAny_pure (hQ h₂ fun b o hb e=>he₂ b o hb (k₁ b o e))
theorem zga {env:Env}{elts:List Expr} {x1}{pos:Pos}{t:Addr}{items:Array Value}{Q:Unit→Shared→Prop} (hd:Hd A s.heap) (ht:s.heap.IsList t items) (hn:(assignEach elts env).length=items.size) (hstar:(assignEach elts env).findIdx? (·.1)=none)
  (h:∀ h',Heap.ExtBut s.heap.objs.size s.heap h'→wpAny (model prog w) A (assignInOrder ((assignEach elts env).map (·.2)) items.toList) Q E { s with heap:=h' }):wpAny (model prog w) A (assign (.Tuple elts x1 pos) env (.ref t)) Q E s:=by
 rw[assign_Tuple]
 refine wpAny_bind (wpAny_standAt ?_)
 unfold unpack
 rw[hn,hstar]
 exact wpAny_bind (wpAny_holding (zkS hd ht h))
end
section
variable {X:Cx}{pos:Pos}
def gLst (K:PySem.W.Frag) (n:Nat) (t:TGs):TG:=fun v σ H Q=>∃ a xs,v=.ref a∧SqL K H a xs∧xs.length=n∧t xs σ H Q
theorem zkT {es:List Expr}{k:Nat}{t:TGs}{n:Nat} (h:PGs X es t) (hn:(assignEach es X.env).length=n:=by rfl) (hst:(assignEach es X.env).findIdx? (·.1)=none:=by rfl):PG X (.Tuple es k pos) (gLst X.K n t):=by
 intro pins s σ H v u Q I r hw
 obtain⟨a,xs,e1,hq,hl,hw⟩:=hw
 subst e1
 cases r
 obtain⟨its,rv,⟨o,m,o1,o2,_,o3⟩,hz⟩:=I.list hq
 refine zga I.hd ⟨o,o1,o2,m,o3⟩ (by simp[hn,← hl,rv.length]) hst fun h' hx=>?_
 have I1:Inv X pins σ H { s with heap:=h' }:=I.kept (t':=s.toks) fun b o e=>hx b o (Nat.ne_of_lt (Heap.lt_size e)) e
 exact h pins _ σ H xs _ Q I1 (by simpa using rv) hw
end
section
variable {X:Cx}
def zkU:V→List V→Hp→VK→Prop:=fun x vs H Q=>∃ a b:Str,x=.str a∧vs=[.str b]∧Q (.bl (Txt.startswith a b)) H
theorem zcP:MtR X "str.startswith" zkU:=by
 intro pins s σ H x xs v us Q I rx r h
 obtain⟨a,b,rfl,rfl,q⟩:=h
 obtain⟨t,rfl⟩:=rx
 obtain⟨u,rfl,t',rfl⟩:=zcX r
 exact SC.startswith ⟨.bl _,H,I,rfl,q⟩
theorem zjs {e:Expr}:PE X e (fun _ _ _=>False):=by
 intro pins s σ H Q I h
 exact h.elim
def strV:Option V→Option Str
 | some (.str x)=>some x
 | _=>none
abbrev Txs:=List (Option Str)
structure zj9 (X:Cx) (e:Expr) (f:Txs→Option Str):Prop where
 pe:PE X e (fun σ H Q=>∃ x,f (σ.map strV)=some x∧Q (.str x) H)
structure zjt (X:Cx) (es:List Expr) (f:Txs→Option (List Str)):Prop where
 pa:PA X es (fun σ H Q=>∃ l,f (σ.map strV)=some l∧Q (l.map V.str) H)
def strAt (i:Nat) (σ:Txs):Option Str:=match σ[i]? with
 | some (some x)=>some x
 | _=>none
def zka (f g:Txs→Option Str) (σ:Txs):Option Str:=match f σ,g σ with
 | some x,some y=>if x.length + y.length≤1000 then some (x++y) else none
 | _,_=>none
def zkb (f:Txs→Option Str) (n:Nat) (σ:Txs):Option Str:=match f σ with
 | some x=>if x.length * n≤1000∧n≤1000 then some (Txt.mul x n) else none
 | _=>none
def ziu (f:Txs→Option Str) (g:Txs→Option (List Str)) (σ:Txs):Option (List Str):=match f σ,g σ with
 | some x,some y=>some (x::y)
 | _,_=>none
theorem zal {x:Str}{j:Nat}{pos:Pos}:zj9 X (.Constant (.str x) j pos) (fun _=>some x):=⟨fun pins s σ H Q I h=>by
 obtain⟨y,e,q⟩:=h
 cases e
 exact zap pins s σ H Q I q⟩
theorem zay {e:Expr}{i:Nat} (h:PE X e (tVar i)):zj9 X e (strAt i):=⟨fun pins s σ H Q I ⟨x,e,q⟩=>by
 refine h pins s σ H Q I ⟨.str x,?_,q⟩
 unfold strAt at e
 rw[List.getElem?_map] at e
 cases w:σ[i]? with
 | none=>rw[w] at e;cases e
 | some z=>
  rw[w] at e
  cases z with
  | none=>cases e
  | some y=>
   cases y with
   | str y=>cases e;rfl
   | _=>cases e⟩
theorem zag {a b:Expr}{f g:Txs→Option Str}{pos:Pos} (ha:zj9 X a f) (hb:zj9 X b g):zj9 X (.BinOp a .Add b pos) (zka f g):=⟨fun pins s σ H Q I ⟨x,e,q⟩=>by
 refine zao zak ha.pe hb.pe pins s σ H Q I ?_
 unfold zka at e
 split at e
 ·rename_i u v hu hv
  split at e
  ·rename_i hz
   cases e
   exact⟨u,hu,v,hv,u,v,rfl,rfl,by rw[sizeLine_eq];omega,q⟩
  ·cases e
 ·cases e⟩
theorem zju {a:Expr}{f:Txs→Option Str}{n j:Nat}{pos p1:Pos} (ha:zj9 X a f):zj9 X (.BinOp a .Mult (.Constant (.int (n:Int)) j p1) pos) (zkb f n):=⟨fun pins s σ H Q I ⟨x,e,q⟩=>by
 refine zao zkO ha.pe zai pins s σ H Q I ?_
 unfold zkb at e
 split at e
 ·rename_i u hu
  split at e
  ·rename_i hz
   cases e
   exact⟨u,hu,u,_,rfl,rfl,mulOk_of u.length n (Nat.le_refl _) (Int.le_refl _) (by omega) (by omega) (by omega),q⟩
  ·cases e
 ·cases e⟩
theorem zaP:zjt X [] (fun _=>some []):=⟨fun p pins s σ H Q I ⟨l,e,q⟩=>by
 cases e
 exact zae p pins s σ H Q I q⟩
theorem zad {e:Expr}{es:List Expr}{f:Txs→Option Str}{g:Txs→Option (List Str)} (he:zj9 X e f) (hs:zjt X es g) (hst:starEach (e::es) X.env=(false,eval e X.env)::starEach es X.env:=by rfl):zjt X (e::es) (ziu f g):=⟨fun p pins s σ H Q I ⟨l,e,q⟩=>by
 refine zaa he.pe hs.pa hst p pins s σ H Q I ?_
 unfold ziu at e
 split at e
 ·rename_i u v hu hv
  cases e
  exact⟨u,hu,v,hv,q⟩
 ·cases e⟩
theorem zbg {es:List Expr}{g:Txs→Option (List Str)}{pos:Pos} (h:zjt X es g):PE X (.List es pos) (fun σ H Q=>∃ η l,σ.map strV=η∧g η=some l∧l.length≤1000∧∀ p,H p=none→Q (.ref p) (upd H p (.lst (l.map V.str)))):=by
 intro pins s σ H Q I hh
 obtain⟨_,l,rfl,e,hl,q⟩:=hh
 exact zdb h.pa pins s σ H Q I ⟨l,e,by rw[List.length_map,sizeLine_eq];omega,q⟩
end
end L2
namespace K05
open PySem L2
def top (i:Nat):Stmt:=PySem.Challenge.pw_layerdraw_k05_lines_that_write_no_net.main.body.getD i (.Pass ⟨0,0,0,0⟩)
abbrev zbC:Stmt:=zbd (top 8) 0
theorem zcB:zau ["self","name"] ["self","name"] (zah zbC):=.of (by decide +kernel)
abbrev zc7:Stmt:=zbd (top 9) 0
abbrev zbN:Stmt:=zbd (top 10) 0
theorem zcQ:zau ["self","number"] ["self","number"] (zah zbN):=.of (by decide +kernel)
abbrev zdV:Stmt:=top 22
theorem zhl:zau ["name"] ["name"] (zah zdV):=.of (by decide +kernel)
abbrev zen:Stmt:=top 23
theorem zgb:zau ["number"] ["number"] (zah zen):=.of (by decide +kernel)
abbrev zeo:Stmt:=top 24
theorem zgc:zau ["number","least","greatest"] ["number","least","greatest"] (zah zeo):=.of (by decide +kernel)
abbrev zcq:Stmt:=zbd (top 25) 0
theorem zdW:zau ["self"] ["self"] (zah zcq):=.of (by decide +kernel)
abbrev zbe:Stmt:=zbd (top 25) 1
theorem zdr:zau ["self","name","half"] ["self","name","half"] (zah zbe):=.of (by decide +kernel)
abbrev zaW:Stmt:=zbd (top 25) 2
theorem zb1:zau ["self","one","other","span","weight","number"] ["self","one","other","span","weight"] (zah zaW):=.of (by decide +kernel)
abbrev zcr:Stmt:=zbd (top 25) 3
theorem zdX:zau ["self","one","other"] ["self","one","other"] (zah zcr):=.of (by decide +kernel)
abbrev zcs:Stmt:=zbd (top 25) 4
theorem zdY:zau ["self","one","other","number"] ["self","one","other","number"] (zah zcs):=.of (by decide +kernel)
abbrev zdj:Stmt:=zbd (top 25) 6
theorem zeR:zau ["self"] ["self"] (zah zdj):=.of (by decide +kernel)
abbrev zcg:Stmt:=zbd (top 25) 8
theorem zeS:zau ["self"] ["self"] (zah zcg):=.of (by decide +kernel)
abbrev zcC:Stmt:=zbd (top 25) 9
theorem zfE:zau ["self"] ["self"] (zah zcC):=.of (by decide +kernel)
abbrev zcD:Stmt:=zbd (top 25) 10
theorem zfF:zau ["self"] ["self"] (zah zcD):=.of (by decide +kernel)
abbrev zb2:Stmt:=zbd (top 25) 11
theorem zc8:zau ["self","name"] ["self","name"] (zah zb2):=.of (by decide +kernel)
abbrev zbk:Stmt:=zbd (top 25) 12
theorem zb5:zau ["self","one","other"] ["self","one","other"] (zah zbk):=.of (by decide +kernel)
abbrev zba:Stmt:=top 30
theorem zcn:zau ["word"] ["word"] (zah zba):=.of (by decide +kernel)
abbrev zbD:Stmt:=top 31
theorem zcR:zau ["words","needed","left_out","missing"] ["words","needed","left_out"] (zah zbD):=.of (by decide +kernel)
abbrev zep:Stmt:=top 32
theorem zbh:zau ["net","line","words","kind","form","names","numbers"] ["net","line"] (zah zep):=.of (by decide +kernel)
abbrev zeq:Stmt:=top 33
theorem zbS:zau ["text","net","number","line"] ["text"] (zah zeq):=.of (by decide +kernel)
abbrev zbq:Stmt:=top 36
theorem zdZ:zau ["net","lines"] ["net"] (zah zbq):=.of (by decide +kernel)
abbrev zct:Stmt:=top 38
theorem zd0:zau ["_law_script","_law_k"] ["_law_script","_law_k"] (zah zct):=.of (by decide +kernel)
abbrev zdk:Stmt:=top 39
theorem zcS:zau ["_law_cell","_law_k","_law_number"] ["_law_cell","_law_k"] (zah zdk):=.of (by decide +kernel)
abbrev zd1:Stmt:=top 40
theorem zbl:zau ["_law_names","_law_cell","_law_one","_law_other","_law_pair","_law_some"] ["_law_names","_law_cell"] (zah zd1):=.of (by decide +kernel)
abbrev zer:Stmt:=top 41
theorem zax:zau ["_law_names","_law_cell","_law_one","_law_other","_law_pair","_law_some"] ["_law_names","_law_cell"] (zah zer):=.of (by decide +kernel)
abbrev zdl:Stmt:=top 42
theorem za1:zau ["_law_text","_law_found","e","_law_others"] ["_law_text"] (zah zdl):=.of (by decide +kernel)
abbrev zaX:Stmt:=top 43
theorem zbT:zau ["_law_names","_law_way","_law_lines","_law_pair"] ["_law_names","_law_way"] (zah zaX):=.of (by decide +kernel)
abbrev zed:Stmt:=top 44
theorem zbo:zau ["_law_script","_law_first","_law_names","_law_lines","_law_more","_law_sames","_law_mosts","_law_at","_law_bad_here","_law_worse","_law_early","_law_crowd_here"] ["_law_script"] (zah zed):=.of (by decide +kernel)
structure Adr where
 DrawError:Addr
 NoName:Addr
 Taken:Addr
 Alone:Addr
 NoNumber:Addr
 TooMany:Addr
 NoPoint:Addr
 NoSuch:Addr
 NoLine:Addr
 Net:Addr
 LINES:Addr
 LINES_0_2:Addr
 LINES_0:Addr
 LINES_1_2:Addr
 LINES_1:Addr
 LINES_2_2:Addr
 LINES_2:Addr
 LINES_3_2:Addr
 LINES_3:Addr
structure Tx (K:PySem.W.Frag) (mg:Str→Option Value) (a:Adr):Prop where
 g_DrawError:mg "DrawError"=some (.ref a.DrawError)
 xb_DrawError:PySem.W.mroIn K a.DrawError (.type "BaseException")=some true
 xt_DrawError:PySem.W.typeIn K (.ref a.DrawError)=some (.type "type")
 g_NoName:mg "NoName"=some (.ref a.NoName)
 xb_NoName:PySem.W.mroIn K a.NoName (.type "BaseException")=some true
 xt_NoName:PySem.W.typeIn K (.ref a.NoName)=some (.type "type")
 x_NoName:XC0 K a.NoName
 g_Taken:mg "Taken"=some (.ref a.Taken)
 xb_Taken:PySem.W.mroIn K a.Taken (.type "BaseException")=some true
 xt_Taken:PySem.W.typeIn K (.ref a.Taken)=some (.type "type")
 x_Taken:XC0 K a.Taken
 g_Alone:mg "Alone"=some (.ref a.Alone)
 xb_Alone:PySem.W.mroIn K a.Alone (.type "BaseException")=some true
 xt_Alone:PySem.W.typeIn K (.ref a.Alone)=some (.type "type")
 x_Alone:XC0 K a.Alone
 g_NoNumber:mg "NoNumber"=some (.ref a.NoNumber)
 xb_NoNumber:PySem.W.mroIn K a.NoNumber (.type "BaseException")=some true
 xt_NoNumber:PySem.W.typeIn K (.ref a.NoNumber)=some (.type "type")
 x_NoNumber:XC0 K a.NoNumber
 g_TooMany:mg "TooMany"=some (.ref a.TooMany)
 xb_TooMany:PySem.W.mroIn K a.TooMany (.type "BaseException")=some true
 xt_TooMany:PySem.W.typeIn K (.ref a.TooMany)=some (.type "type")
 x_TooMany:XC0 K a.TooMany
 g_NoPoint:mg "NoPoint"=some (.ref a.NoPoint)
 xb_NoPoint:PySem.W.mroIn K a.NoPoint (.type "BaseException")=some true
 xt_NoPoint:PySem.W.typeIn K (.ref a.NoPoint)=some (.type "type")
 g_NoSuch:mg "NoSuch"=some (.ref a.NoSuch)
 xb_NoSuch:PySem.W.mroIn K a.NoSuch (.type "BaseException")=some true
 xt_NoSuch:PySem.W.typeIn K (.ref a.NoSuch)=some (.type "type")
 g_NoLine:mg "NoLine"=some (.ref a.NoLine)
 xb_NoLine:PySem.W.mroIn K a.NoLine (.type "BaseException")=some true
 xt_NoLine:PySem.W.typeIn K (.ref a.NoLine)=some (.type "type")
 is_NoLine:XIs K a.NoLine
 g_Net:mg "Net"=some (.ref a.Net)
 c_Net:Cls K a.Net
 na_Net_arrows_by_number:zbY K a.Net "arrows_by_number"
 na_Net_halves:zbY K a.Net "halves"
 na_Net_most_bounds:zbY K a.Net "most_bounds"
 na_Net_next_number:zbY K a.Net "next_number"
 na_Net_same_pairs:zbY K a.Net "same_pairs"
 xi_NoPoint:zlK K mg a.NoPoint "NoPoint" "NoPoint.__init__" zbC ["self","name"]
 xs_NoPoint_name:XSet K a.NoPoint "name"
 xg_NoPoint_name:XGet K a.NoPoint "name"
 xi_NoSuch:zlK K mg a.NoSuch "NoSuch" "NoSuch.__init__" zc7 ["self","number"]
 xs_NoSuch_number:XSet K a.NoSuch "number"
 xg_NoSuch_number:XGet K a.NoSuch "number"
 xi_NoLine:zlK K mg a.NoLine "NoLine" "NoLine.__init__" zbN ["self","number"]
 xs_NoLine_number:XSet K a.NoLine "number"
 xg_NoLine_number:XGet K a.NoLine "number"
 d_is_name:Def K mg "is_name" zdV ["name"] []
 d_is_whole:Def K mg "is_whole" zen ["number"] []
 d_in_range:Def K mg "in_range" zeo ["number","least","greatest"] []
 i_Net:Ini K mg a.Net "Net" "Net.__init__" zcq ["self"]
 m_Net_put_point:Met K a.Net "put_point" "Net.put_point" zbe ["self","name","half"] []
 m_Net_put_point1:Met K a.Net "put_point" "Net.put_point" zbe ["self","name","half"] [.int 0]
 m_Net_put_arrow:Met K a.Net "put_arrow" "Net.put_arrow" zaW ["self","one","other","span","weight"] []
 m_Net_put_arrow3:Met K a.Net "put_arrow" "Net.put_arrow" zaW ["self","one","other","span","weight"] [.int 1]
 m_Net_put_arrow2:Met K a.Net "put_arrow" "Net.put_arrow" zaW ["self","one","other","span","weight"] [.int 1,.int 1]
 m_Net_put_same:Met K a.Net "put_same" "Net.put_same" zcr ["self","one","other"] []
 m_Net_put_most:Met K a.Net "put_most" "Net.put_most" zcs ["self","one","other","number"] []
 m_Net_points:Met K a.Net "points" "Net.points" zdj ["self"] []
 m_Net_arrows:Met K a.Net "arrows" "Net.arrows" zcg ["self"] []
 m_Net_sames:Met K a.Net "sames" "Net.sames" zcC ["self"] []
 m_Net_mosts:Met K a.Net "mosts" "Net.mosts" zcD ["self"] []
 m_Net_need_point:Met K a.Net "need_point" "Net.need_point" zb2 ["self","name"] []
 m_Net_need_two_points:Met K a.Net "need_two_points" "Net.need_two_points" zbk ["self","one","other"] []
 d_is_written_number:Def K mg "is_written_number" zba ["word"] []
 d_numbers_of:Def K mg "numbers_of" zbD ["words","needed","left_out"] []
 d_put_line:Def K mg "put_line" zep ["net","line"] []
 d_read_net:Def K mg "read_net" zeq ["text"] []
 d_net_text:Def K mg "net_text" zbq ["net"] []
 d__law_cell_at:Def K mg "_law_cell_at" zct ["_law_script","_law_k"] []
 d__law_mixed:Def K mg "_law_mixed" zdk ["_law_cell","_law_k"] []
 d__law_good:Def K mg "_law_good" zd1 ["_law_names","_law_cell"] []
 d__law_bad:Def K mg "_law_bad" zer ["_law_names","_law_cell"] []
 d__law_fault:Def K mg "_law_fault" zdl ["_law_text"] []
 d__law_crowd:Def K mg "_law_crowd" zaX ["_law_names","_law_way"] []
 d_law:Def K mg "law" zed ["_law_script"] []
 k_FIGURES:∃ t,mg "FIGURES"=some (.str "0123456789" t)
 k_GREATEST_MOST:∃ t,mg "GREATEST_MOST"=some (.int 99 t)
 k_GREATEST_WEIGHT:∃ t,mg "GREATEST_WEIGHT"=some (.int 1000000 t)
 k_LONGEST_NAME:∃ t,mg "LONGEST_NAME"=some (.int 8 t)
 k_LONGEST_SPAN:∃ t,mg "LONGEST_SPAN"=some (.int 20 t)
 k_MOST_ARROWS:∃ t,mg "MOST_ARROWS"=some (.int 40 t)
 k_MOST_FIGURES:∃ t,mg "MOST_FIGURES"=some (.int 7 t)
 k_MOST_MOSTS:∃ t,mg "MOST_MOSTS"=some (.int 20 t)
 k_MOST_POINTS:∃ t,mg "MOST_POINTS"=some (.int 20 t)
 k_MOST_SAMES:∃ t,mg "MOST_SAMES"=some (.int 20 t)
 k_SMALL_LETTERS:∃ t,mg "SMALL_LETTERS"=some (.str "abcdefghijklmnopqrstuvwxyz" t)
 k_WIDEST_HALF:∃ t,mg "WIDEST_HALF"=some (.int 50 t)
 g_LINES:mg "LINES"=some (.ref a.LINES)
 t_LINES_0_2:∀ H,SqT K H a.LINES_0_2 [.int 0]
 t_LINES_0:∀ H,SqT K H a.LINES_0 [.int 1,.int 0,.ref a.LINES_0_2]
 t_LINES_1_2:∀ H,SqT K H a.LINES_1_2 [.int 1,.int 1]
 t_LINES_1:∀ H,SqT K H a.LINES_1 [.int 2,.int 0,.ref a.LINES_1_2]
 t_LINES_2_2:∀ H,SqT K H a.LINES_2_2 []
 t_LINES_2:∀ H,SqT K H a.LINES_2 [.int 2,.int 0,.ref a.LINES_2_2]
 t_LINES_3_2:∀ H,SqT K H a.LINES_3_2 []
 t_LINES_3:∀ H,SqT K H a.LINES_3 [.int 2,.int 1,.ref a.LINES_3_2]
 kb_str_str:PySem.W.kitOne K (.type "str") (.type "str")=some true
 kb_int_int:PySem.W.kitOne K (.type "int") (.type "int")=some true
 kb_int_bool:PySem.W.kitOne K (.type "int") (.type "bool")=some false
 mr_NoSuch_DrawError:PySem.W.mroIn K a.NoSuch (.ref a.DrawError)=some true
 mr_NoName_DrawError:PySem.W.mroIn K a.NoName (.ref a.DrawError)=some true
 mr_Taken_DrawError:PySem.W.mroIn K a.Taken (.ref a.DrawError)=some true
 mr_NoPoint_DrawError:PySem.W.mroIn K a.NoPoint (.ref a.DrawError)=some true
 mr_Alone_DrawError:PySem.W.mroIn K a.Alone (.ref a.DrawError)=some true
 mr_NoNumber_DrawError:PySem.W.mroIn K a.NoNumber (.ref a.DrawError)=some true
 mr_TooMany_DrawError:PySem.W.mroIn K a.TooMany (.ref a.DrawError)=some true
 mr_NoLine_DrawError:PySem.W.mroIn K a.NoLine (.ref a.DrawError)=some true
 kt_NoLine_NoLine:PySem.W.kitOne K (.ref a.NoLine) (.ref a.NoLine)=some true
 kt_NoLine_ValueError:PySem.W.kitOne K (.ref a.NoLine) (.type "ValueError")=some true
 ka_NoLine:PySem.W.kitAny K (.ref a.NoLine) [.ref a.Alone,.ref a.NoName,.ref a.NoPoint,.ref a.NoSuch,.ref a.TooMany]=some false
 n_ValueError:mg "ValueError"=none
 n_all:mg "all"=none
 n_bool:mg "bool"=none
 n_enumerate:mg "enumerate"=none
 n_int:mg "int"=none
 n_isinstance:mg "isinstance"=none
 n_len:mg "len"=none
 n_list:mg "list"=none
 n_range:mg "range"=none
 n_sorted:mg "sorted"=none
 n_str:mg "str"=none
def za2 (a:Adr):List (Key×V):=[(Sum.inr "point",.ref a.LINES_0),(Sum.inr "arrow",.ref a.LINES_1),(Sum.inr "same",.ref a.LINES_2),(Sum.inr "most",.ref a.LINES_3)]
end K05
namespace K05
open PySem L2
abbrev Kvs:=List (Key×V)
def abc:Str:="abcdefghijklmnopqrstuvwxyz"
def ziv (c:Nat):Bool:=!(Builtin.Str.occurrences abc ⟨#[c]⟩ 0 abc.length 1).isEmpty
def zaJ (n:Str):Bool:=decide (1≤n.length) && decide (n.length≤8) && n.cps.toList.all ziv
def has (kvs:Kvs) (n:Str):Bool:=(zde kvs (Sum.inr n)).isSome
def zhm (dh da:Addr) (nn:Int) (ls lm:Addr):List (Str×V):=[("halves",.ref dh),("arrows_by_number",.ref da),("next_number",.int nn),("same_pairs",.ref ls),("most_bounds",.ref lm)]
theorem zgd {dh da ls lm:Addr}{n m:Int}:zdt "next_number" (.int m) (zhm dh da n ls lm)=zhm dh da m ls lm:=by
 have h1:¬ (("halves":Str)="next_number"):=by decide +kernel
 have h2:¬ (("arrows_by_number":Str)="next_number"):=by decide +kernel
 simp only[zhm,zdt,h1,h2,if_false,if_true]
structure Ar where
 num:Int
 one:Str
 other:Str
 span:Int
 weight:Int
def arV (q:Ar):List V:=[.str q.one,.str q.other,.int q.span,.int q.weight]
def arD (q:Ar):Dt:=.tup [.int q.num,.str q.one,.str q.other,.int q.span,.int q.weight]
def ziw (q:Str×Str):Dt:=.tup [.str q.1,.str q.2]
def zix (q:Str×Str×Int):Dt:=.tup [.str q.1,.str q.2.1,.int q.2.2]
def zht (K:PySem.W.Frag) (H:Hp):List Ar→Kvs→Prop
 | [],kvs=>kvs=[]
 | q::qs,kvs=>∃ t r,kvs=(Sum.inl q.num,.ref t)::r∧SqT K H t (arV q)∧zht K H qs r
structure Rec where
 dh:Addr
 da:Addr
 ls:Addr
 lm:Addr
structure zbO where
 kvs:Kvs
 arr:List Ar
 nn:Int
 ss:List (Str×Str)
 mm:List (Str×Str×Int)
structure zbw (K:PySem.W.Frag) (C:Addr) (H:Hp) (p:Addr) (r:Rec) (v:zbO):Prop where
 ex:∃ dx,H p=some (.ins C dx (zhm r.dh r.da v.nn r.ls r.lm))
 hh:H r.dh=some (.dK v.kvs)
 ha:∃ avs,H r.da=some (.dK avs)∧zht K H v.arr avs
 hs:∃ xs,H r.ls=some (.lst xs)∧zcp K H (v.ss.map ziw) xs
 hm:∃ xs,H r.lm=some (.lst xs)∧zcp K H (v.mm.map zix) xs
 n1:r.da≠r.dh
 n2:r.ls≠r.lm
theorem _root_.L2.Tk.arr {K:PySem.W.Frag}{H H':Hp} (e:Tk H H'):∀ {qs:List Ar}{kvs:Kvs},zht K H qs kvs→zht K H' qs kvs
 | [],_,h=>h
 | q::qs,_,h=>by
  obtain⟨t,r,e1,h1,h2⟩:=h
  exact⟨t,r,e1,e.sqT h1,e.arr h2⟩
theorem zht.length {K:PySem.W.Frag}{H:Hp}:∀ {qs:List Ar}{kvs:Kvs},zht K H qs kvs→qs.length=kvs.length
 | [],_,h=>by rw[show _=[] from h];rfl
 | q::qs,_,h=>by
  obtain⟨t,r,rfl,h1,h2⟩:=h
  show qs.length + 1=r.length + 1
  rw[h2.length]
theorem zht.get {K:PySem.W.Frag}{H:Hp}:∀ {qs:List Ar}{kvs:Kvs}{i:Nat}{k:Key}{x:V},zht K H qs kvs→kvs[i]?=some (k,x)→∃ q t,qs[i]?=some q∧k=Sum.inl q.num∧x=.ref t∧SqT K H t (arV q)
 | [],_,i,k,x,h,e=>by rw[show _=[] from h] at e;simp at e
 | q::qs,_,i,k,x,h,e=>by
  obtain⟨t,r,rfl,h1,h2⟩:=h
  cases i with
  | zero=>simp at e;exact⟨q,t,rfl,e.1.symm,e.2.symm,h1⟩
  | succ i=>exact h2.get (by simpa using e)
theorem zht.snoc {K:PySem.W.Frag}{H:Hp}{q:Ar}{t:Addr} (ht:SqT K H t (arV q)):∀ {qs:List Ar}{kvs:Kvs},zht K H qs kvs→zht K H (qs++[q]) (kvs++[(Sum.inl q.num,.ref t)])
 | [],_,h=>by rw[show _=[] from h];exact⟨t,[],rfl,ht,rfl⟩
 | q'::qs,_,h=>by
  obtain⟨t',r,rfl,h1,h2⟩:=h
  exact⟨t',_,rfl,h1,h2.snoc ht⟩
theorem zbw.same {K:PySem.W.Frag}{C:Addr}{H H':Hp}{p:Addr}{r:Rec}{v:zbO} (n:zbw K C H p r v) (e:zan H H'):zbw K C H' p r v:=by
 obtain⟨⟨dx,h1⟩,h2,⟨avs,h3,h4⟩,⟨xs,h5,h6⟩,⟨ys,h7,h8⟩,n1,n2⟩:=n
 exact⟨⟨dx,e _ _ h1⟩,e _ _ h2,⟨avs,e _ _ h3,(Tk.of e).arr h4⟩,⟨xs,e _ _ h5,e.dts h6⟩,⟨ys,e _ _ h7,e.dts h8⟩,n1,n2⟩
def Kp (p:Addr) (r:Rec) (H H':Hp):Prop:=∀ b o,H b=some o→b≠p→b≠r.dh→b≠r.da→b≠r.ls→b≠r.lm→H' b=some o
theorem Kp.of {p:Addr}{r:Rec}{H H':Hp} (e:zan H H'):Kp p r H H':=fun b o h _ _ _ _ _=>e b o h
theorem Kp.trans {p:Addr}{r:Rec}{H H1 H2:Hp} (a:Kp p r H H1) (b:Kp p r H1 H2):Kp p r H H2:=fun c o h z1 z2 z3 z4 z5=>b c o (a c o h z1 z2 z3 z4 z5) z1 z2 z3 z4 z5
theorem lk0 {a:Str}{v:V}{r:List (Str×V)}:(((a,v)::r):List (Str×V)).lookup a=some v:=by
 rw[List.lookup_cons,beq_self_eq_true]
theorem lk1 {a b:Str}{v:V}{r:List (Str×V)} (h:(a == b)=false):(((b,v)::r):List (Str×V)).lookup a=r.lookup a:=by
 rw[List.lookup_cons,h]
theorem zcT {dh da ls lm:Addr}{n:Int}:(zhm dh da n ls lm).lookup ("halves":Str)=some (.ref dh):=lk0
theorem zd2 {dh da ls lm:Addr}{n:Int}:(zhm dh da n ls lm).lookup ("arrows_by_number":Str)=some (.ref da):=(lk1 (by decide +kernel)).trans lk0
theorem lk_nn {dh da ls lm:Addr}{n:Int}:(zhm dh da n ls lm).lookup ("next_number":Str)=some (.int n):=(lk1 (by decide +kernel)).trans ((lk1 (by decide +kernel)).trans lk0)
theorem zeT {dh da ls lm:Addr}{n:Int}:(zhm dh da n ls lm).lookup ("same_pairs":Str)=some (.ref ls):=(lk1 (by decide +kernel)).trans ((lk1 (by decide +kernel)).trans ((lk1 (by decide +kernel)).trans lk0))
theorem zeU {dh da ls lm:Addr}{n:Int}:(zhm dh da n ls lm).lookup ("most_bounds":Str)=some (.ref lm):=(lk1 (by decide +kernel)).trans ((lk1 (by decide +kernel)).trans ((lk1 (by decide +kernel)).trans ((lk1 (by decide +kernel)).trans lk0)))
section
variable {P:Program}{w:World}{K:PySem.W.Frag}{mg:Str→Option Value}{base:Heap}{a:Adr}
def zjv:Sp:=fun vs H Q _=>∃ n:Str,vs=[.str n]∧n.length≤1000∧∀ H',zan H H'→Q (.bl (zaJ n)) H'
theorem zhn (T:Tx K mg a):Cal P w K mg base CX0 1 "is_name" ["name"] [] zjv:=T.d_is_name.cal fun f fd F=>by
 refine F.ok zhl (fun vs H Q E h=>?_) (fun cdv A outer s H vs Q E hr h=>?_)
 ·obtain⟨n,rfl,_⟩:=h
  rfl
 ·obtain⟨n,rfl,hn,k⟩:=h
  have hz:n.length≤sizeLine:=Nat.le_trans hn (by rw[sizeLine_eq];decide)
  refine⟨_,(zac (za5 (PW.pt (zfa (zcI (zbI (zaq zcz rfl T.n_isinstance za0 (zaa (pv 0) (zaa (zgC rfl T.n_str zfw) zae))))) (zfa (zav zgY (zaq zbA rfl T.n_len zaU (zaa (pv 0) zae)) zai (zaB _)) (ze9 (zav zkn (zaq zbA rfl T.n_len zaU (zaa (pv 0) zae)) (zbG rfl T.k_LONGEST_NAME) (zaB _)))))) (zaj (zaA zgW)) zat)
   (zaj (zaA (zaq zdU rfl T.n_all zic (zaa (zaV (N:=["sign"]) (cap:=[none]) rfl (za6 (osc:=zah zdV) (XN:=["name"]) rfl rfl (by decide +kernel)) (zj5 (pv 0)) (fun cl C s H fp pins=>(zas (i:=0) (show(["sign"]:List Str).Nodup by decide +kernel) rfl (by first|exact Or.inl rfl|exact Or.inr rfl))) (fun cl C s H fp pins=>zaT) (fun cl C s H fp pins=>(zcb zfc (pv 0) (zh5 rfl T.k_SMALL_LETTERS) (by with_unfolding_all rfl)))) zae))))),?_⟩
  refine⟨_,rfl,_,_,_,_,_,rfl,rfl,.str _,T.kb_str_str,true,rfl,?_⟩
  refine zih rfl ?_
  refine⟨_,rfl,_,rfl,hz,_,_,rfl,rfl,_,rfl,?_⟩
  refine zb6 (fun c1=>?_) (fun c1=>?_)
  ·have e:zaJ n=false:=by
    have:(n.length:Int)<1:=of_decide_eq_true c1
    simp only[zaJ,Bool.and_eq_false_iff,decide_eq_false_iff_not]
    exact .inl (.inl (by omega))
   refine zgx ?_
   show Q (.bl false) _
   rw[← e]
   exact k H (zan.refl H)
  ·refine⟨_,rfl,_,rfl,hz,_,_,rfl,rfl,_,rfl,?_⟩
   have h1:1≤n.length:=by
    have:¬ (n.length:Int)<1:=of_decide_eq_false c1
    omega
   refine zb6 (fun c2=>?_) (fun c2=>?_)
   ·have e:zaJ n=false:=by
     have:(8:Int)<n.length:=of_decide_eq_true c2
     simp only[zaJ,Bool.and_eq_false_iff,decide_eq_false_iff_not]
     exact .inl (.inr (by omega))
    show Q (.bl false) _
    rw[← e]
    exact k H (zan.refl H)
   ·have h2:n.length≤8:=by
     have:¬ (8:Int)<n.length:=of_decide_eq_false c2
     omega
    refine⟨_,rfl,n,rfl,fun D hD=>?_⟩
    refine zgD (x:=n) (fun i τ H'=>∃ v,τ=[v]∧zan H H'∧H' D=some (.lst (((n.cps.toList.take i).map ziv).map V.bl))) ⟨none,rfl,zan.new hD,zab⟩ ?_ ?_
    ·rintro i c τ H' hc ⟨v,rfl,sm,hl⟩
     dsimp only[zaQ,zf2]
     rw[if_pos rfl]
     refine⟨_,rfl,_,_,rfl,rfl,_,hl,?_,_,rfl,?_,?_⟩
     ·rw[List.length_map,List.length_map,List.length_take,sizeLine_eq]
      have:n.cps.toList.length=n.length:=by rw[Array.length_toList];rfl
      omega
     ·intro b o e
      rw[zaf (zam e hD)]
      exact sm b o e
     ·have hc':n.cps.toList[i]?=some c:=by rw[Array.getElem?_toList];exact hc
      have ht:n.cps.toList.take (i + 1)=n.cps.toList.take i++[c]:=by
       rw[List.take_add_one,hc']
       rfl
      rw[zab,ht,List.map_append,List.map_append]
      rfl
    ·rintro τ H' ⟨v,rfl,sm,hl⟩
     refine⟨D,(n.cps.toList.take n.cps.size).map ziv,rfl,SqL.of hl,?_⟩
     have e:(List.map ziv (n.cps.toList.take n.cps.size)).all id=zaJ n:=by
      rw[List.take_of_length_le (by rw[Array.length_toList];exact Nat.le_refl _),List.all_map]
      simp only[zaJ,decide_eq_true h1,decide_eq_true h2,Bool.true_and]
      rfl
     rw[e]
     exact k H' sm
def zkV:Sp:=fun vs H Q _=>∃ i,vs=[.int i]∧Q (.bl true) H
theorem zge (T:Tx K mg a):Cal P w K mg base CX0 1 "is_whole" ["number"] [] zkV:=T.d_is_whole.cal fun f fd F=>by
 refine F.ok zgb (fun vs H Q E h=>?_) (fun cdv A outer s H vs Q E hr h=>?_)
 ·obtain⟨n,rfl,_⟩:=h
  rfl
 ·obtain⟨i,rfl,q⟩:=h
  refine⟨_,(zaj (zaA (zgq (zaq zcz rfl T.n_isinstance za0 (zaa (pv 0) (zaa (zgC rfl T.n_int zj6) zae))) (zgp (pe_not (zaq zcz rfl T.n_isinstance za0 (zaa (pv 0) (zaa (zgC rfl T.n_bool zkK) zae)))))))),?_⟩
  refine⟨_,rfl,_,_,_,_,_,rfl,rfl,.int _,T.kb_int_int,true,rfl,?_⟩
  refine zgx ?_
  exact⟨_,rfl,_,_,_,_,_,rfl,rfl,.int _,T.kb_int_bool,false,rfl,q⟩
def zkW:Sp:=fun vs H Q _=>∃ i l g,vs=[.int i,.int l,.int g]∧Q (.bl (decide (l≤i) && decide (i≤g))) H
theorem zcE (T:Tx K mg a):Cal P w K mg base CX0 2 "in_range" ["number","least","greatest"] [] zkW:=T.d_in_range.cal fun f fd F=>by
 have c_is_whole:=zge (P:=P) (w:=w) (base:=base) T
 refine F.ok zgc (fun vs H Q E h=>?_) (fun cdv A outer s H vs Q E hr h=>?_)
 ·obtain⟨n,_,_,rfl,_⟩:=h
  rfl
 ·obtain⟨i,l,g,rfl,q⟩:=h
  refine⟨_,(zaj (zaA (zgq (zaR c_is_whole (hr.mono (by decide)) rfl (zaa (pv 0) zae)) (zgq (zcb zhG (pv 0) (pv 1) (zaB _)) (zgp (zcb op_le (pv 0) (pv 2) (zaB _))))))),?_⟩
  refine⟨_,rfl,_,rfl,true,rfl,?_⟩
  refine zgx ?_
  refine⟨_,rfl,_,rfl,_,_,rfl,rfl,_,rfl,?_⟩
  refine zb6 (fun c=>?_) (fun c=>?_)
  ·refine⟨_,rfl,_,rfl,_,_,rfl,rfl,?_⟩
   rw[c] at q
   exact q
  ·rw[c] at q
   exact q
inductive Due where
 | name | taken | number | many | done
theorem zjw {H:Hp}{x y:Addr}{o:HO}:upd H x o y=none↔y≠x∧H y=none:=by
 unfold upd
 by_cases h:y=x <;> simp[h]
theorem zfG {H:Hp}{x y:Addr}{o:HO}:upd H x o y=if y=x then some o else H y:=rfl
theorem zjx {dh da ls lm:Addr}:zdt "most_bounds" (.ref lm) (zdt "same_pairs" (.ref ls) (zdt "next_number" (.int 0) (zdt "arrows_by_number" (.ref da) (zdt "halves" (.ref dh) []))))=zhm dh da 0 ls lm:=by
 have h1:¬ (("halves":Str)="arrows_by_number"):=by decide +kernel
 have h2:¬ (("halves":Str)="next_number"):=by decide +kernel
 have h3:¬ (("halves":Str)="same_pairs"):=by decide +kernel
 have h4:¬ (("halves":Str)="most_bounds"):=by decide +kernel
 have h5:¬ (("arrows_by_number":Str)="next_number"):=by decide +kernel
 have h6:¬ (("arrows_by_number":Str)="same_pairs"):=by decide +kernel
 have h7:¬ (("arrows_by_number":Str)="most_bounds"):=by decide +kernel
 have h8:¬ (("next_number":Str)="same_pairs"):=by decide +kernel
 have h9:¬ (("next_number":Str)="most_bounds"):=by decide +kernel
 have h0:¬ (("same_pairs":Str)="most_bounds"):=by decide +kernel
 simp only[zdt,h1,h2,h3,h4,h5,h6,h7,h8,h9,h0,if_false]
 rfl
def emp:zbO:=⟨[],[],0,[],[]⟩
def ziy (K:PySem.W.Frag) (C:Addr):Sp:=fun vs H Q _=>∃ p dx,vs=[.ref p]∧H p=some (.ins C dx [])∧∀ r H',(∀ b o,H b=some o→b≠p→H' b=some o)→(∀ b o,H b=some o→b≠r.dh∧b≠r.da∧b≠r.ls∧b≠r.lm)→zbw K C H' p r emp→Q .non H'
theorem zkX (T:Tx K mg a):CalI P w K mg base CX0 1 a.Net "Net" ["self"] (ziy K a.Net):=T.i_Net.cal fun f fd F=>by
 refine F.ok zdW (fun vs H Q E h=>?_) (fun cdv A outer s H vs Q E hr h=>?_)
 ·obtain⟨p,dx,rfl,_⟩:=h
  rfl
 ·obtain⟨p,dx,rfl,hp,k⟩:=h
  refine⟨_,(zac (zee (pv 0) zgw rfl)
   (zac (zee (pv 0) zgw rfl)
   (zac (zee (pv 0) zai rfl)
   (zac (zee (pv 0) (zdb zae) rfl)
   (zaj (zee (pv 0) (zdb zae) rfl)))))),?_⟩
  refine fun d1 n1=>⟨_,rfl,p,a.Net,dx,[],rfl,by rw[zaf (zam hp n1)];exact hp,T.c_Net,T.na_Net_halves,by decide,?_⟩
  refine fun d2 n2=>⟨_,rfl,p,a.Net,dx,_,rfl,by rw[zaf (zam zab n2)];exact zab,T.c_Net,T.na_Net_arrows_by_number,by show 1<1000;decide,?_⟩
  refine⟨_,rfl,p,a.Net,dx,_,rfl,zab,T.c_Net,T.na_Net_next_number,by show 2<1000;decide,?_⟩
  refine⟨by show 0≤sizeLine;decide,fun l1 n3=>⟨_,rfl,p,a.Net,dx,_,rfl,by rw[zaf (zam zab n3)];exact zab,T.c_Net,T.na_Net_same_pairs,by show 3<1000;decide,?_⟩⟩
  refine⟨by show 0≤sizeLine;decide,fun l2 n4=>⟨_,rfl,p,a.Net,dx,_,rfl,by rw[zaf (zam zab n4)];exact zab,T.c_Net,T.na_Net_most_bounds,by show 4<1000;decide,?_⟩⟩
  have p1:p≠d1:=zam hp n1
  simp only[zjw] at n2 n3 n4
  show Q .non _
  rw[zjx]
  have ne:∀ b o,H b=some o→∀ c,H c=none→b≠c:=fun b o e c h z=>by rw[z,h] at e;cases e
  refine k ⟨d1,d2,l1,l2⟩ _ (fun b o e hb=>?_) (fun b o e=>⟨ne b o e _ n1,ne b o e _ n2.2.2,ne b o e _ n3.2.2.2.2.2,ne b o e _ n4.2.2.2.2.2.2.2⟩) ⟨⟨dx,zab⟩,?_,⟨[],?_,rfl⟩,⟨[],?_,rfl⟩,⟨[],?_,rfl⟩,n2.2.1,Ne.symm n4.2.1⟩
  ·simp[zfG,hb,ne b o e _ n1,ne b o e _ n2.2.2,ne b o e _ n3.2.2.2.2.2,ne b o e _ n4.2.2.2.2.2.2.2,e]
  ·show _=some (HO.dK [])
   simp[zfG,Ne.symm p1,Ne.symm n2.2.1,Ne.symm n3.2.2.2.2.1,Ne.symm n4.2.2.2.2.2.2.1]
  ·simp[zfG,n2,Ne.symm n3.2.2.1,Ne.symm n4.2.2.2.2.1]
  ·simp[zfG,n3,Ne.symm n4.2.1]
  ·simp[zfG,n4]
def zgf (C:Addr) (f:Str):Sp:=fun vs H Q _=>∃ x t y,vs=[.ref x,y]∧H x=some (zf4 C t x none)∧∀ dx,H dx=none→Q .non (upd (upd H dx (.xd [(f,y)])) x (zf4 C t x (some dx)))
theorem zho (T:Tx K mg a):zh3 P w K mg base CX0 1 a.NoPoint "NoPoint" ["self","name"] (zgf a.NoPoint "name"):=T.xi_NoPoint.cal fun f fd F=>by
 refine F.ok zcB (fun vs H Q E h=>?_) (fun cdv A outer s H vs Q E hr h=>?_)
 ·obtain⟨x,t,y,rfl,_⟩:=h
  rfl
 ·obtain⟨x,t,y,rfl,hx,k⟩:=h
  refine⟨_,(zaj (zh0 (pv 0) (pv 1) rfl)),?_⟩
  exact⟨_,rfl,_,rfl,x,a.NoPoint,t,rfl,hx,T.xs_NoPoint_name,fun dx nd=>k dx nd⟩
def zdq (kvs:Kvs):List V:=kvs.map fun kv=>kV kv.1
def zjy (K:PySem.W.Frag) (C:Addr):Sp:=fun vs H Q _=>∃ p r v,vs=[.ref p]∧zbw K C H p r v∧∀ l,H l=none→Q (.ref l) (upd H l (.lst (zdq v.kvs)))
theorem zfH (T:Tx K mg a):zhb P w K mg base CX0 1 a.Net "points" ["self"] [] (zjy K a.Net):=T.m_Net_points.cal fun f fd F=>by
 refine F.ok zeR (fun vs H Q E h=>?_) (fun cdv A outer s H vs Q E hr h=>?_)
 ·obtain⟨p,r,v,rfl,_⟩:=h
  rfl
 ·obtain⟨p,r,v,rfl,N,k⟩:=h
  obtain⟨dx,hp⟩:=N.ex
  refine⟨_,(zaj (zaA (zbs zhi rfl T.n_list zib (zaa (zbz (pv 0) rfl) zae)))),?_⟩
  exact⟨_,rfl,p,a.Net,dx,_,_,rfl,hp,T.c_Net,T.na_Net_halves,zcT,r.dh,v.kvs,rfl,N.hh,fun l hl=>k l hl⟩
inductive Er where
 | name | taken | point (n:Str) | alone | number | many | such (i:Int)
def zdm (a:Adr) (E:XK):Er→Hp→Prop
 | .name,H=>E (.ref a.NoName) none H
 | .taken,H=>E (.ref a.Taken) none H
 | .point n,H=>∀ dx,H dx=some (.xd [("name",.str n)])→E (.ref a.NoPoint) (some dx) H
 | .alone,H=>E (.ref a.Alone) none H
 | .number,H=>E (.ref a.NoNumber) none H
 | .many,H=>E (.ref a.TooMany) none H
 | .such i,H=>∀ dx,H dx=some (.xd [("number",.int i)])→E (.ref a.NoSuch) (some dx) H
def zaK (kvs:Kvs) (n:Str) (h:Int):Option Er:=
 if zaJ n=false then some .name else if has kvs n=true then some .taken else if h<0∨50<h then some .number else if 20≤kvs.length then some .many else none
def spPut (K:PySem.W.Frag) (a:Adr):Sp:=fun vs H Q E=>∃ p r v n h,vs=[.ref p,.str n,.int h]∧n.length≤1000∧zbw K a.Net H p r v∧v.kvs.length≤1000 ∧
 (∀ er,zaK v.kvs n h=some er→∀ H',zan H H'→zdm a E er H')∧(zaK v.kvs n h=none→∀ H',Kp p r H H'→zbw K a.Net H' p r { v with kvs:=v.kvs++[(Sum.inr n,.int h)] }→Q .non H')
theorem zgg (T:Tx K mg a) (f:Addr) (fd:FuncData) (F:zfS K "put_point" "Net.put_point" zbe f fd):zcZ P w K mg base (CXe P w) 3 f fd ["self","name","half"] (spPut K a):=by
 have c_is_name:=zhn (P:=P) (w:=w) (base:=base) T
 have c_in_range:=zcE (P:=P) (w:=w) (base:=base) T
 refine F.okX zdr (fun vs H Q E h=>?_) (fun cdv A outer s H vs Q E hr h=>?_)
 ·obtain⟨p,r,v,n,h,rfl,_⟩:=h
  rfl
 ·obtain⟨p,r,v,n,h,rfl,hn,N,hk,k1,k2⟩:=h
  refine⟨_,(zac (za5 (zcI (zbI (zaR c_is_name (hr.mono (by decide)) rfl (zaa (pv 1) zae)))) (zaj (za7 zaE T.x_NoName rfl T.g_NoName)) zat)
   (zac (za5 (zjY (pc_din (zkC hr) (pv 1) (zbz (pv 0) rfl))) (zaj (za7 zaE T.x_Taken rfl T.g_Taken)) zat)
   (zac (za5 (zcI (zbI (zaR c_in_range (hr.mono (by decide)) rfl (zaa (pv 2) (zaa zai (zaa (zbG rfl T.k_WIDEST_HALF) zae)))))) (zaj (za7 zaE T.x_NoNumber rfl T.g_NoNumber)) zat)
   (zac (za5 (zav zhG (zaq zfo rfl T.n_len zaU (zaa (zbz (pv 0) rfl) zae)) (zbG rfl T.k_MOST_POINTS) (zaB _)) (zaj (za7 zaE T.x_TooMany rfl T.g_TooMany)) zat)
   (zaj (zhR (zkC hr) (zbz (pv 0) rfl) (pv 1) (pv 2) rfl)))))),?_⟩
  refine⟨_,rfl,n,rfl,hn,fun H1 s1=>⟨_,rfl,?_⟩⟩
  have N1:=N.same s1
  obtain⟨dx,hp⟩:=N1.ex
  refine zb6 (fun c=>?_) (fun c=>?_)
  ·have c':zaJ n=false:=by simpa using c
   exact⟨by show 0≤sizeLine;decide,k1 .name (by simp only[zaK,if_pos c']) H1 s1⟩
  have c1:¬ zaJ n=false:=by
   have:zaJ n=true:=by simpa using c
   rw[this];decide
  refine⟨_,rfl,_,rfl,p,a.Net,dx,_,_,rfl,hp,T.c_Net,T.na_Net_halves,zcT,r.dh,_,rfl,DGet.k (k:=Sum.inr n) N1.hh,_,rfl,?_⟩
  refine zb6 (fun c=>?_) (fun c=>?_)
  ·have c':has v.kvs n=true:=c
   exact⟨by show 0≤sizeLine;decide,k1 .taken (by simp only[zaK,if_neg c1,if_pos c']) H1 s1⟩
  have c2:¬ has v.kvs n=true:=by rw[show has v.kvs n=false from c];decide
  refine⟨_,rfl,h,0,50,rfl,_,rfl,?_⟩
  refine zb6 (fun c=>?_) (fun c=>?_)
  ·have c':h<0∨50<h:=by
    simp only[Bool.not_eq_true',Bool.and_eq_false_iff,decide_eq_false_iff_not] at c
    omega
   exact⟨by show 0≤sizeLine;decide,k1 .number (by simp only[zaK,if_neg c1,if_neg c2,if_pos c']) H1 s1⟩
  have c3:¬ (h<0∨50<h):=by
   simp only[Bool.not_eq_false',Bool.and_eq_true,decide_eq_true_eq] at c
   omega
  refine⟨_,rfl,p,a.Net,dx,_,_,rfl,hp,T.c_Net,T.na_Net_halves,zcT,r.dh,v.kvs,rfl,N1.hh,_,_,rfl,rfl,_,rfl,?_⟩
  refine zb6 (fun c=>?_) (fun c=>?_)
  ·have c':20≤v.kvs.length:=by
    have:(20:Int)≤v.kvs.length:=of_decide_eq_true c
    omega
   exact⟨by show 0≤sizeLine;decide,k1 .many (by simp only[zaK,if_neg c1,if_neg c2,if_neg c3,if_pos c']) H1 s1⟩
  have c4:¬ 20≤v.kvs.length:=by
   have:¬ (20:Int)≤v.kvs.length:=of_decide_eq_false c
   omega
  refine⟨_,rfl,_,rfl,p,a.Net,dx,_,_,rfl,hp,T.c_Net,T.na_Net_halves,zcT,_,rfl,r.dh,_,rfl,zlH.k (k:=Sum.inr n) N1.hh (by rw[sizeLine_eq];omega),?_⟩
  show Q .non _
  have e:zde v.kvs (Sum.inr n)=none:=by
   have:(zde v.kvs (Sum.inr n)).isSome=false:=c2 |> fun z=>by simpa [has] using z
   simpa using this
  rw[zgv (.int h) e]
  refine k2 (by simp only[zaK,if_neg c1,if_neg c2,if_neg c3,if_neg c4]) _ (fun b o q _ z2 _ _ _=>by rw[zaf z2];exact s1 _ _ q) ?_
  obtain⟨_,h2,⟨avs,h3,h4⟩,⟨xs,h5,h6⟩,⟨ys,h7,h8⟩,n1,n2⟩:=N1
  have tk:Tk H1 (upd H1 r.dh (.dK (v.kvs++[(Sum.inr n,.int h)]))):=Tk.upd h2 rfl
  exact⟨⟨dx,by rw[zaf (zb8 hp h2 (by intro z;cases z))];exact hp⟩,zab,⟨avs,by rw[zaf n1];exact h3,tk.arr h4⟩,⟨xs,by rw[zaf (zb8 h5 h2 (by intro z;cases z))];exact h5,tk.dts (zaF (fun _=>rfl) _) h6⟩,
   ⟨ys,by rw[zaf (zb8 h7 h2 (by intro z;cases z))];exact h7,tk.dts (zaF (fun _=>rfl) _) h8⟩,n1,n2⟩
theorem ok_put (T:Tx K mg a):zhb P w K mg base (CXe P w) 3 a.Net "put_point" ["self","name","half"] [] (spPut K a):=T.m_Net_put_point.cal fun f fd F=>zgg T f fd F
def spNeed (K:PySem.W.Frag) (a:Adr):Sp:=fun vs H Q E=>∃ p r v n,vs=[.ref p,.str n]∧zbw K a.Net H p r v∧(has v.kvs n=true→∀ H',zan H H'→Q .non H') ∧
 (has v.kvs n=false→∀ H',zan H H'→zdm a E (.point n) H')
theorem zgH (n:Str):∀ kvs:Kvs,inV (.str n) (zdq kvs)=has kvs n
 | []=>rfl
 | (k,v)::r=>by
  have ih:=zgH n r
  show(eqV (kV k) (.str n) || inV (.str n) (zdq r))=has ((k,v)::r) n
  rw[ih]
  cases k with
  | inl i=>
   have:¬ (Sum.inl i:Key)=Sum.inr n:=by intro z;cases z
   unfold has
   rw[zaC (p:=(Sum.inl i,v)) this]
   rfl
  | inr m=>
   by_cases h:m=n
   ·subst h
    unfold has
    rw[za8 (p:=(Sum.inr m,v)) rfl]
    simp[kV,eqV]
   ·have:¬ (Sum.inr m:Key)=Sum.inr n:=by intro z;cases z;exact h rfl
    unfold has
    rw[zaC (p:=(Sum.inr m,v)) this]
    simp[kV,eqV,h]
theorem zfI:∀ kvs:Kvs,(zdq kvs).all zdp=true
 | []=>rfl
 | (k,v)::r=>by
  show(zdp (kV k) && (zdq r).all zdp)=true
  rw[zfI r]
  cases k <;> rfl
theorem zkY (T:Tx K mg a):zhb P w K mg base (CXe P w) 3 a.Net "need_point" ["self","name"] [] (spNeed K a):=T.m_Net_need_point.cal fun f fd F=>by
 have m_Net_points:=zfH (P:=P) (w:=w) (base:=base) T
 have x_NoPoint:=zho (P:=P) (w:=w) (base:=base) T
 refine F.okX zc8 (fun vs H Q E h=>?_) (fun cdv A outer s H vs Q E hr h=>?_)
 ·obtain⟨p,r,v,n,rfl,_⟩:=h
  rfl
 ·obtain⟨p,r,v,n,rfl,N,k1,k2⟩:=h
  obtain⟨dx,hp⟩:=N.ex
  refine⟨_,(zaj (za5 (zav zdd (pv 1) (zcM (pv 0) T.c_Net m_Net_points (hr.mono (by decide))) (by with_unfolding_all rfl)) (zaj (zcN zaE x_NoPoint (hr.mono (by decide)) rfl (zaa (pv 1) zae))) zat)),?_⟩
  refine⟨_,rfl,_,rfl,p,dx,_,rfl,hp,by rfl,p,r,v,rfl,N,fun l hl=>⟨l,_,rfl,.inl (SqL.of zab),rfl,zfI v.kvs,_,rfl,?_⟩⟩
  rw[zgH]
  refine zb6 (fun c=>?_) (fun c=>?_)
  ·have c':has v.kvs n=false:=by simpa using c
   refine⟨_,rfl,by show 1≤sizeLine;decide,fun x t hx=>⟨x,t,_,rfl,zab,fun d nd=>⟨rfl,some d,zab,?_⟩⟩⟩
   have xd:d≠x:=fun z=>by rw[z,zab] at nd;cases nd
   have e:del (upd (upd (upd (upd H l (.lst (zdq v.kvs))) x (zf4 a.NoPoint t x none)) d (.xd [("name",.str n)])) x (zf4 a.NoPoint t x (some d))) x=upd (upd H l (.lst (zdq v.kvs))) d (.xd [("name",.str n)]):=by
    funext b
    unfold del
    by_cases h1:b=x
    ·subst h1
     rw[if_pos rfl,zaf (Ne.symm xd),hx]
    ·rw[if_neg h1,zaf h1]
     by_cases h2:b=d
     ·subst h2;rw[zab,zab]
     ·rw[zaf h2,zaf h1,zaf h2]
   show E _ _ _
   rw[e]
   have nd':upd H l (.lst (zdq v.kvs)) d=none:=by rw[zaf xd] at nd;exact nd
   exact k2 c' _ ((zan.new hl).trans (zan.new nd')) d zab
  ·have c':has v.kvs n=true:=by simpa using c
   exact k1 c' _ (zan.new hl)
end
end K05
namespace K05
open PySem L2
section
variable {P:Program}{w:World}{K:PySem.W.Frag}{mg:Str→Option Value}{base:Heap}{a:Adr}
theorem ziz {H:Hp}{q:Addr}{o t:Str} (h:SqT K H q [.str o,.str t]):DtV K H (ziw (o,t)) (.ref q):=⟨q,_,rfl,h,_,_,rfl,rfl,_,_,rfl,rfl,rfl⟩
theorem ziA {H:Hp}{q:Addr}{o t:Str}{n:Int} (h:SqT K H q [.str o,.str t,.int n]):DtV K H (zix (o,t,n)) (.ref q):=⟨q,_,rfl,h,_,_,rfl,rfl,_,_,rfl,rfl,_,_,rfl,rfl,rfl⟩
theorem dt_ar {H:Hp}{q:Addr}{x:Ar} (h:SqT K H q (.int x.num::arV x)):DtV K H (arD x) (.ref q):=⟨q,_,rfl,h,_,_,rfl,rfl,_,_,rfl,rfl,_,_,rfl,rfl,_,_,rfl,rfl,_,_,rfl,rfl,rfl⟩
theorem zkZ {H:Hp}{x:V}{o t:Str} (h:DtV K H (ziw (o,t)) x):∃ q,x=.ref q∧SqT K H q [.str o,.str t]:=by
 obtain⟨q,xs,rfl,h1,y1,ys1,rfl,rfl,y2,ys2,rfl,rfl,h2⟩:=h
 rw[show ys2=[] from h2] at h1
 exact⟨q,rfl,h1⟩
theorem zk0 {H:Hp}{x:V}{o t:Str}{n:Int} (h:DtV K H (zix (o,t,n)) x):∃ q,x=.ref q∧SqT K H q [.str o,.str t,.int n]:=by
 obtain⟨q,xs,rfl,h1,y1,ys1,rfl,rfl,y2,ys2,rfl,rfl,y3,ys3,rfl,rfl,h2⟩:=h
 rw[show ys3=[] from h2] at h1
 exact⟨q,rfl,h1⟩
def two (kvs:Kvs) (o t:Str):Option Er:=
 if has kvs o=false then some (.point o) else if has kvs t=false then some (.point t) else if o=t then some .alone else none
def spTwo (K:PySem.W.Frag) (a:Adr):Sp:=fun vs H Q E=>∃ p r v o t,vs=[.ref p,.str o,.str t]∧zbw K a.Net H p r v∧(two v.kvs o t=none→∀ H',zan H H'→Q .non H') ∧
 (∀ er,two v.kvs o t=some er→∀ H',zan H H'→zdm a E er H')
theorem ziB (T:Tx K mg a):zhb P w K mg base (CXe P w) 4 a.Net "need_two_points" ["self","one","other"] [] (spTwo K a):=T.m_Net_need_two_points.cal fun f fd F=>by
 have m_Net_need_point:=zkY (P:=P) (w:=w) (base:=base) T
 refine F.okX zb5 (fun vs H Q E h=>?_) (fun cdv A outer s H vs Q E hr h=>?_)
 ·obtain⟨p,r,v,o,t,rfl,_⟩:=h
  rfl
 ·obtain⟨p,r,v,o,t,rfl,N,k1,k2⟩:=h
  obtain⟨dx,hp⟩:=N.ex
  refine⟨_,(zac (za4 (zbp (pv 0) T.c_Net m_Net_need_point zaE (hr.mono (by decide)) (zaa (pv 1) zae)))
   (zac (za4 (zbp (pv 0) T.c_Net m_Net_need_point zaE (hr.mono (by decide)) (zaa (pv 2) zae)))
   (zaj (za5 (zav zdo (pv 1) (pv 2) (zaB _)) (zaj (za7 zaE T.x_Alone rfl T.g_Alone)) zat)))),?_⟩
  refine⟨_,rfl,p,dx,_,rfl,hp,by rfl,_,rfl,p,r,v,o,rfl,N,fun c1 H1 s1=>?_,fun c=>k2 _ (by simp only[two,if_pos c])⟩
  have c1':¬ has v.kvs o=false:=by rw[c1];decide
  refine⟨_,rfl,p,dx,_,rfl,s1 _ _ hp,by rfl,_,rfl,p,r,v,t,rfl,N.same s1,fun c2 H2 s2=>?_,fun c H2 s2=>k2 _ (by simp only[two,if_neg c1',if_pos c]) H2 (s1.trans s2)⟩
  have c2':¬ has v.kvs t=false:=by rw[c2];decide
  refine⟨_,rfl,_,rfl,rfl,_,rfl,?_⟩
  refine zb6 (fun c=>?_) (fun c=>?_)
  ·have c3:o=t:=by simpa using c
   exact⟨by show 0≤sizeLine;decide,k2 .alone (by simp only[two,if_neg c1',if_neg c2',if_pos c3]) H2 (s1.trans s2)⟩
  ·have c3:¬ o=t:=by simpa using c
   exact k1 (by simp only[two,if_neg c1',if_neg c2',if_neg c3]) H2 (s1.trans s2)
def bad:Option Int→Bool
 | none=>false
 | some n=>decide (n<0) || decide (99<n)
def lim (kvs:Kvs) (m:Nat) (o t:Str) (nh:Option Int):Option Er:=
 match two kvs o t with
 | some er=>some er
 | none=>if bad nh=true then some .number else if 20≤m then some .many else none
theorem zeV {kvs:Kvs}{m:Nat}{o t:Str}{nh:Option Int}{er:Er} (h:two kvs o t=some er):lim kvs m o t nh=some er:=by unfold lim;rw[h]
theorem zbU {kvs:Kvs}{m:Nat}{o t:Str}{nh:Option Int} (h:two kvs o t=none):lim kvs m o t nh=if bad nh=true then some .number else if 20≤m then some .many else none:=by unfold lim;rw[h]
def spSame (K:PySem.W.Frag) (a:Adr):Sp:=fun vs H Q E=>∃ p r v o t,vs=[.ref p,.str o,.str t]∧zbw K a.Net H p r v∧v.ss.length≤1000 ∧
 (lim v.kvs v.ss.length o t none=none→∀ H',Kp p r H H'→zbw K a.Net H' p r { v with ss:=v.ss++[(o,t)] }→Q .non H') ∧
 (∀ er,lim v.kvs v.ss.length o t none=some er→∀ H',zan H H'→zdm a E er H')
theorem zk1 (T:Tx K mg a):zhb P w K mg base (CXe P w) 5 a.Net "put_same" ["self","one","other"] [] (spSame K a):=T.m_Net_put_same.cal fun f fd F=>by
 have m_Net_need_two_points:=ziB (P:=P) (w:=w) (base:=base) T
 refine F.okX zdX (fun vs H Q E h=>?_) (fun cdv A outer s H vs Q E hr h=>?_)
 ·obtain⟨p,r,v,o,t,rfl,_⟩:=h
  rfl
 ·obtain⟨p,r,v,o,t,rfl,N,hk,k1,k2⟩:=h
  obtain⟨dx,hp⟩:=N.ex
  refine⟨_,(zac (za4 (zbp (pv 0) T.c_Net m_Net_need_two_points zaE (hr.mono (by decide)) (zaa (pv 1) (zaa (pv 2) zae))))
   (zac (za5 (zav zhG (zaq zar rfl T.n_len zaU (zaa (zbz (pv 0) rfl) zae)) (zbG rfl T.k_MOST_SAMES) (zaB _)) (zaj (za7 zaE T.x_TooMany rfl T.g_TooMany)) zat)
   (zaj (za4 (zb4 PySem.F.plainAttrs_list PySem.F.slot_list_append PySem.F.type_list_append zbv (zbz (pv 0) rfl) (zaa (zbn (zaa (pv 1) (zaa (pv 2) zae))) zae)))))),?_⟩
  refine⟨_,rfl,p,dx,_,rfl,hp,by rfl,_,rfl,_,rfl,p,r,v,o,t,rfl,N,fun c1 H1 s1=>?_,fun er c=>k2 er (zeV c)⟩
  rw[zbU c1] at k1 k2
  have N1:=N.same s1
  obtain⟨xs,h5,h6⟩:=N1.hs
  have hp1:=s1 _ _ hp
  have hl:xs.length=v.ss.length:=by rw[← h6.length,List.length_map]
  refine⟨_,rfl,p,a.Net,dx,_,_,rfl,hp1,T.c_Net,T.na_Net_same_pairs,zeT,r.ls,xs,rfl,.inl (SqL.of h5),_,_,rfl,rfl,_,rfl,?_⟩
  refine zb6 (fun c=>?_) (fun c=>?_)
  ·have c':20≤v.ss.length:=by
    have:(20:Int)≤xs.length:=of_decide_eq_true c
    omega
   exact⟨by show 0≤sizeLine;decide,k2 .many (by rw[if_neg (show ¬ bad none=true by decide),if_pos c']) H1 s1⟩
  have c':¬ 20≤v.ss.length:=by
   have:¬ (20:Int)≤xs.length:=of_decide_eq_false c
   omega
  refine⟨_,rfl,p,a.Net,dx,_,_,rfl,hp1,T.c_Net,T.na_Net_same_pairs,zeT,.inl ⟨rfl,_,SqL.of h5⟩,_,rfl,_,rfl,(by show 2≤sizeLine;decide),fun q nq=>?_⟩
  have s2:zan H1 (upd H1 q (.tup [.str o,.str t])):=zan.new nq
  have hq:SqT K (upd H1 q (.tup [.str o,.str t])) q [.str o,.str t]:=SqT.of zab
  generalize upd H1 q (.tup [.str o,.str t])=H2 at s2 hq ⊢
  refine⟨r.ls,xs,_,rfl,rfl,s2 _ _ h5,by rw[sizeLine_eq];omega,?_⟩
  refine k1 (by rw[if_neg (show ¬ bad none=true by decide),if_neg c']) _ (fun b u e _ _ _ z4 _=>by rw[zaf z4];exact s2 _ _ (s1 _ _ e)) ?_
  obtain⟨⟨dx2,hp2⟩,h2,⟨avs,h3,h4⟩,⟨xs2,h52,h62⟩,⟨ys,h7,h8⟩,n1,n2⟩:=N1.same s2
  have tk:Tk H2 (upd H2 r.ls (.lst (xs++[.ref q]))):=Tk.upd h52 rfl
  exact⟨⟨dx2,by rw[zaf (zb8 hp2 h52 (by intro z;cases z))];exact hp2⟩,by rw[zaf (zb8 h2 h52 (by intro z;cases z))];exact h2,⟨avs,by rw[zaf (zb8 h3 h52 (by intro z;cases z))];exact h3,tk.arr h4⟩,
   ⟨_,zab,by rw[List.map_append];exact zcp.snoc (ziz (tk.sqT hq)) (tk.dts (zaF (fun _=>rfl) _) (s2.dts h6))⟩,⟨ys,by rw[zaf (Ne.symm n2)];exact h7,tk.dts (zaF (fun _=>rfl) _) h8⟩,n1,n2⟩
def spMost (K:PySem.W.Frag) (a:Adr):Sp:=fun vs H Q E=>∃ p r v o t n,vs=[.ref p,.str o,.str t,.int n]∧zbw K a.Net H p r v∧v.mm.length≤1000 ∧
 (lim v.kvs v.mm.length o t (some n)=none→∀ H',Kp p r H H'→zbw K a.Net H' p r { v with mm:=v.mm++[(o,t,n)] }→Q .non H') ∧
 (∀ er,lim v.kvs v.mm.length o t (some n)=some er→∀ H',zan H H'→zdm a E er H')
theorem zk2 (T:Tx K mg a):zhb P w K mg base (CXe P w) 5 a.Net "put_most" ["self","one","other","number"] [] (spMost K a):=T.m_Net_put_most.cal fun f fd F=>by
 have m_Net_need_two_points:=ziB (P:=P) (w:=w) (base:=base) T
 have c_in_range:=zcE (P:=P) (w:=w) (base:=base) T
 refine F.okX zdY (fun vs H Q E h=>?_) (fun cdv A outer s H vs Q E hr h=>?_)
 ·obtain⟨p,r,v,o,t,n,rfl,_⟩:=h
  rfl
 ·obtain⟨p,r,v,o,t,n,rfl,N,hk,k1,k2⟩:=h
  obtain⟨dx,hp⟩:=N.ex
  refine⟨_,(zac (za4 (zbp (pv 0) T.c_Net m_Net_need_two_points zaE (hr.mono (by decide)) (zaa (pv 1) (zaa (pv 2) zae))))
   (zac (za5 (zcI (zbI (zaR c_in_range (hr.mono (by decide)) rfl (zaa (pv 3) (zaa zai (zaa (zbG rfl T.k_GREATEST_MOST) zae)))))) (zaj (za7 zaE T.x_NoNumber rfl T.g_NoNumber)) zat)
   (zac (za5 (zav zhG (zaq zar rfl T.n_len zaU (zaa (zbz (pv 0) rfl) zae)) (zbG rfl T.k_MOST_MOSTS) (zaB _)) (zaj (za7 zaE T.x_TooMany rfl T.g_TooMany)) zat)
   (zaj (za4 (zb4 PySem.F.plainAttrs_list PySem.F.slot_list_append PySem.F.type_list_append zbv (zbz (pv 0) rfl) (zaa (zbn (zaa (pv 1) (zaa (pv 2) (zaa (pv 3) zae)))) zae))))))),?_⟩
  refine⟨_,rfl,p,dx,_,rfl,hp,by rfl,_,rfl,_,rfl,p,r,v,o,t,rfl,N,fun c1 H1 s1=>?_,fun er c=>k2 er (zeV c)⟩
  rw[zbU c1] at k1 k2
  have N1:=N.same s1
  obtain⟨xs,h5,h6⟩:=N1.hm
  have hp1:=s1 _ _ hp
  have hl:xs.length=v.mm.length:=by rw[← h6.length,List.length_map]
  refine⟨_,rfl,n,0,99,rfl,_,rfl,?_⟩
  refine zb6 (fun c=>?_) (fun c=>?_)
  ·have c':bad (some n)=true:=by
    simp only[Bool.not_eq_true',Bool.and_eq_false_iff,decide_eq_false_iff_not] at c
    simp only[bad,Bool.or_eq_true,decide_eq_true_eq]
    omega
   exact⟨by show 0≤sizeLine;decide,k2 .number (by rw[if_pos c']) H1 s1⟩
  have c3:¬ bad (some n)=true:=by
   simp only[Bool.not_eq_false',Bool.and_eq_true,decide_eq_true_eq] at c
   simp only[bad,Bool.or_eq_true,decide_eq_true_eq]
   omega
  rw[if_neg c3] at k1 k2
  refine⟨_,rfl,p,a.Net,dx,_,_,rfl,hp1,T.c_Net,T.na_Net_most_bounds,zeU,r.lm,xs,rfl,.inl (SqL.of h5),_,_,rfl,rfl,_,rfl,?_⟩
  refine zb6 (fun c=>?_) (fun c=>?_)
  ·have c':20≤v.mm.length:=by
    have:(20:Int)≤xs.length:=of_decide_eq_true c
    omega
   exact⟨by show 0≤sizeLine;decide,k2 .many (by rw[if_pos c']) H1 s1⟩
  have c':¬ 20≤v.mm.length:=by
   have:¬ (20:Int)≤xs.length:=of_decide_eq_false c
   omega
  refine⟨_,rfl,p,a.Net,dx,_,_,rfl,hp1,T.c_Net,T.na_Net_most_bounds,zeU,.inl ⟨rfl,_,SqL.of h5⟩,_,rfl,_,rfl,_,rfl,(by show 3≤sizeLine;decide),fun q nq=>?_⟩
  have s2:zan H1 (upd H1 q (.tup [.str o,.str t,.int n])):=zan.new nq
  have hq:SqT K (upd H1 q (.tup [.str o,.str t,.int n])) q [.str o,.str t,.int n]:=SqT.of zab
  generalize upd H1 q (.tup [.str o,.str t,.int n])=H2 at s2 hq ⊢
  refine⟨r.lm,xs,_,rfl,rfl,s2 _ _ h5,by rw[sizeLine_eq];omega,?_⟩
  refine k1 (by rw[if_neg c']) _ (fun b u e _ _ _ _ z5=>by rw[zaf z5];exact s2 _ _ (s1 _ _ e)) ?_
  obtain⟨⟨dx2,hp2⟩,h2,⟨avs,h3,h4⟩,⟨ys,h7,h8⟩,⟨xs2,h52,h62⟩,n1,n2⟩:=N1.same s2
  have tk:Tk H2 (upd H2 r.lm (.lst (xs++[.ref q]))):=Tk.upd h52 rfl
  exact⟨⟨dx2,by rw[zaf (zb8 hp2 h52 (by intro z;cases z))];exact hp2⟩,by rw[zaf (zb8 h2 h52 (by intro z;cases z))];exact h2,⟨avs,by rw[zaf (zb8 h3 h52 (by intro z;cases z))];exact h3,tk.arr h4⟩,
   ⟨ys,by rw[zaf n2];exact h7,tk.dts (zaF (fun _=>rfl) _) h8⟩,⟨_,zab,by rw[List.map_append];exact zcp.snoc (ziA (tk.sqT hq)) (tk.dts (zaF (fun _=>rfl) _) (s2.dts h6))⟩,n1,n2⟩
def zcu (v:zbO) (o t:Str) (sp wt:Int):Option Er:=
 match two v.kvs o t with
 | some er=>some er
 | none=>if (sp<1∨20<sp)∨(wt<1∨1000000<wt) then some .number else if 40≤v.arr.length then some .many else none
theorem ziC {v:zbO}{o t:Str}{sp wt:Int}{er:Er} (h:two v.kvs o t=some er):zcu v o t sp wt=some er:=by unfold zcu;rw[h]
theorem zdx {v:zbO}{o t:Str}{sp wt:Int} (h:two v.kvs o t=none):zcu v o t sp wt=if (sp<1∨20<sp)∨(wt<1∨1000000<wt) then some .number else if 40≤v.arr.length then some .many else none:=by unfold zcu;rw[h]
def ziD (K:PySem.W.Frag) (a:Adr):Sp:=fun vs H Q E=>∃ p r v o t sp wt,vs=[.ref p,.str o,.str t,.int sp,.int wt]∧zbw K a.Net H p r v∧v.arr.length≤1000∧(∀ q∈v.arr,q.num<v.nn) ∧
 (zcu v o t sp wt=none→∀ H',Kp p r H H'→zbw K a.Net H' p r { v with arr:=v.arr++[⟨v.nn,o,t,sp,wt⟩],nn:=v.nn + 1 }→Q (.int v.nn) H') ∧
 (∀ er,zcu v o t sp wt=some er→∀ H',zan H H'→zdm a E er H')
theorem ziE {H:Hp}{n:Int}:∀ {qs:List Ar}{kvs:Kvs},zht K H qs kvs→(∀ q∈qs,q.num<n)→zde kvs (Sum.inl n)=none
 | [],_,h,_=>by rw[show _=[] from h];rfl
 | q::qs,_,h,l=>by
  obtain⟨t,r,rfl,h1,h2⟩:=h
  have ne:¬ (Sum.inl q.num:Key)=Sum.inl n:=fun z=>by
   have:=l q List.mem_cons_self
   cases z
   omega
  rw[zaC (p:=(Sum.inl q.num,V.ref t)) ne]
  exact ziE h2 fun q' hq'=>l q' (List.mem_cons_of_mem _ hq')
theorem zeW (T:Tx K mg a) (f:Addr) (fd:FuncData) (F:zfS K "put_arrow" "Net.put_arrow" zaW f fd):zcZ P w K mg base (CXe P w) 5 f fd ["self","one","other","span","weight"] (ziD K a):=by
 have m_Net_need_two_points:=ziB (P:=P) (w:=w) (base:=base) T
 have c_in_range:=zcE (P:=P) (w:=w) (base:=base) T
 refine F.okX zb1 (fun vs H Q E h=>?_) (fun cdv A outer s H vs Q E hr h=>?_)
 ·obtain⟨p,r,v,o,t,sp,wt,rfl,_⟩:=h
  rfl
 ·obtain⟨p,r,v,o,t,sp,wt,rfl,N,hk,hnn,k1,k2⟩:=h
  obtain⟨dx,hp⟩:=N.ex
  refine⟨_,(zac (za4 (zbp (pv 0) T.c_Net m_Net_need_two_points zaE (hr.mono (by decide)) (zaa (pv 1) (zaa (pv 2) zae))))
   (zac (za5 (PW.pt (zfa (zcI (zbI (zaR c_in_range (hr.mono (by decide)) rfl (zaa (pv 3) (zaa zai (zaa (zbG rfl T.k_LONGEST_SPAN) zae)))))) (ze9 (zcI (zbI (zaR c_in_range (hr.mono (by decide)) rfl (zaa (pv 4) (zaa zai (zaa (zbG rfl T.k_GREATEST_WEIGHT) zae))))))))) (zaj (za7 zaE T.x_NoNumber rfl T.g_NoNumber)) zat)
   (zac (za5 (zav zhG (zaq zfo rfl T.n_len zaU (zaa (zbz (pv 0) rfl) zae)) (zbG rfl T.k_MOST_ARROWS) (zaB _)) (zaj (za7 zaE T.x_TooMany rfl T.g_TooMany)) zat)
   (zac (zaw (i:=5) zb1.nd rfl (by first|exact Or.inl rfl|exact Or.inr rfl) (zbz (pv 0) rfl))
   (zac (zhR (zkC hr) (zbz (pv 0) rfl) (pv 5) (zbn (zaa (pv 1) (zaa (pv 2) (zaa (pv 3) (zaa (pv 4) zae))))) rfl)
   (zac (zee (pv 0) (zao zbJ (pv 5) zai) rfl)
   (zaj (zaA (pv 5))))))))),?_⟩
  refine⟨_,rfl,p,dx,_,rfl,hp,by rfl,_,rfl,_,rfl,p,r,v,o,t,rfl,N,fun c1 H1 s1=>?_,fun er c=>k2 er (ziC c)⟩
  rw[zdx c1] at k1 k2
  have N1:=N.same s1
  obtain⟨avs,h3,h4⟩:=N1.ha
  have hp1:=s1 _ _ hp
  have hl:avs.length=v.arr.length:=by rw[← h4.length]
  have numb:((sp<1∨20<sp)∨(wt<1∨1000000<wt))→_:=fun c=>k2 .number (by rw[if_pos c]) H1 s1
  refine⟨_,rfl,sp,1,20,rfl,_,rfl,?_⟩
  refine zb6 (fun c=>?_) (fun c=>?_)
  ·have c':sp<1∨20<sp:=by
    simp only[Bool.not_eq_true',Bool.and_eq_false_iff,decide_eq_false_iff_not] at c
    omega
   exact zgx ⟨by show 0≤sizeLine;decide,numb (.inl c')⟩
  have c3:¬ (sp<1∨20<sp):=by
   simp only[Bool.not_eq_false',Bool.and_eq_true,decide_eq_true_eq] at c
   omega
  refine⟨_,rfl,wt,1,1000000,rfl,_,rfl,?_⟩
  refine zb6 (fun c=>?_) (fun c=>?_)
  ·have c':wt<1∨1000000<wt:=by
    simp only[Bool.not_eq_true',Bool.and_eq_false_iff,decide_eq_false_iff_not] at c
    omega
   exact⟨by show 0≤sizeLine;decide,numb (.inr c')⟩
  have c4:¬ (wt<1∨1000000<wt):=by
   simp only[Bool.not_eq_false',Bool.and_eq_true,decide_eq_true_eq] at c
   omega
  rw[if_neg (fun z=>z.elim c3 c4)] at k1 k2
  refine⟨_,rfl,p,a.Net,dx,_,_,rfl,hp1,T.c_Net,T.na_Net_arrows_by_number,zd2,r.da,avs,rfl,h3,_,_,rfl,rfl,_,rfl,?_⟩
  refine zb6 (fun c=>?_) (fun c=>?_)
  ·have c':40≤v.arr.length:=by
    have:(40:Int)≤avs.length:=of_decide_eq_true c
    omega
   exact⟨by show 0≤sizeLine;decide,k2 .many (by rw[if_pos c']) H1 s1⟩
  have c':¬ 40≤v.arr.length:=by
   have:¬ (40:Int)≤avs.length:=of_decide_eq_false c
   omega
  refine⟨_,rfl,p,a.Net,dx,_,_,rfl,hp1,T.c_Net,T.na_Net_next_number,lk_nn,?_⟩
  refine⟨_,rfl,_,rfl,_,rfl,_,rfl,(by show 4≤sizeLine;decide),fun q nq=>?_⟩
  have s2:zan H1 (upd H1 q (.tup [.str o,.str t,.int sp,.int wt])):=zan.new nq
  have hq:SqT K (upd H1 q (.tup [.str o,.str t,.int sp,.int wt])) q (arV ⟨v.nn,o,t,sp,wt⟩):=SqT.of zab
  generalize upd H1 q (.tup [.str o,.str t,.int sp,.int wt])=H2 at s2 hq ⊢
  have hp2:=s2 _ _ hp1
  have h32:=s2 _ _ h3
  refine⟨_,rfl,p,a.Net,dx,_,_,rfl,hp2,T.c_Net,T.na_Net_arrows_by_number,zd2,_,rfl,r.da,_,rfl,zlH.k (k:=Sum.inl v.nn) h32 (by rw[sizeLine_eq];omega),?_⟩
  rw[zgv (.ref q) (ziE h4 hnn)]
  have hp3:upd H2 r.da (.dK (avs++[(Sum.inl v.nn,.ref q)])) p=some (.ins a.Net dx (zhm r.dh r.da v.nn r.ls r.lm)):=by rw[zaf (zb8 hp2 h32 (by intro z;cases z))];exact hp2
  refine⟨_,rfl,_,_,rfl,rfl,_,rfl,p,a.Net,dx,_,rfl,hp3,T.c_Net,T.na_Net_next_number,by show 5<1000;decide,?_⟩
  rw[zgd]
  refine⟨_,rfl,?_⟩
  show Q (.int v.nn) _
  refine k1 (by rw[if_neg c']) _ (fun b u e z1 _ z3 _ _=>by rw[zaf z1,zaf z3];exact s2 _ _ (s1 _ _ e)) ?_
  obtain⟨⟨dx2,_⟩,h2,_,⟨xs,h5,h6⟩,⟨ys,h7,h8⟩,n1,n2⟩:=N1.same s2
  have tk:Tk H2 (upd (upd H2 r.da (.dK (avs++[(Sum.inl v.nn,.ref q)]))) p (.ins a.Net dx (zhm r.dh r.da (v.nn + 1) r.ls r.lm))):=(Tk.upd h32 rfl).trans (Tk.upd hp3 rfl)
  have ne:∀ b u,H2 b=some u→b≠p→b≠r.da→upd (upd H2 r.da (.dK (avs++[(Sum.inl v.nn,.ref q)]))) p (.ins a.Net dx (zhm r.dh r.da (v.nn + 1) r.ls r.lm)) b=some u:=fun b u e z1 z3=>by rw[zaf z1,zaf z3];exact e
  exact⟨⟨dx,zab⟩,ne _ _ h2 (zb8 h2 hp2 (by intro z;cases z)) (Ne.symm n1),⟨_,(by rw[zaf (zb8 h32 hp2 (by intro z;cases z))];exact zab),(tk.arr ((Tk.of s2).arr h4)).snoc (tk.sqT hq)⟩,
   ⟨xs,ne _ _ h5 (zb8 h5 hp2 (by intro z;cases z)) (zb8 h5 h32 (by intro z;cases z)),tk.dts (zaF (fun _=>rfl) _) h6⟩,⟨ys,ne _ _ h7 (zb8 h7 hp2 (by intro z;cases z)) (zb8 h7 h32 (by intro z;cases z)),tk.dts (zaF (fun _=>rfl) _) h8⟩,n1,n2⟩
theorem zjz (T:Tx K mg a):zhb P w K mg base (CXe P w) 5 a.Net "put_arrow" ["self","one","other","span","weight"] [] (ziD K a):=T.m_Net_put_arrow.cal fun f fd F=>zeW T f fd F
def ziF (K:PySem.W.Frag) (C:Addr) (f:zbO→List Dt):Sp:=fun vs H Q _=>∃ p r v,vs=[.ref p]∧zbw K C H p r v∧(f v).length≤1000∧∀ l H' xs,zan H H'→H l=none→H' l=some (.lst xs)→zcp K H' (f v) xs→Tps H' xs→Q (.ref l) H'
theorem zjA (T:Tx K mg a):zhb P w K mg base CX0 1 a.Net "sames" ["self"] [] (ziF K a.Net fun v=>v.ss.map ziw):=T.m_Net_sames.cal fun f fd F=>by
 refine F.ok zfE (fun vs H Q E h=>?_) (fun cdv A outer s H vs Q E hr h=>?_)
 ·obtain⟨p,r,v,rfl,_⟩:=h
  rfl
 ·obtain⟨p,r,v,rfl,N,hk,k⟩:=h
  obtain⟨dx,hp⟩:=N.ex
  obtain⟨xs,h5,h6⟩:=N.hs
  have hl:v.ss.length=xs.length:=by rw[← h6.length,List.length_map]
  dsimp only at hk
  rw[List.length_map] at hk
  refine⟨_,(zaj (zaA (zaV (N:=["one","other"]) (cap:=[none,none]) rfl (za6 (osc:=zah zcC) (XN:=["self"]) rfl rfl (by decide +kernel)) (zbc (zbz (pv 0) rfl)) (fun cl C s H fp pins=>(zc5 (K:=K) (n:=2) rfl rfl (zaz (zas (i:=0) (show(["one","other"]:List Str).Nodup by decide +kernel) rfl (by first|exact Or.inl rfl|exact Or.inr rfl)) (zaz (zas (i:=1) (show(["one","other"]:List Str).Nodup by decide +kernel) rfl (by first|exact Or.inl rfl|exact Or.inr rfl)) zb9)))) (fun cl C s H fp pins=>zaT) (fun cl C s H fp pins=>(zbn (zaa (pv 0) (zaa (pv 1) zae))))))),?_⟩
  refine⟨_,rfl,p,a.Net,dx,_,_,rfl,hp,T.c_Net,T.na_Net_same_pairs,zeT,r.ls,rfl,⟨_,SqL.of h5⟩,fun D hD=>?_⟩
  refine zaO (K:=K) (a:=r.ls) (xs:=xs) (fun i τ H'=>∃ v1 v2 ys,τ=[v1,v2]∧zan H H'∧H' D=some (.lst ys)∧zcp K H' ((v.ss.take i).map ziw) ys∧Tps H' ys) ⟨none,none,[],rfl,zan.new hD,zab,rfl,Tps.nil⟩ ?_ ?_ ?_
  ·rintro i τ H' _ ⟨v1,v2,ys,rfl,sm,hy,hd,tp⟩
   exact SqL.of (sm _ _ h5)
  ·rintro i x τ H' hx ⟨v1,v2,ys,rfl,sm,hy,hd,tp⟩
   obtain⟨⟨o,t⟩,hq,dq⟩:=zii h6 hx
   obtain⟨q,rfl,h1⟩:=zkZ (sm.dt dq)
   have hyl:ys.length≤v.ss.length:=by rw[← hd.length,List.length_map,List.length_take];exact Nat.min_le_right _ _
   refine⟨q,_,rfl,h1,rfl,_,_,rfl,_,_,rfl,rfl,?_⟩
   dsimp only[zf2]
   rw[if_pos rfl]
   refine⟨_,rfl,_,rfl,(by show 2≤sizeLine;decide),fun z nz=>⟨ys,by rw[zaf (zam hy nz)];exact hy,by rw[sizeLine_eq];omega,_,_,_,rfl,?_,zab,?_,?_⟩⟩
   ·intro b u e
    rw[zaf (zam e hD)]
    exact(sm.trans (zan.new nz)) b u e
   ·have s3:zan H' (upd H' z (.tup [.str o,.str t])):=zan.new nz
    have hz:SqT K (upd H' z (.tup [.str o,.str t])) z [.str o,.str t]:=SqT.of zab
    have hy3:=s3 _ _ hy
    generalize upd H' z (.tup [.str o,.str t])=H3 at s3 hz hy3 ⊢
    have tk:Tk H3 (upd H3 D (.lst (ys++[.ref z]))):=Tk.upd hy3 rfl
    rw[zaS hq,List.map_append]
    exact zcp.snoc (ziz (tk.sqT hz)) (tk.dts (zaF (fun _=>rfl) _) (s3.dts hd))
   ·have s3:zan H' (upd H' z (.tup [.str o,.str t])):=zan.new nz
    have hz:upd H' z (.tup [.str o,.str t]) z=some (.tup [.str o,.str t]):=zab
    have hy3:=s3 _ _ hy
    generalize upd H' z (.tup [.str o,.str t])=H3 at s3 hz hy3 ⊢
    exact((tp.tk (Tk.of s3)).snoc hz).tk (Tk.upd hy3 rfl)
  ·rintro τ H' ⟨v1,v2,ys,rfl,sm,hy,hd,tp⟩
   rw[← hl,List.take_length] at hd
   exact k D H' ys sm hD hy hd tp
theorem zjB (T:Tx K mg a):zhb P w K mg base CX0 1 a.Net "mosts" ["self"] [] (ziF K a.Net fun v=>v.mm.map zix):=T.m_Net_mosts.cal fun f fd F=>by
 refine F.ok zfF (fun vs H Q E h=>?_) (fun cdv A outer s H vs Q E hr h=>?_)
 ·obtain⟨p,r,v,rfl,_⟩:=h
  rfl
 ·obtain⟨p,r,v,rfl,N,hk,k⟩:=h
  obtain⟨dx,hp⟩:=N.ex
  obtain⟨xs,h5,h6⟩:=N.hm
  have hl:v.mm.length=xs.length:=by rw[← h6.length,List.length_map]
  dsimp only at hk
  rw[List.length_map] at hk
  refine⟨_,(zaj (zaA (zaV (N:=["one","other","number"]) (cap:=[none,none,none]) rfl (za6 (osc:=zah zcD) (XN:=["self"]) rfl rfl (by decide +kernel)) (zbc (zbz (pv 0) rfl)) (fun cl C s H fp pins=>(zc5 (K:=K) (n:=3) rfl rfl (zaz (zas (i:=0) (show(["one","other","number"]:List Str).Nodup by decide +kernel) rfl (by first|exact Or.inl rfl|exact Or.inr rfl)) (zaz (zas (i:=1) (show(["one","other","number"]:List Str).Nodup by decide +kernel) rfl (by first|exact Or.inl rfl|exact Or.inr rfl)) (zaz (zas (i:=2) (show(["one","other","number"]:List Str).Nodup by decide +kernel) rfl (by first|exact Or.inl rfl|exact Or.inr rfl)) zb9))))) (fun cl C s H fp pins=>zaT) (fun cl C s H fp pins=>(zbn (zaa (pv 0) (zaa (pv 1) (zaa (pv 2) zae)))))))),?_⟩
  refine⟨_,rfl,p,a.Net,dx,_,_,rfl,hp,T.c_Net,T.na_Net_most_bounds,zeU,r.lm,rfl,⟨_,SqL.of h5⟩,fun D hD=>?_⟩
  refine zaO (K:=K) (a:=r.lm) (xs:=xs) (fun i τ H'=>∃ v1 v2 v3 ys,τ=[v1,v2,v3]∧zan H H'∧H' D=some (.lst ys)∧zcp K H' ((v.mm.take i).map zix) ys∧Tps H' ys) ⟨none,none,none,[],rfl,zan.new hD,zab,rfl,Tps.nil⟩ ?_ ?_ ?_
  ·rintro i τ H' _ ⟨v1,v2,v3,ys,rfl,sm,hy,hd,tp⟩
   exact SqL.of (sm _ _ h5)
  ·rintro i x τ H' hx ⟨v1,v2,v3,ys,rfl,sm,hy,hd,tp⟩
   obtain⟨⟨o,t,n⟩,hq,dq⟩:=zii h6 hx
   obtain⟨q,rfl,h1⟩:=zk0 (sm.dt dq)
   have hyl:ys.length≤v.mm.length:=by rw[← hd.length,List.length_map,List.length_take];exact Nat.min_le_right _ _
   refine⟨q,_,rfl,h1,rfl,_,_,rfl,_,_,rfl,_,_,rfl,rfl,?_⟩
   dsimp only[zf2]
   rw[if_pos rfl]
   refine⟨_,rfl,_,rfl,_,rfl,(by show 3≤sizeLine;decide),fun z nz=>⟨ys,by rw[zaf (zam hy nz)];exact hy,by rw[sizeLine_eq];omega,_,_,_,_,rfl,?_,zab,?_,?_⟩⟩
   ·intro b u e
    rw[zaf (zam e hD)]
    exact(sm.trans (zan.new nz)) b u e
   ·have s3:zan H' (upd H' z (.tup [.str o,.str t,.int n])):=zan.new nz
    have hz:SqT K (upd H' z (.tup [.str o,.str t,.int n])) z [.str o,.str t,.int n]:=SqT.of zab
    have hy3:=s3 _ _ hy
    generalize upd H' z (.tup [.str o,.str t,.int n])=H3 at s3 hz hy3 ⊢
    have tk:Tk H3 (upd H3 D (.lst (ys++[.ref z]))):=Tk.upd hy3 rfl
    rw[zaS hq,List.map_append]
    exact zcp.snoc (ziA (tk.sqT hz)) (tk.dts (zaF (fun _=>rfl) _) (s3.dts hd))
   ·have s3:zan H' (upd H' z (.tup [.str o,.str t,.int n])):=zan.new nz
    have hz:upd H' z (.tup [.str o,.str t,.int n]) z=some (.tup [.str o,.str t,.int n]):=zab
    have hy3:=s3 _ _ hy
    generalize upd H' z (.tup [.str o,.str t,.int n])=H3 at s3 hz hy3 ⊢
    exact((tp.tk (Tk.of s3)).snoc hz).tk (Tk.upd hy3 rfl)
  ·rintro τ H' ⟨v1,v2,v3,ys,rfl,sm,hy,hd,tp⟩
   rw[← hl,List.take_length] at hd
   exact k D H' ys sm hD hy hd tp
theorem ziG (T:Tx K mg a):zhb P w K mg base CX0 1 a.Net "arrows" ["self"] [] (ziF K a.Net fun v=>v.arr.map arD):=T.m_Net_arrows.cal fun f fd F=>by
 refine F.ok zeS (fun vs H Q E h=>?_) (fun cdv A outer s H vs Q E hr h=>?_)
 ·obtain⟨p,r,v,rfl,_⟩:=h
  rfl
 ·obtain⟨p,r,v,rfl,N,hk,k⟩:=h
  obtain⟨dx,hp⟩:=N.ex
  obtain⟨avs,h2,h4⟩:=N.ha
  have hl:=h4.length
  dsimp only at hk
  rw[List.length_map] at hk
  refine⟨_,(zaj (zaA (zkI (zaV (N:=["number","arrow"]) (cap:=[none,none]) rfl (za6 (osc:=zah zcg) (XN:=["self"]) rfl rfl (by decide +kernel)) (zkJ (pe_bm0 PySem.F.plainAttrs_dict PySem.F.slot_dict_items PySem.F.type_dict_items zjm (zbz (pv 0) rfl))) (fun cl C s H fp pins=>(zc5 (K:=K) (n:=2) rfl rfl (zaz (zas (i:=0) (show(["number","arrow"]:List Str).Nodup by decide +kernel) rfl (by first|exact Or.inl rfl|exact Or.inr rfl)) (zaz (zas (i:=1) (show(["number","arrow"]:List Str).Nodup by decide +kernel) rfl (by first|exact Or.inl rfl|exact Or.inr rfl)) zb9)))) (fun cl C s H fp pins=>zaT) (fun cl C s H fp pins=>(zbn (zaa (pv 0) (zaa (zaZ (zeO (K:=K) rfl) (pv 1) zai (fun _ _=>rfl)) (zaa (zaZ (zeO (K:=K) rfl) (pv 1) zai (fun _ _=>rfl)) (zaa (zaZ (zeO (K:=K) rfl) (pv 1) zai (fun _ _=>rfl)) (zaa (zaZ (zeO (K:=K) rfl) (pv 1) zai (fun _ _=>rfl)) zae))))))))))),?_⟩
  refine⟨r.da,avs,h2,_,rfl,p,a.Net,dx,_,_,rfl,hp,T.c_Net,T.na_Net_arrows_by_number,zd2,.inr (.inr (.inl ⟨rfl,.inl ⟨_,h2⟩⟩)),r.da,avs,rfl,rfl,h2,fun w nw=>⟨w,r.da,avs,rfl,zab,by rw[zaf (zam h2 nw)];exact h2,fun o D hD=>?_⟩⟩
  have dw:r.da≠w:=zam h2 nw
  have dD:r.da≠D:=zam zab hD
  have nD:upd H w (zia w r.da) D=none:=by rw[zaf (Ne.symm dD)] at hD;exact hD
  have HD:H D=none:=by
   cases hq:H D with
   | none=>rfl
   | some u=>
    have:=(zan.new (o:=zia w r.da) nw) D u hq
    rw[nD] at this
    cases this
  refine zhh (d:=r.da) (o:=o) (kvs:=avs) (fun i τ H'=>∃ v1 v2 ys,τ=[v1,v2]∧(∀ b u,H b=some u→b≠r.da→H' b=some u)∧H' r.da=some (.frz o (.dK avs))∧H' D=some (.lst ys)∧zcp K H' ((v.arr.take i).map arD) ys∧Tps H' ys)
   ⟨none,none,[],rfl,fun b u e hb=>by rw[zaf (zam e HD),zaf hb];exact zan.new nw b u e,by rw[zaf dD];exact zab,zab,rfl,Tps.nil⟩ ?_ ?_ ?_
  ·rintro i τ H' _ ⟨v1,v2,ys,rfl,fr,hz,hy,hd,tp⟩
   exact hz
  ·rintro i ky x T' τ H' hx hT ⟨v1,v2,ys,rfl,fr,hf,hy,hd,tp⟩
   obtain⟨q,t,hq,rfl,rfl,h1⟩:=h4.get hx
   have tkH:Tk H H':=fun b u e z=>fr b u e fun w=>by subst w;rw[h2] at e;cases e;cases z
   have hyl:ys.length≤v.arr.length:=by rw[← hd.length,List.length_map,List.length_take];exact Nat.min_le_right _ _
   have s1:zan H' (upd H' T' (.tup [kV (Sum.inl q.num),.ref t])):=zan.new hT
   have h1':=s1.sqT (tkH.sqT h1)
   have hT':SqT K (upd H' T' (.tup [kV (Sum.inl q.num),.ref t])) T' [kV (Sum.inl q.num),.ref t]:=SqT.of zab
   have hy':=s1 _ _ hy
   have hf':=s1 _ _ hf
   have hd':=s1.dts hd
   have s1':=s1
   have fr':∀ b u,H b=some u→b≠r.da→upd H' T' (.tup [kV (Sum.inl q.num),.ref t]) b=some u:=fun b u e z=>s1 _ _ (fr b u e z)
   generalize upd H' T' (.tup [kV (Sum.inl q.num),.ref t])=H1 at h1' hT' hy' hf' hd' s1' fr' ⊢
   refine⟨T',_,rfl,hT',rfl,_,_,rfl,_,_,rfl,rfl,?_⟩
   dsimp only[zf2]
   rw[if_pos rfl]
   refine⟨_,rfl,_,rfl,t,arV q,_,_,rfl,rfl,h1',rfl,_,rfl,t,arV q,_,_,rfl,rfl,h1',rfl,_,rfl,t,arV q,_,_,rfl,rfl,h1',rfl,_,rfl,t,arV q,_,_,rfl,rfl,h1',rfl,(by show 5≤sizeLine;decide),fun z nz=>?_⟩
   have s3:zan H1 (upd H1 z (.tup [kV (Sum.inl q.num),.str q.one,.str q.other,.int q.span,.int q.weight])):=zan.new nz
   have hz0:upd H1 z (.tup [kV (Sum.inl q.num),.str q.one,.str q.other,.int q.span,.int q.weight]) z=some (.tup (.int q.num::arV q)):=zab
   have tp3:=(tp.tk (Tk.of s1')).tk (Tk.of s3)
   have hz:SqT K (upd H1 z (.tup [kV (Sum.inl q.num),.str q.one,.str q.other,.int q.span,.int q.weight])) z (.int q.num::arV q):=SqT.of zab
   have hy3:=s3 _ _ hy'
   have hd3:=s3.dts hd'
   have hf3:=s3 _ _ hf'
   have fr3:∀ b u,H b=some u→b≠r.da→upd H1 z (.tup [kV (Sum.inl q.num),.str q.one,.str q.other,.int q.span,.int q.weight]) b=some u:=fun b u e w=>s3 _ _ (fr' b u e w)
   generalize upd H1 z (.tup [kV (Sum.inl q.num),.str q.one,.str q.other,.int q.span,.int q.weight])=H3 at hz hz0 tp3 hy3 hd3 hf3 fr3 ⊢
   have tk:Tk H3 (upd H3 D (.lst (ys++[.ref z]))):=Tk.upd hy3 rfl
   refine⟨ys,hy3,by rw[sizeLine_eq];omega,_,_,_,rfl,fun b u e w=>by rw[zaf (zam e HD)];exact fr3 b u e w,by rw[zaf dD];exact hf3,zab,?_,(tp3.snoc hz0).tk tk⟩
   rw[zaS hq,List.map_append]
   exact zcp.snoc (dt_ar (tk.sqT hz)) (tk.dts (zaF (fun _=>rfl) _) hd3)
  ·rintro τ H' ⟨v1,v2,ys,rfl,fr,hf,hy,hd,tp⟩
   rw[← hl,List.take_length] at hd
   refine⟨o,hf,?_⟩
   have tk:Tk H' (upd H' r.da (.dK avs)):=Tk.upd hf rfl
   refine k D _ ys (fun b u e=>?_) HD (by rw[zaf (Ne.symm dD)];exact hy) (tk.dts (zaF (fun _=>rfl) _) hd) (tp.tk tk)
   by_cases hb:b=r.da
   ·subst hb
    rw[h2] at e;cases e
    exact zab
   ·rw[zaf hb]
    exact fr b u e hb
end
end K05
namespace K05
open PySem L2
def cl (s:Str):List Nat:=s.cps.toList
theorem zfJ (s:Str):(cl s).length=s.length:=by simp[cl,Str.length]
theorem cl_inj {x y:Str} (h:cl x=cl y):x=y:=PyProof.Rows.str_of_list h
def tn (n:Int):Str:=Str.ofString (toString n)
theorem ziH (m:Nat):cl (tn (m:Int))=(Nat.toDigits 10 m).map Char.toNat:=PySem.W.KIN.signs_num m
theorem zjC {m:Nat}{c:Nat} (h:c∈(Nat.toDigits 10 m).map Char.toNat):48≤c∧c≤57:=by
 obtain⟨ch,hch,rfl⟩:=List.mem_map.mp h
 have r:=Nat.isDigit_of_mem_toDigits (by decide) (by decide) hch
 unfold Char.isDigit at r
 rw[Bool.and_eq_true,decide_eq_true_iff,decide_eq_true_iff] at r
 exact⟨r.1,r.2⟩
theorem ziI {n:Int} (h:0≤n):∀ c∈cl (tn n),48≤c∧c≤57:=by
 obtain⟨m,rfl⟩:=Int.eq_ofNat_of_zero_le h
 intro c hc
 rw[ziH] at hc
 exact zjC hc
theorem ziJ {n:Int} (h:0≤n) (h7:n<10000000):1≤(tn n).length∧(tn n).length≤7:=by
 obtain⟨m,rfl⟩:=Int.eq_ofNat_of_zero_le h
 rw[← zfJ,ziH,List.length_map]
 exact⟨PyProof.Rows.tDigits_len_ge 10 m,PyProof.Rows.digits10_le (by decide) (by omega)⟩
theorem zjD:∀ {m:Nat},m≠0→((Nat.toDigits 10 m).map Char.toNat).head?≠some 48:=by
 intro m
 induction m using Nat.strongRecOn with
 | _ m ih=>
  intro h0
  by_cases h:m<10
  ·rw[Nat.toDigits_of_lt_base h]
   revert h0
   exact(by decide:∀ d:Nat,d<10→d≠0→(([Nat.digitChar d].map Char.toNat).head?≠some 48)) m h
  ·have hm:m % 10<10:=Nat.mod_lt m (by decide)
   have t:Nat.toDigits 10 (m / 10)++Nat.toDigits 10 (m % 10)=Nat.toDigits 10 (10 * (m / 10) + m % 10):=Nat.toDigits_append_toDigits (by decide) (by omega) hm
   rw[Nat.div_add_mod] at t
   rw[← t,List.map_append,List.head?_append]
   have z:=ih (m / 10) (by omega) (by omega)
   cases e:((Nat.toDigits 10 (m / 10)).map Char.toNat).head? with
   | none=>
    have:=PyProof.Rows.tDigits_len_ge 10 (m / 10)
    rw[List.head?_eq_none_iff,List.map_eq_nil_iff] at e
    rw[e] at this
    exact absurd this (by decide)
   | some c=>
    rw[e] at z
    exact z
theorem zk3 {n:Int} (h:0≤n) (h0:n≠0):∃ c,(cl (tn n))[0]?=some c∧c≠48:=by
 obtain⟨m,rfl⟩:=Int.eq_ofNat_of_zero_le h
 have z:=zjD (m:=m) (by omega)
 rw[ziH,← List.head?_eq_getElem?]
 cases e:((Nat.toDigits 10 m).map Char.toNat).head? with
 | none=>
  have:=PyProof.Rows.tDigits_len_ge 10 m
  rw[List.head?_eq_none_iff,List.map_eq_nil_iff] at e
  rw[e] at this
  exact absurd this (by decide)
 | some c=>exact⟨c,rfl,fun z'=>z (by rw[e,z'])⟩
def figs:Str:="0123456789"
def fig (c:Nat):Bool:=!(Builtin.Str.occurrences figs ⟨#[c]⟩ 0 figs.length 1).isEmpty
theorem zkc {c:Nat} (h:48≤c∧c≤57):fig c=true:=by
 unfold fig
 rw[StrLaws.found_one]
 exact(by decide:∀ c:Nat,c<58→48≤c→decide (c∈figs.cps.toList)=true) c (by omega) h.1
theorem zbV {ws:List Str}{i:Nat}{y:V} (h:(ws.map V.str)[i]?=some y):∃ s,ws[i]?=some s∧y=.str s:=by
 rw[List.getElem?_map] at h
 cases e:ws[i]? with
 | none=>rw[e] at h;cases h
 | some s=>rw[e] at h;cases h;exact⟨s,rfl,rfl⟩
theorem zk4 {c:Nat}:fig c=true↔48≤c∧c≤57:=by
 refine⟨fun h=>?_,zkc⟩
 unfold fig at h
 rw[StrLaws.found_one] at h
 have h':c∈figs.cps.toList:=of_decide_eq_true h
 exact(by decide:∀ c∈figs.cps.toList,48≤c∧c≤57) c h'
def zgI (ds:List Nat):Nat:=ds.foldl (fun a d=>10 * a + (d - 48)) 0
theorem zfK (ds:List Nat) (d:Nat):zgI (ds++[d])=10 * zgI ds + (d - 48):=by
 unfold zgI
 rw[List.foldl_append]
 rfl
theorem zkd:∀ (ds:List Nat),(∀ c∈ds,c≤57)→∀ a,ds.foldl (fun a d=>10 * a + (d - 48)) a<(a + 1) * 10 ^ ds.length
 | [],_,a=>by show a<(a + 1) * 1;omega
 | d::ds,h,a=>by
  have h1:=h d (List.mem_cons_self ..)
  have h2:=zkd ds (fun c hc=>h c (List.mem_cons_of_mem _ hc)) (10 * a + (d - 48))
  rw[List.foldl_cons,List.length_cons,Nat.pow_succ]
  have h3:(10 * a + (d - 48) + 1) * 10 ^ ds.length≤(a + 1) * 10 * 10 ^ ds.length:=Nat.mul_le_mul_right _ (by omega)
  have e:(a + 1) * (10 ^ ds.length * 10)=(a + 1) * 10 * 10 ^ ds.length:=by rw[Nat.mul_comm (10 ^ ds.length),Nat.mul_assoc]
  omega
theorem zd3:∀ (n:Nat) (ds:List Nat),ds.length=n + 1→(∀ c∈ds,48≤c∧c≤57)→(ds.head?≠some 48∨n=0)→(Nat.toDigits 10 (zgI ds)).map Char.toNat=ds
 | 0,ds,hl,h,_=>by
  match ds,hl with
  | [d],_=>
   have hd:=h d (List.mem_cons_self ..)
   have e:zgI [d]=d - 48:=by show 10 * 0 + (d - 48)=_;omega
   rw[e,Nat.toDigits_of_lt_base (by omega)]
   exact(by decide:∀ d:Nat,d<58→48≤d→[Nat.digitChar (d - 48)].map Char.toNat=[d]) d (by omega) hd.1
 | n + 1,ds,hl,h,hh=>by
  have hne:ds≠[]:=fun z=>by rw[z] at hl;cases hl
  have e:=(List.dropLast_concat_getLast hne).symm
  have hll:ds.dropLast.length=n + 1:=by rw[List.length_dropLast,hl];rfl
  generalize hb:ds.dropLast=b at e hll
  generalize hd:ds.getLast hne=d at e
  subst e
  have hbh:b.head?≠some 48:=by
   rcases hh with hh|hh
   ·intro z
    apply hh
    cases b with
    | nil=>cases z
    | cons x b=>exact z
   ·cases hh
  have hbd:∀ c∈b,48≤c∧c≤57:=fun c hc=>h c (List.mem_append_left _ hc)
  have ih:=zd3 n b hll hbd (.inl hbh)
  have hd2:=h d (List.mem_append_right _ (List.mem_cons_self ..))
  have pos:0<zgI b:=by
   rcases Nat.eq_zero_or_pos (zgI b) with z|z
   ·rw[z] at ih
    rw[← ih] at hbh
    exact absurd (by decide) hbh
   ·exact z
  have hm:d - 48<10:=by omega
  have t:Nat.toDigits 10 (zgI b)++Nat.toDigits 10 (d - 48)=Nat.toDigits 10 (10 * zgI b + (d - 48)):=Nat.toDigits_append_toDigits (by decide) pos hm
  rw[zfK,← t,List.map_append,ih,Nat.toDigits_of_lt_base hm]
  congr 1
  exact(by decide:∀ d:Nat,d<58→48≤d→[Nat.digitChar (d - 48)].map Char.toNat=[d]) d (by omega) hd2.1
theorem zhp:∀ m:Nat,zgI ((Nat.toDigits 10 m).map Char.toNat)=m:=by
 intro m
 induction m using Nat.strongRecOn with
 | _ m ih=>
  by_cases h:m<10
  ·rw[Nat.toDigits_of_lt_base h]
   exact(by decide:∀ d:Nat,d<10→zgI ([Nat.digitChar d].map Char.toNat)=d) m h
  ·have hm:m % 10<10:=Nat.mod_lt m (by decide)
   have t:Nat.toDigits 10 (m / 10)++Nat.toDigits 10 (m % 10)=Nat.toDigits 10 (10 * (m / 10) + m % 10):=Nat.toDigits_append_toDigits (by decide) (by omega) hm
   rw[Nat.div_add_mod] at t
   rw[← t,List.map_append,Nat.toDigits_of_lt_base hm]
   show zgI ((Nat.toDigits 10 (m / 10)).map Char.toNat++[(Nat.digitChar (m % 10)).toNat])=m
   rw[zfK,ih (m / 10) (by omega),(by decide:∀ d:Nat,d<10→(Nat.digitChar d).toNat - 48=d) _ hm]
   omega
def zbx (w:Str):Bool:=decide (1≤w.length) && decide (w.length≤7) && (cl w).all fig && (decide (w=Str.ofString "0") || !decide ((cl w)[0]?=some 48))
def nv (w:Str):Int:=(zgI (cl w):Nat)
theorem zjE {w:Str} (h:zbx w=true):w=tn (nv w)∧0≤nv w∧nv w<10000000:=by
 unfold zbx at h
 rw[Bool.and_eq_true,Bool.and_eq_true,Bool.and_eq_true,decide_eq_true_iff,decide_eq_true_iff,List.all_eq_true,Bool.or_eq_true,decide_eq_true_iff,Bool.not_eq_true',decide_eq_false_iff_not] at h
 obtain⟨⟨⟨h1,h7⟩,hf⟩,hz⟩:=h
 have hd:∀ c∈cl w,48≤c∧c≤57:=fun c hc=>zk4.mp (hf c hc)
 rw[← zfJ] at h1 h7
 have lt:=zkd (cl w) (fun c hc=>(hd c hc).2) 0
 have p:10 ^ (cl w).length≤10 ^ 7:=Nat.pow_le_pow_right (by decide) h7
 refine⟨cl_inj ?_,by unfold nv;omega,?_⟩
 ·rw[show nv w=((zgI (cl w):Nat):Int) from rfl,ziH]
  refine(zd3 ((cl w).length - 1) (cl w) (by omega) hd ?_).symm
  rcases hz with z|z
  ·right
   rw[z]
   rfl
  ·left
   rw[List.head?_eq_getElem?]
   exact z
 ·have e:nv w=((List.foldl (fun a d=>10 * a + (d - 48)) 0 (cl w):Nat):Int):=rfl
  rw[e]
  have:List.foldl (fun a d=>10 * a + (d - 48)) 0 (cl w)<10000000:=Nat.lt_of_lt_of_le lt (by omega)
  omega
theorem nv_tn {n:Int} (h:0≤n):nv (tn n)=n:=by
 obtain⟨m,rfl⟩:=Int.eq_ofNat_of_zero_le h
 unfold nv
 rw[ziH,zhp]
theorem zjF {n:Int} (h:0≤n) (h7:n<10000000):zbx (tn n)=true:=by
 obtain⟨l1,l7⟩:=ziJ h h7
 unfold zbx
 rw[Bool.and_eq_true,Bool.and_eq_true,Bool.and_eq_true,decide_eq_true_iff,decide_eq_true_iff,List.all_eq_true,Bool.or_eq_true,decide_eq_true_iff,Bool.not_eq_true',decide_eq_false_iff_not]
 refine⟨⟨⟨l1,l7⟩,fun c hc=>zkc (ziI h c hc)⟩,?_⟩
 by_cases h0:n=0
 ·left
  rw[h0]
  rfl
 ·right
  obtain⟨c,hc,c48⟩:=zk3 h h0
  rw[hc]
  exact fun z=>c48 (Option.some.inj z)
section
variable {P:Program}{w:World}{K:PySem.W.Frag}{mg:Str→Option Value}{base:Heap}{a:Adr}
def spWN:Sp:=fun vs H Q _=>∃ w:Str,vs=[.str w]∧w.length≤1000∧∀ H',zan H H'→Q (.bl (zbx w)) H'
theorem zco (T:Tx K mg a):Cal P w K mg base CX0 1 "is_written_number" ["word"] [] spWN:=T.d_is_written_number.cal fun f fd F=>by
 refine F.ok zcn (fun vs H Q E h=>?_) (fun cdv A outer s H vs Q E hr h=>?_)
 ·obtain⟨n,rfl,_⟩:=h
  rfl
 ·obtain⟨n,rfl,hn,k⟩:=h
  have hz:n.length≤sizeLine:=by rw[sizeLine_eq];omega
  have no:zbx n=false→Q (.bl false) H:=fun e=>by
   have:=k H (zan.refl H)
   rw[e] at this
   exact this
  refine⟨_,(zac (za5 (PW.pt (zfa (zav zgY (zaq zbA rfl T.n_len zaU (zaa (pv 0) zae)) zai (zaB _)) (zfa (zav zkn (zaq zbA rfl T.n_len zaU (zaa (pv 0) zae)) (zbG rfl T.k_MOST_FIGURES) (zaB _)) (ze9 (zcI (zbI (zaq zdU rfl T.n_all zic (zaa (zaV (N:=["sign"]) (cap:=[none]) rfl (za6 (osc:=zah zba) (XN:=["word"]) rfl rfl (by decide +kernel)) (zj5 (pv 0)) (fun cl C s H fp pins=>(zas (i:=0) (show(["sign"]:List Str).Nodup by decide +kernel) rfl (by first|exact Or.inl rfl|exact Or.inr rfl))) (fun cl C s H fp pins=>zaT) (fun cl C s H fp pins=>(zcb zfc (pv 0) (zh5 rfl T.k_FIGURES) (by with_unfolding_all rfl)))) zae)))))))) (zaj (zaA zgW)) zat)
   (zaj (zaA (pe_or (zcb zdo (pv 0) zap (zaB _)) (zgp (zcb op_ne (zaZ zj2 (pv 0) zai (fun _ _=>rfl)) zap (zaB _))))))),?_⟩
  refine⟨_,rfl,_,rfl,hz,_,_,rfl,rfl,_,rfl,zb6 (fun c1=>?_) (fun c1=>?_)⟩
  ·have c1:=of_decide_eq_true c1
   exact zgx (no (by unfold zbx;rw[decide_eq_false (show ¬ 1≤n.length by omega)];rfl))
  have c1:=of_decide_eq_false c1
  refine⟨_,rfl,_,rfl,hz,_,_,rfl,rfl,_,rfl,zb6 (fun c2=>?_) (fun c2=>?_)⟩
  ·have c2:=of_decide_eq_true c2
   exact no (by unfold zbx;rw[decide_eq_false (show ¬ n.length≤7 by omega),Bool.and_false];rfl)
  have c2:=of_decide_eq_false c2
  have i0:zbx n=((cl n).all fig && (decide (n=Str.ofString "0") || !decide ((cl n)[0]?=some 48))):=by
   unfold zbx
   rw[decide_eq_true (show 1≤n.length by omega),decide_eq_true (show n.length≤7 by omega)]
   rfl
  refine⟨_,rfl,n,rfl,fun D hD=>?_⟩
  refine zgD (x:=n) (fun i τ H'=>∃ v,τ=[v]∧zan H H'∧H' D=some (.lst ((((cl n).take i).map fig).map V.bl))) ⟨none,rfl,zan.new hD,zab⟩ ?_ ?_
  ·rintro i c τ H' hc ⟨v,rfl,sm,hl⟩
   have hc':(cl n)[i]?=some c:=by
    show n.cps.toList[i]?=_
    rw[Array.getElem?_toList]
    exact hc
   dsimp only[zaQ,zf2]
   rw[if_pos rfl]
   refine⟨_,rfl,_,_,rfl,rfl,_,hl,by rw[List.length_map,List.length_map,List.length_take,zfJ,sizeLine_eq];omega,_,rfl,zaD hD sm,?_⟩
   rw[zab,zaS hc',List.map_append,List.map_append]
   rfl
  ·rintro τ H' ⟨v,rfl,sm,hl⟩
   rw[List.take_of_length_le (show(cl n).length≤n.cps.size by rw[zfJ];exact Nat.le_refl _)] at hl
   refine⟨D,_,rfl,SqL.of hl,_,rfl,?_⟩
   have e:((cl n).map fig).all id=(cl n).all fig:=by rw[List.all_map];rfl
   rw[e]
   have k':=k H' sm
   rw[i0] at k'
   refine zb6 (fun c=>?_) (fun c=>?_)
   ·have c:(cl n).all fig=false:=by simpa using c
    rw[c] at k'
    exact k'
   ·have c:(cl n).all fig=true:=by simpa using c
    rw[c,Bool.true_and] at k'
    refine⟨_,rfl,rfl,_,rfl,?_⟩
    refine zb6 (fun z=>?_) (fun z=>?_)
    ·have z:n=Str.ofString "0":=by simpa using z
     rw[decide_eq_true z,Bool.true_or] at k'
     exact k'
    ·have z:¬ n=Str.ofString "0":=by simpa using z
     rw[decide_eq_false z,Bool.false_or] at k'
     cases hc:(cl n)[0]? with
     | none=>
      have:=List.getElem?_eq_none_iff.mp hc
      rw[zfJ] at this
      omega
     | some c=>
     refine⟨_,rfl,n,_,c,rfl,rfl,hz,?_,rfl,?_⟩
     ·rw[zdh (Int.le_refl 0)]
      exact hc
     ·rw[hc] at k'
      have e2:(!decide (V.str (⟨#[c]⟩:Str)=V.str (Str.ofString "0")))=!decide ((some c:Option Nat)=some 48):=by
       rw[show Str.ofString "0"=(⟨#[48]⟩:Str) from by decide]
       by_cases q:c=48
       ·subst q;rfl
       ·rw[decide_eq_false (fun z=>q (Option.some.inj z)),decide_eq_false (fun z=>q (by injection z with z;injection z with z;injection z with z;injection z))]
      rw[e2]
      exact k'
end
end K05
namespace K05
open PySem L2
theorem zgJ (n i:Nat):HT.sIx n 0 (some (i:Int))=min i n:=HT.zcw _ _ i
theorem zcj (xs:List V) (i:Nat):zdu xs (some (i:Int)) none=xs.drop i:=by
 unfold zdu
 rw[HT.zgu,zgJ]
 by_cases h:i≤xs.length
 ·rw[Nat.min_eq_left h]
  exact List.take_of_length_le (by rw[List.length_drop];exact Nat.le_refl _)
 ·rw[Nat.min_eq_right (by omega),Nat.sub_self,List.take_zero]
  exact(List.drop_of_length_le (by omega)).symm
theorem zbP {H H':Hp}{x:Addr} (s:zan H H') (n:H' x=none):H x=none:=by
 cases e:H x with
 | none=>rfl
 | some o=>exact absurd (s _ _ e) (by rw[n];intro z;cases z)
def zbE (k:Nat) (los:List Int) (ws:List Str):Bool:=decide (k≤ws.length) && decide (ws.length≤k + los.length) && ws.all zbx
section
variable {P:Program}{w:World}{K:PySem.W.Frag}{mg:Str→Option Value}{base:Heap}{a:Adr}
theorem zd4 (T:Tx K mg a):zh3 P w K mg base CX0 1 a.NoLine "NoLine" ["self","number"] (zgf a.NoLine "number"):=T.xi_NoLine.cal fun f fd F=>by
 refine F.ok zcQ (fun vs H Q E h=>?_) (fun cdv A outer s H vs Q E hr h=>?_)
 ·obtain⟨x,t,y,rfl,_⟩:=h
  rfl
 ·obtain⟨x,t,y,rfl,hx,k⟩:=h
  refine⟨_,(zaj (zh0 (pv 0) (pv 1) rfl)),?_⟩
  exact⟨_,rfl,_,rfl,x,a.NoLine,t,rfl,hx,T.xs_NoLine_number,fun dx nd=>k dx nd⟩
theorem zck {E:XK}{H:Hp}{i:V} (k:∀ H' dx,zan H H'→H' dx=some (.xd [("number",i)])→E (.ref a.NoLine) (some dx) H') :
  ([i]:List V).length≤sizeLine∧∀ x t',H x=none→zgf a.NoLine "number" (.ref x::([i]++[])) (upd H x (zf4 a.NoLine t' x none)) (fun v H2=>v=.non∧∃ dx,H2 x=some (zf4 a.NoLine t' x dx)∧E (.ref a.NoLine) dx (del H2 x)) E:=by
 refine⟨by show 1≤sizeLine;decide,fun x t hx=>⟨x,t,_,rfl,zab,fun d nd=>⟨rfl,some d,zab,?_⟩⟩⟩
 have xd:d≠x:=fun z=>by rw[z,zab] at nd;cases nd
 have e:del (upd (upd (upd H x (zf4 a.NoLine t x none)) d (.xd [("number",i)])) x (zf4 a.NoLine t x (some d))) x=upd H d (.xd [("number",i)]):=by
  funext b
  unfold del
  by_cases h1:b=x
  ·subst h1
   rw[if_pos rfl,zaf (Ne.symm xd),hx]
  ·rw[if_neg h1,zaf h1]
   by_cases h2:b=d
   ·subst h2;rw[zab,zab]
   ·rw[zaf h2,zaf h1,zaf h2]
 rw[e]
 have nd':H d=none:=by rw[zaf xd] at nd;exact nd
 exact k _ d (zan.new nd') zab
def spNums (K:PySem.W.Frag) (a:Adr):Sp:=fun vs H Q E=>∃ p,∃ ws:List Str,∃ k:Nat,∃ t,∃ los:List Int,vs=[.ref p,.int (k:Int),.ref t]∧H p=some (.lst (ws.map V.str))∧(∀ n∈ws,n.length≤1000)∧SqT K H t (los.map V.int)∧ws.length≤1000∧los.length≤10 ∧
 (zbE k los ws=true→∀ l H',zan H H'→H l=none→H' l=some (.lst ((ws.map nv++los.drop (ws.length - k)).map V.int))→Q (.ref l) H') ∧
 (zbE k los ws=false→∀ H' dx,zan H H'→H' dx=some (.xd [("number",.int 0)])→E (.ref a.NoLine) (some dx) H')
theorem zeX (T:Tx K mg a):Cal P w K mg base (CXe P w) 3 "numbers_of" ["words","needed","left_out"] [] (spNums K a):=T.d_numbers_of.cal fun f fd F=>by
 have c_is_written_number:=zco (P:=P) (w:=w) (base:=base) T
 have x_NoLine:=zd4 (P:=P) (w:=w) (base:=base) T
 refine F.okX zcR (fun vs H Q E h=>?_) (fun cdv A outer s H vs Q E hr h=>?_)
 ·obtain⟨p,ns,k,t,los,rfl,_⟩:=h
  rfl
 ·obtain⟨p,ws,k,t,los,rfl,hp,hn,ht,b3,b4,q,er⟩:=h
  have ll:((los.map V.int).length:Int)=los.length:=by rw[List.length_map]
  have ln:((ws.map V.str).length:Int)=ws.length:=by rw[List.length_map]
  have bad:zbE k los ws=false→∀ G,zan H G→∀ H' dx,zan G H'→H' dx=some (.xd [("number",.int 0)])→E (.ref a.NoLine) (some dx) H':=fun e G sg H' dx s1 hd=>er e H' dx (sg.trans s1) hd
  refine⟨_,(zac (zaw (i:=3) zcR.nd rfl (by first|exact Or.inl rfl|exact Or.inr rfl) (zao zdB (zao zbJ (pv 1) (zaq zar rfl T.n_len zaU (zaa (pv 2) zae))) (zaq zar rfl T.n_len zaU (zaa (pv 0) zae))))
   (zac (za5 (PW.pt (zfa (zav zgY (pv 3) zai (zaB _)) (zfa (zav zkn (pv 3) (zaq zar rfl T.n_len zaU (zaa (pv 2) zae)) (zaB _)) (ze9 (zcI (zbI (zaq zdU rfl T.n_all zic (zaa (zaV (N:=["word"]) (cap:=[none]) rfl (za6 (osc:=zah zbD) (XN:=["words","needed","left_out","missing"]) rfl rfl (by decide +kernel)) (zbc (pv 0)) (fun cl C s H fp pins=>(zas (i:=0) (show(["word"]:List Str).Nodup by decide +kernel) rfl (by first|exact Or.inl rfl|exact Or.inr rfl))) (fun cl C s H fp pins=>zaT) (fun cl C s H fp pins=>(zaR c_is_written_number (hr.mono (by decide)) rfl (zaa (pv 0) zae)))) zae)))))))) (zaj (zcN zaE x_NoLine (hr.mono (by decide)) rfl (zaa zai zae))) zat)
   (zaj (zaA (zao zbb (zaV (N:=["word"]) (cap:=[none]) rfl (za6 (osc:=zah zbD) (XN:=["words","needed","left_out","missing"]) rfl rfl (by decide +kernel)) (zbc (pv 0)) (fun cl C s H fp pins=>(zas (i:=0) (show(["word"]:List Str).Nodup by decide +kernel) rfl (by first|exact Or.inl rfl|exact Or.inr rfl))) (fun cl C s H fp pins=>zaT) (fun cl C s H fp pins=>(zbs zio rfl T.n_int zj6 (zaa (pv 0) zae)))) (zbs zfk rfl T.n_list zib (zaa (zaY zkQ (pv 2) (za9 (zao zdB (zaq zar rfl T.n_len zaU (zaa (pv 2) zae)) (pv 3))) zbt) zae))))))),?_⟩
  refine⟨_,rfl,_,rfl,t,_,rfl,.inr ht,_,_,rfl,rfl,_,rfl,p,_,rfl,.inl (SqL.of hp),_,_,rfl,rfl,?_⟩
  dsimp only[zaQ]
  rw[ll,ln]
  refine⟨_,rfl,_,_,rfl,rfl,_,rfl,zb6 (fun c=>?_) (fun c1=>?_)⟩
  ·have c:=of_decide_eq_true c
   exact zgx (zck (bad (by unfold zbE;rw[decide_eq_false (show ¬ ws.length≤k + los.length by omega),Bool.and_false];rfl) H (zan.refl _)))
  have c1:=of_decide_eq_false c1
  refine⟨_,rfl,_,rfl,t,_,rfl,.inr ht,_,_,rfl,rfl,_,rfl,zb6 (fun c=>?_) (fun c2=>?_)⟩
  ·have c:=of_decide_eq_true c
   rw[ll] at c
   exact zck (bad (by unfold zbE;rw[decide_eq_false (show ¬ k≤ws.length by omega)];rfl) H (zan.refl _))
  have c2:=of_decide_eq_false c2
  rw[ll] at c2
  have n0:zbE k los ws=ws.all zbx:=by
   unfold zbE
   rw[decide_eq_true (show k≤ws.length by omega),decide_eq_true (show ws.length≤k + los.length by omega)]
   rfl
  refine⟨_,rfl,p,rfl,⟨_,SqL.of hp⟩,fun D hD=>?_⟩
  refine zaO (K:=K) (a:=p) (xs:=ws.map V.str) (fun j τ G=>∃ v1,τ=[v1]∧zan H G∧G D=some (.lst (((ws.take j).map zbx).map V.bl))) ⟨none,rfl,zan.new hD,zab⟩ ?_ ?_ ?_
  ·rintro j τ G _ ⟨_,rfl,sg,_⟩
   exact SqL.of (sg _ _ hp)
  ·rintro j y τ G hy ⟨v1,rfl,sg,hG⟩
   obtain⟨z,hz,rfl⟩:=zbV hy
   have hj:j<ws.length:=(List.getElem?_eq_some_iff.mp hz).1
   dsimp only[zaQ,zf2]
   rw[if_pos rfl]
   refine⟨_,rfl,z,rfl,hn z (List.mem_of_getElem? hz),fun G1 sG1=>?_⟩
   refine⟨_,sG1 _ _ hG,by rw[List.length_map,List.length_map,List.length_take,sizeLine_eq];omega,_,rfl,zaD hD (sg.trans sG1),?_⟩
   rw[zab,zaS hz,List.map_append,List.map_append]
   rfl
  rintro τ G ⟨v1,rfl,sg,hG⟩
  rw[List.length_map,List.take_length] at hG
  refine⟨D,_,rfl,SqL.of hG,_,rfl,?_⟩
  have e:((ws.map zbx).all id)=ws.all zbx:=by rw[List.all_map];rfl
  rw[e]
  refine zb6 (fun c=>?_) (fun c=>?_)
  ·have c:ws.all zbx=false:=by simpa using c
   exact zck (bad (n0.trans c) G sg)
  have c:ws.all zbx=true:=by simpa using c
  have num:∀ z∈ws,zbx z=true:=List.all_eq_true.mp c
  refine⟨_,rfl,p,rfl,⟨_,SqL.of (sg _ _ hp)⟩,fun D2 hD2=>?_⟩
  refine zaO (K:=K) (a:=p) (xs:=ws.map V.str) (fun j τ G'=>∃ v1,τ=[v1]∧zan G G'∧G' D2=some (.lst (((ws.take j).map nv).map V.int))) ⟨none,rfl,zan.new hD2,zab⟩ ?_ ?_ ?_
  ·rintro j τ G' _ ⟨_,rfl,sg',_⟩
   exact SqL.of (sg' _ _ (sg _ _ hp))
  ·rintro j y τ G' hy ⟨v1,rfl,sg',hG'⟩
   obtain⟨z,hz,rfl⟩:=zbV hy
   have hj:j<ws.length:=(List.getElem?_eq_some_iff.mp hz).1
   obtain⟨e1,m0,m7⟩:=zjE (num z (List.mem_of_getElem? hz))
   dsimp only[zaQ,zf2]
   rw[if_pos rfl]
   refine⟨_,rfl,nv z,congrArg (fun x=>[V.str x]) e1,m0,by omega,?_⟩
   refine⟨_,hG',by rw[List.length_map,List.length_map,List.length_take,sizeLine_eq];omega,_,rfl,zaD hD2 sg',?_⟩
   rw[zab,zaS hz,List.map_append,List.map_append]
   rfl
  rintro τ G' ⟨v1',rfl,sg',hG'⟩
  rw[List.length_map,List.take_length] at hG'
  have s2:=sg.trans sg'
  have ht2:=(Tk.of s2).sqT ht
  have q:=q (n0.trans c)
  have fin:∀ (q1:Addr) (G1:Hp),zan G' G1→SqT K G1 q1 ((los.drop (ws.length - k)).map V.int)→_:=fun q1 G1 s3 h1=>show ∃ p ys,[V.ref q1]=[.ref p]∧(SqL K G1 p ys∨SqT K G1 p ys)∧∀ l,G1 l=none→∃ l' b xs zs,V.ref D2=.ref l'∧V.ref l=.ref b∧(upd G1 l (.lst ys)) l'=some (.lst xs)∧(upd G1 l (.lst ys)) b=some (.lst zs)∧xs.length + zs.length≤sizeLine∧∀ p,(upd G1 l (.lst ys)) p=none→Q (.ref p) (upd (upd G1 l (.lst ys)) p (.lst (xs++zs))) from⟨q1,_,rfl,.inr h1,fun l nl=>⟨D2,l,_,_,rfl,rfl,(zan.new nl) _ _ (s3 _ _ hG'),zab,by rw[List.length_map,List.length_map,List.length_map,List.length_drop,sizeLine_eq];omega,fun r nr=>q r _ (((s2.trans s3).trans (zan.new nl)).trans (zan.new nr)) (zbP ((s2.trans s3).trans (zan.new nl)) nr) (by rw[zab,List.map_append])⟩⟩
  have eL:(los.length:Int) - ((k:Int) + los.length - ws.length)=((ws.length - k:Nat):Int):=by omega
  refine⟨_,rfl,_,rfl,t,_,rfl,.inr ht2,_,rfl,_,_,rfl,rfl,_,rfl,t,_,rfl,ht2,fun hw=>?_,fun hw q1 nq1=>?_⟩
  ·skip
   rw[ll,eL,zgJ,List.length_map] at hw
   refine fin t G' (zan.refl _) ?_
   rw[show los.drop (ws.length - k)=los by
    by_cases z:ws.length - k=0
    ·rw[z];rfl
    ·have:los.length=0:=by have:=hw.1;omega
     rw[List.eq_nil_of_length_eq_zero this];simp]
   exact ht2
  ·rw[ll,eL,zcj,← List.map_drop]
   exact fin q1 _ (zan.new nq1) (SqT.of zab)
end
end K05
namespace K05
open PySem L2
abbrev bk:Str:=Str.ofString " "
abbrev nl:Str:=Str.ofString "\n"
abbrev kPt:Str:=Str.ofString "point"
abbrev kAr:Str:=Str.ofString "arrow"
abbrev kSm:Str:=Str.ofString "same"
abbrev kMs:Str:=Str.ofString "most"
theorem zk5:bk=⟨#[32]⟩:=by decide
theorem nl_mk:nl=⟨#[10]⟩:=by decide
def zhq (k:Str):Option (Nat×Nat×List Int):=
 if k=kPt then some (1,0,[0]) else if k=kAr then some (2,0,[1,1]) else if k=kSm then some (2,0,[]) else if k=kMs then some (2,1,[]) else none
structure Rd where
 k:Str
 ns:List Str
 xs:List Int
def look:List Str→Option Rd
 | []=>none
 | k::r=>match zhq k with
  | none=>none
  | some (nn,nd,los)=>if r.length<nn then none else if zbE nd los (r.drop nn)=true then some ⟨k,r.take nn,(r.drop nn).map nv++los.drop ((r.drop nn).length - nd)⟩ else none
def Rd.nm (q:Rd) (i:Nat):Str:=q.ns.getD i Str.empty
def Rd.nu (q:Rd) (i:Nat):Int:=q.xs.getD i 0
def Rd.err (v:zbO) (q:Rd):Option Er:=
 if q.k=kPt then zaK v.kvs (q.nm 0) (q.nu 0) else if q.k=kAr then zcu v (q.nm 0) (q.nm 1) (q.nu 0) (q.nu 1) else if q.k=kSm then lim v.kvs v.ss.length (q.nm 0) (q.nm 1) none else lim v.kvs v.mm.length (q.nm 0) (q.nm 1) (some (q.nu 0))
def Rd.put (v:zbO) (q:Rd):zbO:=
 if q.k=kPt then { v with kvs:=v.kvs++[(Sum.inr (q.nm 0),.int (q.nu 0))] } else if q.k=kAr then { v with arr:=v.arr++[⟨v.nn,q.nm 0,q.nm 1,q.nu 0,q.nu 1⟩],nn:=v.nn + 1 } else if q.k=kSm then { v with ss:=v.ss++[(q.nm 0,q.nm 1)] } else { v with mm:=v.mm++[(q.nm 0,q.nm 1,q.nu 0)] }
def zds (v:zbO) (ws:List Str):Option zbO:=match look ws with
 | none=>none
 | some q=>match q.err v with
  | none=>some (q.put v)
  | some _=>none
def zaM (v:zbO) (l:Str):Option zbO:=zds v (Txt.split l bk)
def zb3:zbO→List Str→Option zbO
 | v,[]=>some v
 | v,l::r=>match zaM v l with
  | none=>none
  | some v'=>zb3 v' r
theorem zbW:∀ (ls ms:List Str) (v:zbO),zb3 v (ls++ms)=(zb3 v ls).bind fun v'=>zb3 v' ms
 | [],ms,v=>rfl
 | l::r,ms,v=>by
  show(match zaM v l with|none=>none|some v'=>zb3 v' (r++ms))=Option.bind (match zaM v l with|none=>none|some v'=>zb3 v' r) _
  cases zaM v l with
  | none=>rfl
  | some v'=>exact zbW r ms v'
theorem ziK {ls:List Str}{l:Str}{v v1 v2:zbO} (h:zb3 v ls=some v1) (h2:zaM v1 l=some v2):zb3 v (ls++[l])=some v2:=by
 rw[zbW,h]
 show(match zaM v1 l with|none=>none|some v'=>zb3 v' [])=_
 rw[h2]
 rfl
structure zk6 (m:Nat) (v:zbO):Prop where
 k:v.kvs.length≤m
 a:v.arr.length≤m
 n:∀ q∈v.arr,q.num<v.nn
 s:v.ss.length≤m
 m:v.mm.length≤m
theorem zk7 {m:Nat}{v:zbO} (h:zk6 m v) (q:Rd):zk6 (m + 1) (q.put v):=by
 obtain⟨h1,h2,h3,h4,h5⟩:=h
 unfold Rd.put
 split
 ·exact⟨by show(_++[_]).length≤_;rw[List.length_append];exact Nat.add_le_add_right h1 1,Nat.le_succ_of_le h2,h3,Nat.le_succ_of_le h4,Nat.le_succ_of_le h5⟩
 split
 ·refine⟨Nat.le_succ_of_le h1,by show(_++[_]).length≤_;rw[List.length_append];exact Nat.add_le_add_right h2 1,fun q' hq=>?_,Nat.le_succ_of_le h4,Nat.le_succ_of_le h5⟩
  show q'.num<v.nn + 1
  rcases List.mem_append.mp hq with hq|hq
  ·have:=h3 q' hq
   omega
  ·rw[List.mem_singleton.mp hq]
   show v.nn<v.nn + 1
   omega
 split
 ·exact⟨Nat.le_succ_of_le h1,Nat.le_succ_of_le h2,h3,by show(_++[_]).length≤_;rw[List.length_append];exact Nat.add_le_add_right h4 1,Nat.le_succ_of_le h5⟩
 ·exact⟨Nat.le_succ_of_le h1,Nat.le_succ_of_le h2,h3,Nat.le_succ_of_le h4,by show(_++[_]).length≤_;rw[List.length_append];exact Nat.add_le_add_right h5 1⟩
theorem zgK {v v':zbO}{l:Str} (h:zaM v l=some v'):∃ q,look (Txt.split l bk)=some q∧q.err v=none∧v'=q.put v:=by
 unfold zaM zds at h
 split at h
 ·cases h
 ·rename_i q hq
  split at h
  ·rename_i he
   cases h
   exact⟨q,hq,he,rfl⟩
  ·cases h
theorem zjG {m:Nat}{v v':zbO}{l:Str} (h:zk6 m v) (e:zaM v l=some v'):zk6 (m + 1) v':=by
 obtain⟨q,_,_,rfl⟩:=zgK e
 exact zk7 h q
theorem zk8 {l:Str}:∀ x∈Txt.split l bk,x.length≤l.length:=by
 have e:Str.join bk (Txt.split l bk)=l:=by
  rw[zk5]
  exact StrLaws.join_split _ _
 intro x hx
 cases h:Txt.split l bk with
 | nil=>rw[h] at hx;cases hx
 | cons y r=>
  rw[h] at hx e
  have e2:=congrArg Str.length e
  rw[PyProof.Rows.len_join_cons] at e2
  have:∀ (ys:List Str),x∈ys→x.length≤(ys.map fun s:Str=>s.length).sum:=fun ys=>by
   induction ys with
   | nil=>intro h;cases h
   | cons z ys ih=>
    intro h
    rw[List.map_cons,List.sum_cons]
    rcases List.mem_cons.mp h with rfl|h
    ·omega
    ·have:=ih h
     omega
  have:=this _ hx
  omega
theorem ziL {α:Type}{f:α→Nat}{n:Nat}:∀ {l:List α},(∀ x∈l,f x≤n)→(l.map f).sum≤n * l.length
 | [],_=>by simp
 | x::l,h=>by
  have h1:=h x (List.mem_cons_self ..)
  have h2:=ziL (l:=l) fun y hy=>h y (List.mem_cons_of_mem _ hy)
  rw[List.map_cons,List.sum_cons,List.length_cons,Nat.mul_succ]
  omega
theorem zgL (c:Str) (l:List Str) (hc:c.length=1){n:Nat} (h:∀ x∈l,x.length≤n):(Txt.join c l).length≤(n + 1) * l.length:=by
 have h1:=ziL (f:=fun s:Str=>s.length) h
 cases l with
 | nil=>exact Nat.zero_le _
 | cons x r=>
  show(Builtin.Str.glued c (x::r)).length≤_
  rw[StrLaws.glued_eq_join,PyProof.Rows.len_join_cons,hc,Nat.mul_one,Nat.add_mul,List.length_cons]
  rw[List.length_cons] at h1
  omega
structure FormF (K:PySem.W.Frag) (a:Adr) (k:Str) (nn nd:Nat) (los:List Int) (t t2:Addr):Prop where
 val:zde (za2 a) (Sum.inr k)=some (.ref t)
 q1:∀ H,SqT K H t [.int (nn:Int),.int (nd:Int),.ref t2]
 q2:∀ H,SqT K H t2 (los.map V.int)
 b1:nn≤2
 b4:los.length≤2
theorem zk9 {K:PySem.W.Frag}{mg:Str→Option Value}{a:Adr} (T:Tx K mg a){k:Str}{nn nd:Nat}{los:List Int} (h:zhq k=some (nn,nd,los)):∃ t t2,FormF K a k nn nd los t t2:=by
 have ne:∀ x y:Str,¬ y=x→¬ ((Sum.inr x:Key)=Sum.inr y):=fun x y h z=>h (Sum.inr.inj z).symm
 unfold zhq at h
 split at h
 ·rename_i e
  cases h
  exact⟨_,_,by subst e;unfold za2;exact za8 rfl,T.t_LINES_0,T.t_LINES_0_2,by decide,by decide⟩
 rename_i n1
 split at h
 ·rename_i e
  cases h
  exact⟨_,_,by subst e;unfold za2;rw[zaC (ne _ _ n1)];exact za8 rfl,T.t_LINES_1,T.t_LINES_1_2,by decide,by decide⟩
 rename_i n2
 split at h
 ·rename_i e
  cases h
  exact⟨_,_,by subst e;unfold za2;rw[zaC (ne _ _ n1),zaC (ne _ _ n2)];exact za8 rfl,T.t_LINES_2,T.t_LINES_2_2,by decide,by decide⟩
 rename_i n3
 split at h
 ·rename_i e
  cases h
  exact⟨_,_,by subst e;unfold za2;rw[zaC (ne _ _ n1),zaC (ne _ _ n2),zaC (ne _ _ n3)];exact za8 rfl,T.t_LINES_3,T.t_LINES_3_2,by decide,by decide⟩
 ·cases h
theorem ziM {a:Adr}{k:Str} (h:zhq k=none):zde (za2 a) (Sum.inr k)=none:=by
 have ne:∀ x y:Str,¬ y=x→¬ ((Sum.inr x:Key)=Sum.inr y):=fun x y h z=>h (Sum.inr.inj z).symm
 unfold zhq at h
 split at h
 ·cases h
 rename_i n1
 split at h
 ·cases h
 rename_i n2
 split at h
 ·cases h
 rename_i n3
 split at h
 ·cases h
 rename_i n4
 unfold za2
 rw[zaC (ne _ _ n1),zaC (ne _ _ n2),zaC (ne _ _ n3),zaC (ne _ _ n4)]
 rfl
theorem zjH {k:Nat}{los:List Int}{ws:List Str} (h:zbE k los ws=true):(ws.map nv++los.drop (ws.length - k)).length=k + los.length:=by
 unfold zbE at h
 rw[Bool.and_eq_true,Bool.and_eq_true,decide_eq_true_iff,decide_eq_true_iff] at h
 rw[List.length_append,List.length_map,List.length_drop]
 omega
end K05
namespace K05
open PySem L2
theorem zla (x:V) (xs:List V) (n:Nat):zdu (x::xs) (some 1) (some (1 + (n:Int)))=xs.take n:=by
 unfold zdu
 have e1:HT.sIx (x::xs).length 0 (some 1)=min 1 (x::xs).length:=HT.zcw _ _ 1
 have e2:HT.sIx (x::xs).length (x::xs).length (some (1 + (n:Int)))=min (1 + n) (x::xs).length:=by
  rw[show(1:Int) + (n:Int)=((1 + n:Nat):Int) by omega]
  exact HT.zcw _ _ _
 rw[e1,e2,List.length_cons,show min 1 (xs.length + 1)=1 by omega,List.drop_one,List.tail_cons,show min (1 + n) (xs.length + 1) - 1=min n xs.length by omega]
 by_cases h:n≤xs.length
 ·rw[Nat.min_eq_left h]
 ·rw[Nat.min_eq_right (by omega),List.take_length,List.take_of_length_le (by omega)]
theorem zhu {α:Type}{xs:List α}{i:Nat}{x:α} (h:xs[i]?=some x):atI xs (i:Int)=some x:=by
 rw[zdh (by omega),show((i:Int)).toNat=i by omega]
 exact h
theorem ziN {α:Type}{xs:List α}{i:Nat}{d:α} (h:i<xs.length):xs[i]?=some (xs.getD i d):=by
 rw[List.getD_eq_getElem?_getD,List.getElem?_eq_getElem h]
 rfl
section
variable {P:Program}{w:World}{K:PySem.W.Frag}{mg:Str→Option Value}{base:Heap}{a:Adr}
def drs (a:Adr):List Addr:=[a.NoName,a.Taken,a.NoPoint,a.Alone,a.NoNumber,a.TooMany,a.NoSuch,a.NoLine]
theorem zhr {E:XK}{H:Hp} (k:∀ C dd,C∈drs a→E (.ref C) dd H):∀ er,zdm a E er H
 | .name=>k _ _ (by simp[drs])
 | .taken=>k _ _ (by simp[drs])
 | .point n=>fun dx _=>k _ _ (by simp[drs])
 | .alone=>k _ _ (by simp[drs])
 | .number=>k _ _ (by simp[drs])
 | .many=>k _ _ (by simp[drs])
 | .such i=>fun dx _=>k _ _ (by simp[drs])
def ziO (K:PySem.W.Frag) (a:Adr):Sp:=fun vs H Q E=>∃ p r v l,vs=[.ref p,.str l]∧l.length≤900∧zbw K a.Net H p r v∧zk6 1000 v ∧
 (∀ v',zaM v l=some v'→∀ x H',Kp p r H H'→zbw K a.Net H' p r v'→Q x H')∧(zaM v l=none→∀ C dd H',zan H H'→C∈drs a→E (.ref C) dd H')
set_option maxHeartbeats 1000000 in
theorem zgh (T:Tx K mg a) (Z:KD P w K a.LINES (za2 a)):Cal P w K mg base (CXe P w) 7 "put_line" ["net","line"] [] (ziO K a):=T.d_put_line.cal fun f fd F=>by
 have c_numbers_of:=zeX (P:=P) (w:=w) (base:=base) T
 have x_NoLine:=zd4 (P:=P) (w:=w) (base:=base) T
 have m_Net_put_point:=ok_put (P:=P) (w:=w) (base:=base) T
 have m_Net_put_arrow:=zjz (P:=P) (w:=w) (base:=base) T
 have m_Net_put_same:=zk1 (P:=P) (w:=w) (base:=base) T
 have m_Net_put_most:=zk2 (P:=P) (w:=w) (base:=base) T
 refine F.okX zbh (fun vs H Q E h=>?_) (fun cdv A outer s H vs Q E hr h=>?_)
 ·obtain⟨p,r,v,l,rfl,_⟩:=h
  rfl
 ·obtain⟨p,r,v,l,rfl,hl,N,few,k,er⟩:=h
  have wl:∀ x∈Txt.split l bk,x.length≤1000:=fun x hx=>by have:=zk8 x hx;omega
  have wc:(Txt.split l bk).length≤1000:=by have:=PyProof.Rows.split_le l bk;omega
  have wp:=PyProof.Rows.split_pos l bk
  have er:zds v (Txt.split l bk)=none→∀ G,zan H G→∀ C dd,C∈drs a→E (.ref C) dd G:=fun e G sg C dd hC=>er e C dd G sg hC
  have k:∀ v',zds v (Txt.split l bk)=some v'→∀ x H',Kp p r H H'→zbw K a.Net H' p r v'→Q x H':=k
  refine⟨_,(zac (zaw (i:=2) zbh.nd rfl (by first|exact Or.inl rfl|exact Or.inr rfl) (zb4 PySem.F.plainAttrs_str PySem.F.slot_str_split PySem.F.type_str_split zgF (pv 1) (zaa zap zae)))
   (zac (zaw (i:=3) zbh.nd rfl (by first|exact Or.inl rfl|exact Or.inr rfl) (zaZ zaH (pv 2) zai (fun _ _=>rfl)))
   (zac (za5 (zjY (zir (pv 3) (zdg rfl T.g_LINES))) (zaj (zcN zaE x_NoLine (hr.mono (by decide)) rfl (zaa zai zae))) zat)
   (zac (zaw (i:=4) zbh.nd rfl (by first|exact Or.inl rfl|exact Or.inr rfl) (zkP (zdg rfl T.g_LINES) (pv 3) (fun _ _=>rfl)))
   (zac (zaw (i:=5) zbh.nd rfl (by first|exact Or.inl rfl|exact Or.inr rfl) (zaY zbu (pv 2) (za9 zai) (za9 (zao zbJ zai (zaZ zeg (pv 4) zai (fun _ _=>rfl))))))
   (zac (za5 (zav zgY (zaq zar rfl T.n_len zaU (zaa (pv 5) zae)) (zaZ zeg (pv 4) zai (fun _ _=>rfl)) (zaB _)) (zaj (zcN zaE x_NoLine (hr.mono (by decide)) rfl (zaa zai zae))) zat)
   (zac (zaw (i:=6) zbh.nd rfl (by first|exact Or.inl rfl|exact Or.inr rfl) (zeM c_numbers_of zaE (hr.mono (by decide)) rfl (zaa (zaY zbu (pv 2) (za9 (zao zbJ zai (zaZ zeg (pv 4) zai (fun _ _=>rfl)))) zbt) (zaa (zaZ zeg (pv 4) zai (fun _ _=>rfl)) (zaa (zaZ zeg (pv 4) zai (fun _ _=>rfl)) zae)))))
   (zac (za5 (zav zdo (pv 3) zap (zaB _)) (zaj (zaA (zbp (pv 0) T.c_Net m_Net_put_point zaE (hr.mono (by decide)) (zaa (zaZ zaH (pv 5) zai (fun _ _=>rfl)) (zaa (zaZ zaH (pv 6) zai (fun _ _=>rfl)) zae))))) zat)
   (zac (za5 (zav zdo (pv 3) zap (zaB _)) (zaj (zaA (zbp (pv 0) T.c_Net m_Net_put_arrow zaE (hr.mono (by decide)) (zaa (zaZ zaH (pv 5) zai (fun _ _=>rfl)) (zaa (zaZ zaH (pv 5) zai (fun _ _=>rfl)) (zaa (zaZ zaH (pv 6) zai (fun _ _=>rfl)) (zaa (zaZ zaH (pv 6) zai (fun _ _=>rfl)) zae))))))) zat)
   (zac (za5 (zav zdo (pv 3) zap (zaB _)) (zaj (zaA (zbp (pv 0) T.c_Net m_Net_put_same zaE (hr.mono (by decide)) (zaa (zaZ zaH (pv 5) zai (fun _ _=>rfl)) (zaa (zaZ zaH (pv 5) zai (fun _ _=>rfl)) zae))))) zat)
   (zaj (zaA (zbp (pv 0) T.c_Net m_Net_put_most zaE (hr.mono (by decide)) (zaa (zaZ zaH (pv 5) zai (fun _ _=>rfl)) (zaa (zaZ zaH (pv 5) zai (fun _ _=>rfl)) (zaa (zaZ zaH (pv 6) zai (fun _ _=>rfl)) zae)))))))))))))))),?_⟩
  refine⟨_,rfl,rfl,l,bk,rfl,rfl,rfl,by rw[sizeLine_eq];omega,fun wd nwd=>?_⟩
  generalize Txt.split l bk=ws at wl wc wp er k nwd ⊢
  cases ws with
  | nil=>exact absurd wp (by decide)
  | cons kd r0=>
  have s1:zan H (upd H wd (.lst ((kd::r0).map V.str))):=zan.new nwd
  have h1:upd H wd (.lst ((kd::r0).map V.str)) wd=some (.lst ((kd::r0).map V.str)):=zab
  generalize upd H wd (.lst ((kd::r0).map V.str))=H1 at s1 h1 ⊢
  have bad:zds v (kd::r0)=none→∀ G,zan H1 G→∀ H' dx,zan G H'→H' dx=some (.xd [("number",.int 0)])→E (.ref a.NoLine) (some dx) H':=fun e G sg H' dx s2 _=>er e H' (s1.trans (sg.trans s2)) _ _ (by simp[drs])
  refine⟨_,rfl,wd,_,_,.str kd,rfl,rfl,SqL.of h1,zhu (i:=0) rfl,?_⟩
  refine⟨_,rfl,a.LINES,za2 a,Sum.inr kd,rfl,Z,rfl,_,rfl,?_⟩
  cases hf:zhq kd with
  | none=>
   rw[ziM hf]
   refine zgx (zck (bad ?_ H1 (zan.refl _)))
   unfold zds look
   dsimp only
   rw[hf]
  | some fm=>
  obtain⟨nn,nd,los⟩:=fm
  obtain⟨t,t2,L⟩:=zk9 T hf
  have b1:=L.b1
  have b4:=L.b4
  rw[L.val]
  refine zb6 (fun c=>absurd c Bool.false_ne_true) (fun _=>?_)
  refine⟨_,rfl,a.LINES,za2 a,Sum.inr kd,_,rfl,Z,rfl,L.val,?_⟩
  have a0:atI [V.int (nn:Int),.int (nd:Int),.ref t2] 0=some (.int (nn:Int)):=rfl
  have a1:atI [V.int (nn:Int),.int (nd:Int),.ref t2] 1=some (.int (nd:Int)):=rfl
  have a2:atI [V.int (nn:Int),.int (nd:Int),.ref t2] 2=some (.ref t2):=rfl
  refine⟨_,rfl,_,rfl,_,rfl,t,_,_,_,rfl,rfl,L.q1 _,a0,_,_,rfl,rfl,_,rfl,wd,_,rfl,SqL.of h1,fun nm nnm=>?_⟩
  dsimp only
  have ec:zdu ((kd::r0).map V.str) (some 1) (some (1 + (nn:Int)))=(r0.take nn).map V.str:=by
   rw[List.map_cons,zla,List.map_take]
  rw[ec]
  have s2:zan H1 (upd H1 nm (.lst ((r0.take nn).map V.str))):=zan.new nnm
  have h2:upd H1 nm (.lst ((r0.take nn).map V.str)) nm=some (.lst ((r0.take nn).map V.str)):=zab
  generalize upd H1 nm (.lst ((r0.take nn).map V.str))=H2 at s2 h2 ⊢
  refine⟨_,rfl,nm,_,rfl,.inl (SqL.of h2),_,rfl,t,_,_,_,rfl,rfl,L.q1 _,a0,_,_,rfl,rfl,_,rfl,?_⟩
  refine zb6 (fun c=>?_) (fun c=>?_)
  ·have c:=of_decide_eq_true c
   rw[List.length_map,List.length_take] at c
   refine zck (bad ?_ H2 s2)
   unfold zds look
   dsimp only
   rw[hf]
   dsimp only
   rw[if_pos (by omega)]
  have c:=of_decide_eq_false c
  rw[List.length_map,List.length_take] at c
  have c0:¬ r0.length<nn:=by omega
  refine⟨_,rfl,_,rfl,t,_,_,_,rfl,rfl,L.q1 _,a0,_,_,rfl,rfl,_,rfl,wd,_,rfl,SqL.of (s2 _ _ h1),fun q nq=>?_⟩
  dsimp only
  have ed:zdu ((kd::r0).map V.str) (some (1 + (nn:Int))) none=(r0.drop nn).map V.str:=by
   rw[show(1:Int) + (nn:Int)=((1 + nn:Nat):Int) by omega,zcj,Nat.add_comm 1,List.map_cons,List.drop_succ_cons,List.map_drop]
  rw[ed]
  have s3:zan H2 (upd H2 q (.lst ((r0.drop nn).map V.str))):=zan.new nq
  have h3:upd H2 q (.lst ((r0.drop nn).map V.str)) q=some (.lst ((r0.drop nn).map V.str)):=zab
  generalize upd H2 q (.lst ((r0.drop nn).map V.str))=H3 at s3 h3 ⊢
  have s13:=s2.trans s3
  rw[List.length_cons] at wc
  refine⟨_,rfl,t,_,_,_,rfl,rfl,L.q1 _,a1,_,rfl,t,_,_,_,rfl,rfl,L.q1 _,a2,q,r0.drop nn,nd,t2,los,rfl,h3,fun n hn=>wl n (List.mem_cons_of_mem _ (List.mem_of_mem_drop hn)),L.q2 _,by rw[List.length_drop];omega,by omega,fun ok nu H4 s4 nnu hnu=>?_,fun ok H' dx s4 hdx=>?_⟩
  rotate_left
  ·refine bad ?_ H3 s13 H' dx s4 hdx
   unfold zds look
   dsimp only
   rw[hf]
   dsimp only
   rw[if_neg c0,if_neg (by rw[ok];decide)]
  have xl:=zjH ok
  have lk:look (kd::r0)=some ⟨kd,r0.take nn,(r0.drop nn).map nv++los.drop ((r0.drop nn).length - nd)⟩:=by
   unfold look
   dsimp only
   rw[hf]
   dsimp only
   rw[if_neg c0,if_pos ok]
  have nl:(r0.take nn).length=nn:=by rw[List.length_take];omega
  have n1000:∀ x∈r0.take nn,x.length≤1000:=fun x hx=>wl x (List.mem_cons_of_mem _ (List.mem_of_mem_take hx))
  generalize (r0.drop nn).map nv++los.drop ((r0.drop nn).length - nd)=xs at xl lk hnu
  generalize r0.take nn=ns at nl lk h2 n1000
  have s14:=s1.trans (s13.trans s4)
  have N4:=N.same s14
  obtain⟨dx,hp4⟩:=N4.ex
  have hnm4:=(s3.trans s4) _ _ h2
  have kp:∀ {H5:Hp},Kp p r H4 H5→Kp p r H H5:=fun k5=>(Kp.of s14).trans k5
  have no:∀ {x y:Str},x≠y→decide (V.str x=V.str y)=false:=fun h=>decide_eq_false (fun z=>h (by injection z))
  have good:∀ q:Rd,look (kd::r0)=some q→q.err v=none→∀ x H5,Kp p r H4 H5→zbw K a.Net H5 p r (q.put v)→Q x H5:=fun q hq he x H5 k5 N5=>by
   refine k (q.put v) ?_ x H5 (kp k5) N5
   unfold zds
   rw[hq]
   dsimp only
   rw[he]
  have wrong:∀ q:Rd,look (kd::r0)=some q→∀ e,q.err v=some e→∀ H5,zan H4 H5→zdm a E e H5:=fun q hq e he H5 s5=>by
   refine zhr (fun C dd hC=>er ?_ H5 (s14.trans s5) C dd hC) e
   unfold zds
   rw[hq]
   dsimp only
   rw[he]
  have ni:∀ {i:Nat},i<nn→(ns.map V.str)[i]?=some (.str (ns.getD i Str.empty)):=fun h=>by rw[List.getElem?_map,ziN (d:=Str.empty) (by omega)];rfl
  have xi:∀ {i:Nat},i<nd + los.length→(xs.map V.int)[i]?=some (.int (xs.getD i 0)):=fun h=>by rw[List.getElem?_map,ziN (d:=(0:Int)) (by omega)];rfl
  have lk':=lk
  unfold zhq at hf
  split at hf
  ·rename_i ek
   cases hf
   have E0:(Rd.mk kd ns xs).err v=zaK v.kvs (ns.getD 0 Str.empty) (xs.getD 0 0):=if_pos ek
   have P0:(Rd.mk kd ns xs).put v={ v with kvs:=v.kvs++[(Sum.inr (ns.getD 0 Str.empty),.int (xs.getD 0 0))] }:=if_pos ek
   refine⟨_,rfl,rfl,_,rfl,zfy (decide_eq_true (congrArg V.str ek)) ?_⟩
   refine⟨_,rfl,p,dx,_,rfl,hp4,by rfl,_,rfl,nm,_,_,.str _,rfl,rfl,SqL.of hnm4,zhu (i:=0) (ni (by decide)),_,rfl,nu,_,_,.int _,rfl,rfl,SqL.of hnu,zhu (i:=0) (xi (by decide)),p,r,v,_,_,rfl,?_,N4,few.k,(fun e he=>wrong _ lk e (E0.trans he)),fun he H5 k5 N5=>good _ lk (E0.trans he) _ H5 k5 (by rw[P0];exact N5)⟩
   refine n1000 _ ?_
   exact List.mem_of_getElem? (ziN (d:=Str.empty) (i:=0) (by omega))
  rename_i k1
  refine⟨_,rfl,rfl,_,rfl,zih (no k1) ?_⟩
  split at hf
  ·rename_i ek
   cases hf
   have E0:(Rd.mk kd ns xs).err v=zcu v (ns.getD 0 Str.empty) (ns.getD 1 Str.empty) (xs.getD 0 0) (xs.getD 1 0):=(if_neg k1).trans (if_pos ek)
   have P0:(Rd.mk kd ns xs).put v={ v with arr:=v.arr++[⟨v.nn,ns.getD 0 Str.empty,ns.getD 1 Str.empty,xs.getD 0 0,xs.getD 1 0⟩],nn:=v.nn + 1 }:=(if_neg k1).trans (if_pos ek)
   refine⟨_,rfl,rfl,_,rfl,zfy (decide_eq_true (congrArg V.str ek)) ?_⟩
   exact⟨_,rfl,p,dx,_,rfl,hp4,by rfl,_,rfl,nm,_,_,.str _,rfl,rfl,SqL.of hnm4,zhu (i:=0) (ni (by decide)),_,rfl,nm,_,_,.str _,rfl,rfl,SqL.of hnm4,zhu (i:=1) (ni (by decide)),_,rfl,nu,_,_,.int _,rfl,rfl,SqL.of hnu,zhu (i:=0) (xi (by decide)),_,rfl,nu,_,_,.int _,rfl,rfl,SqL.of hnu,zhu (i:=1) (xi (by decide)),p,r,v,_,_,_,_,rfl,N4,few.a,few.n,(fun he H5 k5 N5=>good _ lk (E0.trans he) _ H5 k5 (by rw[P0];exact N5)),fun e he=>wrong _ lk e (E0.trans he)⟩
  rename_i k2
  refine⟨_,rfl,rfl,_,rfl,zih (no k2) ?_⟩
  split at hf
  ·rename_i ek
   cases hf
   have E0:(Rd.mk kd ns xs).err v=lim v.kvs v.ss.length (ns.getD 0 Str.empty) (ns.getD 1 Str.empty) none:=(if_neg k1).trans ((if_neg k2).trans (if_pos ek))
   have P0:(Rd.mk kd ns xs).put v={ v with ss:=v.ss++[(ns.getD 0 Str.empty,ns.getD 1 Str.empty)] }:=(if_neg k1).trans ((if_neg k2).trans (if_pos ek))
   refine⟨_,rfl,rfl,_,rfl,zfy (decide_eq_true (congrArg V.str ek)) ?_⟩
   exact⟨_,rfl,p,dx,_,rfl,hp4,by rfl,_,rfl,nm,_,_,.str _,rfl,rfl,SqL.of hnm4,zhu (i:=0) (ni (by decide)),_,rfl,nm,_,_,.str _,rfl,rfl,SqL.of hnm4,zhu (i:=1) (ni (by decide)),p,r,v,_,_,rfl,N4,few.s,(fun he H5 k5 N5=>good _ lk (E0.trans he) _ H5 k5 (by rw[P0];exact N5)),fun e he=>wrong _ lk e (E0.trans he)⟩
  rename_i k3
  refine⟨_,rfl,rfl,_,rfl,zih (no k3) ?_⟩
  split at hf
  ·rename_i ek
   cases hf
   have E0:(Rd.mk kd ns xs).err v=lim v.kvs v.mm.length (ns.getD 0 Str.empty) (ns.getD 1 Str.empty) (some (xs.getD 0 0)):=(if_neg k1).trans ((if_neg k2).trans (if_neg k3))
   have P0:(Rd.mk kd ns xs).put v={ v with mm:=v.mm++[(ns.getD 0 Str.empty,ns.getD 1 Str.empty,xs.getD 0 0)] }:=(if_neg k1).trans ((if_neg k2).trans (if_neg k3))
   exact⟨_,rfl,p,dx,_,rfl,hp4,by rfl,_,rfl,nm,_,_,.str _,rfl,rfl,SqL.of hnm4,zhu (i:=0) (ni (by decide)),_,rfl,nm,_,_,.str _,rfl,rfl,SqL.of hnm4,zhu (i:=1) (ni (by decide)),_,rfl,nu,_,_,.int _,rfl,rfl,SqL.of hnu,zhu (i:=0) (xi (by decide)),p,r,v,_,_,_,rfl,N4,few.m,(fun he H5 k5 N5=>good _ lk (E0.trans he) _ H5 k5 (by rw[P0];exact N5)),fun e he=>wrong _ lk e (E0.trans he)⟩
  ·cases hf
end
end K05
namespace K05
open PySem L2
structure zcF (ls:List Str):Prop where
 nn:∀ l∈ls,10∉cl l
 le:∀ l∈ls,l.length≤100
 few:ls.length≤200
 ne:ls=[]∨(ls≠[]∧Txt.join nl ls≠Str.ofString "")
theorem zcF.split {ls:List Str} (h:zcF ls) (h0:ls≠[]):Txt.split (Txt.join nl ls) nl=ls:=by
 rw[nl_mk]
 exact zem h0 h.nn
theorem zcF.len {ls:List Str} (h:zcF ls):(Txt.join nl ls).length≤101 * ls.length:=zgL nl ls (by decide) h.le
def zlb (H:Hp) (x:Addr) (r:Rec):Prop:=∀ b o,H b=some o→b≠x∧b≠r.dh∧b≠r.da∧b≠r.ls∧b≠r.lm
theorem zlb.kp {H H1 H2:Hp}{x:Addr}{r:Rec} (a:zlb H x r) (s:zan H H1) (k:Kp x r H1 H2):zan H H2:=fun b o e=>by
 obtain⟨e1,e2,e3,e4,e5⟩:=a b o e
 exact k b o (s _ _ e) e1 e2 e3 e4 e5
theorem zlc:zk6 0 emp:=⟨Nat.le_refl _,Nat.le_refl _,(fun _ h=>by cases h),Nat.le_refl _,Nat.le_refl _⟩
section
variable {P:Program}{w:World}{K:PySem.W.Frag}{mg:Str→Option Value}{base:Heap}{a:Adr}
theorem draws (T:Tx K mg a){C:Addr} (h:C∈drs a):PySem.W.mroIn K C (.ref a.DrawError)=some true:=by
 unfold drs at h
 rcases List.mem_cons.mp h with rfl|h
 ·exact T.mr_NoName_DrawError
 rcases List.mem_cons.mp h with rfl|h
 ·exact T.mr_Taken_DrawError
 rcases List.mem_cons.mp h with rfl|h
 ·exact T.mr_NoPoint_DrawError
 rcases List.mem_cons.mp h with rfl|h
 ·exact T.mr_Alone_DrawError
 rcases List.mem_cons.mp h with rfl|h
 ·exact T.mr_NoNumber_DrawError
 rcases List.mem_cons.mp h with rfl|h
 ·exact T.mr_TooMany_DrawError
 rcases List.mem_cons.mp h with rfl|h
 ·exact T.mr_NoSuch_DrawError
 ·rw[List.mem_singleton.mp h]
  exact T.mr_NoLine_DrawError
def ziP (K:PySem.W.Frag) (a:Adr):Sp:=fun vs H Q E=>∃ ls,vs=[.str (Txt.join nl ls)]∧zcF ls ∧
 (∀ v,zb3 emp ls=some v→∀ x r H',zan H H'→zbw K a.Net H' x r v→Q (.ref x) H') ∧
 (∀ i l v,ls[i]?=some l→zb3 emp (ls.take i)=some v→zaM v l=none→∀ H' dx,zan H H'→H' dx=some (.xd [("number",.int (i:Int))])→E (.ref a.NoLine) (some dx) H')
set_option maxHeartbeats 1000000 in
theorem zd5 (T:Tx K mg a) (Z:KD P w K a.LINES (za2 a)):Cal P w K mg base (CXe P w) 8 "read_net" ["text"] [] (ziP K a):=T.d_read_net.cal fun f fd F=>by
 have c_put_line:=zgh (P:=P) (w:=w) (base:=base) T Z
 have i_Net:=zkX (P:=P) (w:=w) (base:=base) T
 have x_NoLine:=zd4 (P:=P) (w:=w) (base:=base) T
 refine F.okX zbS (fun vs H Q E h=>?_) (fun cdv A outer s H vs Q E hr h=>?_)
 ·obtain⟨ls,rfl,_⟩:=h
  rfl
 ·obtain⟨ls,rfl,R,k,er⟩:=h
  have tl:=R.len
  have l200:=R.few
  refine⟨_,(zac (zaw (i:=1) zbS.nd rfl (by first|exact Or.inl rfl|exact Or.inr rfl) (zjj i_Net (hr.mono (by decide)) rfl))
   (zac (za5 (zav zdo (pv 0) zap (zaB _)) (zaj (zaA (pv 1))) zat)
   (zac (zj0 PassesOwn.leaving rfl (zfA rfl T.n_enumerate (zaa (zb4 PySem.F.plainAttrs_str PySem.F.slot_str_split PySem.F.type_str_split zgF (pv 0) (zaa zap zae)) zae)) (zjZ rfl (zaz (zas (i:=2) zbS.nd rfl (by first|exact Or.inl rfl|exact Or.inr rfl)) (zaz (zas (i:=3) zbS.nd rfl (by first|exact Or.inl rfl|exact Or.inr rfl)) zb9))) (zaj (zkR ⟨rfl,rfl⟩ rfl zaE (fun _=>PassesOwnAt.leaving) rfl T.g_DrawError T.xb_DrawError T.xt_DrawError (by decide) (fun a H₀ pn hp2=>(zaj (zit hp2 x_NoLine (hr.mark.mono (by decide)) rfl (zaa (pv 2) zae)))) (fun pn E1 R1 hp1 po1=>(zaj (za4 (zeM c_put_line hp1 (hr.mono (by decide)) rfl (zaa (pv 1) (zaa (pv 3) zae)))))) zat)))
   (zaj (zaA (pv 1)))))),?_⟩
  refine fun x dx nx ndx nex=>⟨x,dx,rfl,zab,fun r H2 fr fo N2=>⟨rfl,?_⟩⟩
  have s2:zan H H2:=fun b o e=>fr b o (by rw[zaf (zam e nx),zaf (zam e ndx)];exact e) (zam e nx)
  have ap:zlb H x r:=fun b o e=>⟨zam e nx,fo b o (by rw[zaf (zam e nx),zaf (zam e ndx)];exact e)⟩
  refine⟨_,rfl,rfl,_,rfl,?_⟩
  rcases R.ne with h0|⟨h0,hne⟩
  ·subst h0
   refine zfy (decide_eq_true rfl) ?_
   exact⟨_,rfl,k emp rfl x r H2 s2 N2⟩
  ·refine zih (decide_eq_false (fun z=>hne (by injection z))) ?_
   refine⟨_,rfl,rfl,Txt.join nl ls,nl,rfl,rfl,rfl,by rw[sizeLine_eq];omega,fun y ny=>?_⟩
   rw[R.split h0]
   have s3:zan H2 (upd H2 y (.lst (ls.map V.str))):=zan.new ny
   have h3:upd H2 y (.lst (ls.map V.str)) y=some (.lst (ls.map V.str)):=zab
   have apy:y≠x∧y≠r.dh∧y≠r.da∧y≠r.ls∧y≠r.lm:=by
    have nyx:∀ b o,H2 b=some o→b≠y:=fun b o e=>zam e ny
    obtain⟨⟨dx,e1⟩,e2,⟨avs,e3,_⟩,⟨xs,e4,_⟩,⟨ys,e5,_⟩,_⟩:=N2
    exact⟨Ne.symm (nyx _ _ e1),Ne.symm (nyx _ _ e2),Ne.symm (nyx _ _ e3),Ne.symm (nyx _ _ e4),Ne.symm (nyx _ _ e5)⟩
   have N3:=N2.same s3
   generalize upd H2 y (.lst (ls.map V.str))=H3 at s3 h3 N3 ⊢
   refine⟨y,rfl,⟨_,SqL.of h3⟩,zjq (K:=K) (l:=y) (xs:=ls.map V.str) (fun i σ G=>∃ v2 v3 v,σ=[some (.str (Txt.join nl ls)),some (.ref x),v2,v3]∧zan H G∧G y=some (.lst (ls.map V.str))∧zb3 emp (ls.take i)=some v∧zk6 i v∧zbw K a.Net G x r v) ⟨none,none,emp,rfl,s2.trans s3,h3,rfl,zlc,N3⟩ ?_ ?_ ?_⟩
   ·rintro i σ G _ ⟨_,_,_,rfl,_,hy,_⟩
    exact SqL.of hy
   ·rintro i z t σ G hz nt ⟨v2,v3,v,rfl,sg,hy,hv,fv,NG⟩
    obtain⟨l,el,rfl⟩:=zbV hz
    have hi:i<ls.length:=(List.getElem?_eq_some_iff.mp el).1
    have st:zan G (upd G t (.tup [.int (i:Int),.str l])):=zan.new nt
    have ht:SqT K (upd G t (.tup [.int (i:Int),.str l])) t [.int (i:Int),.str l]:=SqT.of zab
    generalize upd G t (.tup [.int (i:Int),.str l])=G1 at st ht ⊢
    have l100:=R.le l (List.mem_of_getElem? el)
    refine⟨t,_,rfl,ht,rfl,_,_,rfl,_,_,rfl,rfl,?_⟩
    dsimp only[zaQ]
    refine⟨_,rfl,_,rfl,x,r,v,l,rfl,by omega,NG.same st,⟨by have:=fv.k;omega,by have:=fv.a;omega,fv.n,by have:=fv.s;omega,by have:=fv.m;omega⟩,fun v' hs vx H4 kp4 N4=>?_,fun hs C dd H4 s4 hC=>?_⟩
    ·refine⟨_,_,v',rfl,ap.kp (sg.trans st) kp4,kp4 _ _ (st _ _ hy) apy.1 apy.2.1 apy.2.2.1 apy.2.2.2.1 apy.2.2.2.2,?_,zjG fv hs,N4⟩
     rw[zaS el]
     exact ziK hv hs
    ·refine⟨C,true,rfl,draws T hC,zgx (fun e ob he ho hdd hf=>?_)⟩
     have s5:zan H (upd H4 e (.frz ob (.own e))):=((sg.trans st).trans s4).trans (zan.new he)
     refine⟨_,rfl,zck fun H' dx s6 hdx=>?_⟩
     exact er i l v el hv hs H' dx (s5.trans s6) hdx
   ·rintro σ G ⟨v2,v3,v,rfl,sg,hy,hv,fv,NG⟩
    rw[List.length_map,List.take_length] at hv
    exact⟨_,rfl,k v hv x r G sg NG⟩
def zcG (ls:List Str):Option Nat→Prop
 | none=>∃ v,zb3 emp ls=some v
 | some i=>∃ l v,ls[i]?=some l∧zb3 emp (ls.take i)=some v∧zaM v l=none
theorem zcG.stop {ls:List Str}{i:Nat}{l:Str}{v:zbO} (h1:ls[i]?=some l) (h2:zb3 emp (ls.take i)=some v) (h3:zaM v l=none):zb3 emp ls=none:=by
 have e:ls=ls.take i++l::ls.drop (i + 1):=by
  obtain⟨hi,e⟩:=List.getElem?_eq_some_iff.mp h1
  subst e
  exact(List.take_append_drop i ls).symm.trans (by rw[List.drop_eq_getElem_cons hi])
 rw[e,zbW,h2]
 show(match zaM v l with|none=>none|some v'=>zb3 v' _)=none
 rw[h3]
theorem zcG.uniq {ls:List Str}{i j:Nat}{l m:Str}{v w:zbO} (h1:ls[i]?=some l) (h2:zb3 emp (ls.take i)=some v) (h3:zaM v l=none) (k1:ls[j]?=some m) (k2:zb3 emp (ls.take j)=some w) (k3:zaM w m=none):i=j:=by
 have aux:∀ {i j:Nat}{l:Str}{v w:zbO},ls[i]?=some l→zb3 emp (ls.take i)=some v→zaM v l=none→zb3 emp (ls.take j)=some w→¬ i<j:=fun {i j l v w} a1 a2 a3 b2 hij=>by
  have:=zcG.stop (ls:=ls.take j) (i:=i) (l:=l) (v:=v) (by rw[List.getElem?_take,if_pos hij];exact a1) (by rw[List.take_take,Nat.min_eq_left (Nat.le_of_lt hij)];exact a2) a3
  rw[b2] at this
  cases this
 have z1:=aux h1 h2 h3 k2
 have z2:=aux k1 k2 k3 h2
 omega
def zgi:Option Nat→List V
 | none=>[.str (Str.ofString "read"),.non]
 | some i=>[.str (Str.ofString "line"),.int (i:Int)]
theorem IsX.same {H H':Hp}{x C:Addr}{dd:Option Addr} (h:IsX H x C dd) (e:zan H H'):IsX H' x C dd:=by
 obtain⟨o,u,h1,r⟩:=h.at_
 exact⟨o,u,e _ _ h1,r⟩
def zld:Sp:=fun vs H Q _=>∃ ls o,vs=[.str (Txt.join nl ls)]∧zcF ls∧zcG ls o∧∀ p H',zan H H'→H' p=some (.tup (zgi o))→Q (.ref p) H'
set_option maxHeartbeats 4000000 in
theorem zjI (T:Tx K mg a) (Z:KD P w K a.LINES (za2 a)):Cal P w K mg base CX0 9 "_law_fault" ["_law_text"] [] zld:=T.d__law_fault.cal fun f fd F=>by
 have c_read_net:=zd5 (P:=P) (w:=w) (base:=base) T Z
 refine F.ok za1 (fun vs H Q E h=>?_) (fun cdv A outer s H vs Q E hr h=>?_)
 ·obtain⟨ls,o,rfl,_⟩:=h
  rfl
 ·obtain⟨ls,o,rfl,R,hF,k⟩:=h
  refine⟨_,(zac (zaw (i:=1) za1.nd rfl (by first|exact Or.inl rfl|exact Or.inr rfl) (zbn (zaa zap (zaa zgn zae))))
   (zac (ps_try ⟨rfl,rfl⟩ rfl (PHs.as_ (i:=2) rfl T.g_DrawError T.xb_DrawError T.xt_DrawError (by decide) za1.nd rfl rfl (fun a H₀=>(zac (zaw (i:=1) za1.nd rfl (by first|exact Or.inl rfl|exact Or.inr rfl) (zbn (zaa zap (zaa zgn zae))))
   (zac (zaw (i:=3) za1.nd rfl (by first|exact Or.inl rfl|exact Or.inr rfl) (zaq (zec (K:=K) rfl) rfl T.n_isinstance za0 (zaa (pv 2) (zaa (zbn (zaa (zdg rfl T.g_Alone) (zaa (zdg rfl T.g_NoName) (zaa (zdg rfl T.g_NoPoint) (zaa (zdg rfl T.g_NoSuch) (zaa (zdg rfl T.g_TooMany) zae)))))) zae))))
   (zaj (za5 (PW.pt (zgo (zbI (zaq (zcO (K:=K) rfl) rfl T.n_isinstance za0 (zaa (pv 2) (zaa (zdg rfl T.g_NoLine) zae)))) (zgo (zbI (zaq (zcO (K:=K) rfl) rfl T.n_isinstance za0 (zaa (pv 2) (zaa (zgC rfl T.n_ValueError zeN) zae)))) (zfY (zcI (zbI (pv 3))))))) (zaj (zaw (i:=1) za1.nd rfl (by first|exact Or.inl rfl|exact Or.inr rfl) (zbn (zaa zap (zaa (zjo (K:=K) rfl (pv 2) rfl) zae))))) zat))))) PHs.nil) (fun pn E1 R1 hp1 po1=>(zaj (za4 (zeM c_read_net hp1 (hr.mono (by decide)) rfl (zaa (pv 0) zae))))) zat)
   (zaj (zaA (pv 1))))),?_⟩
  refine⟨(by show 2≤sizeLine;decide),fun q nq=>?_⟩
  have s1:zan H (upd H q (.tup [.str (Str.ofString "read"),.non])):=zan.new nq
  have h1:upd H q (.tup [.str (Str.ofString "read"),.non]) q=some (.tup [.str (Str.ofString "read"),.non]):=zab
  generalize upd H q (.tup [.str (Str.ofString "read"),.non])=H1 at s1 h1 ⊢
  refine⟨_,rfl,ls,rfl,R,fun v hv x r H2 s2 N2=>?_,fun i l v el hv hs H2 d s2 hd=>?_⟩
  ·refine⟨_,rfl,?_⟩
   refine k q H2 (s1.trans s2) ?_
   cases o with
   | none=>exact s2 _ _ h1
   | some i=>
    obtain⟨l,v',e1,e2,e3⟩:=hF
    rw[zcG.stop e1 e2 e3] at hv
    cases hv
  ·have eo:o=some i:=by
    cases o with
    | none=>
     obtain⟨v',e⟩:=hF
     rw[zcG.stop el hv hs] at e
     cases e
    | some j=>
     obtain⟨l',v',e1,e2,e3⟩:=hF
     rw[zcG.uniq el hv hs e1 e2 e3]
   subst eo
   refine⟨a.NoLine,true,rfl,T.mr_NoLine_DrawError,zgx (fun x ob hx ho hdd hf=>?_)⟩
   have s3:zan H2 (upd H2 x (.frz ob (.own x))):=zan.new hx
   have ix:IsX (upd H2 x (.frz ob (.own x))) x a.NoLine (some d):=⟨ob,.own x,zab,ho,hdd,hf⟩
   have hd3:=s3 _ _ hd
   refine⟨(by show 2≤sizeLine;decide),fun q2 nq2=>?_⟩
   have s4:=zan.new (o:=.tup [.str (Str.ofString "other"),.non]) nq2
   have ix4:=IsX.same ix s4
   have hd4:=s4 _ _ hd3
   generalize upd (upd H2 x (.frz ob (.own x))) q2 (.tup [.str (Str.ofString "other"),.non])=H4 at s4 ix4 hd4 ⊢
   refine⟨_,rfl,(by show 5≤sizeLine;decide),fun g ng=>?_⟩
   have s5:=zan.new (o:=.tup [.ref a.Alone,.ref a.NoName,.ref a.NoPoint,.ref a.NoSuch,.ref a.TooMany]) ng
   refine⟨x,a.NoLine,some d,g,_,_,false,rfl,IsX.same ix4 s5,⟨_,s5 _ _ hd4⟩,T.is_NoLine,zab,fun us r=>?_,T.ka_NoLine,?_⟩
   ·cases r with
    | cons r1 r=>
     cases r with
     | cons r2 r=>
      cases r with
      | cons r3 r=>
       obtain⟨u2,u3,rfl,r4,r5⟩:=zi6 r
       cases r1
       cases r2
       cases r3
       cases r4
       cases r5
       rfl
   have ix5:=IsX.same ix4 s5
   have hd5:=s5 _ _ hd4
   have t5:=s1.trans (s2.trans (s3.trans (s4.trans s5)))
   generalize upd H4 g (.tup [.ref a.Alone,.ref a.NoName,.ref a.NoPoint,.ref a.NoSuch,.ref a.TooMany])=H5 at ix5 hd5 t5 ⊢
   refine⟨_,rfl,x,a.NoLine,some d,_,_,true,rfl,ix5,⟨_,hd5⟩,T.is_NoLine,(fun _ r=>r),T.kt_NoLine_NoLine,_,rfl,zgx ?_⟩
   refine⟨_,rfl,x,a.NoLine,some d,_,_,true,rfl,ix5,⟨_,hd5⟩,T.is_NoLine,(fun _ r=>r),T.kt_NoLine_ValueError,_,rfl,zgx ?_⟩
   refine⟨_,rfl,_,rfl,zgx ?_⟩
   refine⟨_,rfl,x,a.NoLine,d,_,_,rfl,ix5,hd5,T.xg_NoLine_number,lk0,(by show 2≤sizeLine;decide),fun q3 nq3=>?_⟩
   refine⟨_,rfl,?_⟩
   exact k q3 _ (t5.trans (zan.new nq3)) zab
end
end K05
namespace K05
open PySem L2
section
variable {P:Program}{w:World}{K:PySem.W.Frag}{mg:Str→Option Value}{base:Heap}{a:Adr}
def ziQ (K:PySem.W.Frag) (a:Adr):Sp:=fun vs H Q _=>∃ p r,vs=[.ref p]∧zbw K a.Net H p r emp∧∀ H',zan H H'→Q (.str (Str.ofString "")) H'
theorem zjJ {α:Type}{xs:List α}{i:Nat}{x:α} (h:xs=[]) (e:xs[i]?=some x):False:=by
 rw[h] at e
 simp at e
set_option maxHeartbeats 1000000 in
theorem zgj (T:Tx K mg a):Cal P w K mg base CX0 6 "net_text" ["net"] [] (ziQ K a):=T.d_net_text.cal fun f fd F=>by
 have m_Net_points:=zfH (P:=P) (w:=w) (base:=base) T
 have m_Net_arrows:=ziG (P:=P) (w:=w) (base:=base) T
 have m_Net_sames:=zjA (P:=P) (w:=w) (base:=base) T
 have m_Net_mosts:=zjB (P:=P) (w:=w) (base:=base) T
 refine F.ok zdZ (fun vs H Q E h=>?_) (fun cdv A outer s H vs Q E hr h=>?_)
 ·obtain⟨p,r,rfl,_⟩:=h
  rfl
 ·obtain⟨p,r,rfl,N,k⟩:=h
  obtain⟨dx,hp⟩:=N.ex
  refine⟨_,(zac (zeF (i:=1) zdZ.nd rfl rfl (N:=["name","net"]) (cap:=[none,some 0]) rfl (za6 (osc:=zah zbq) (XN:=["net","lines"]) rfl rfl (by decide +kernel)) (zbc (zcM (pv 0) T.c_Net m_Net_points (hr.mono (by decide)))) (fun cl C s H fp pins=>(zas (i:=0) (show(["name","net"]:List Str).Nodup by decide +kernel) rfl (by first|exact Or.inl rfl|exact Or.inr rfl))) (fun cl C s H fp pins=>zaT) (fun cl C s H fp pins=>zjs) (hsw:=rfl))
   (zac (za4 (zb4 PySem.F.plainAttrs_list PySem.F.slot_list_extend PySem.F.type_list_extend zdI (pv 1) (zaa (zaV (N:=["number","one","other","span","weight"]) (cap:=[none,none,none,none,none]) rfl (za6 (osc:=zah zbq) (XN:=["net","lines"]) rfl rfl (by decide +kernel)) (zbc (zcM (pv 0) T.c_Net m_Net_arrows (hr.mono (by decide)))) (fun cl C s H fp pins=>(zc5 (K:=K) (n:=5) rfl rfl (zaz (zas (i:=0) (show(["number","one","other","span","weight"]:List Str).Nodup by decide +kernel) rfl (by first|exact Or.inl rfl|exact Or.inr rfl)) (zaz (zas (i:=1) (show(["number","one","other","span","weight"]:List Str).Nodup by decide +kernel) rfl (by first|exact Or.inl rfl|exact Or.inr rfl)) (zaz (zas (i:=2) (show(["number","one","other","span","weight"]:List Str).Nodup by decide +kernel) rfl (by first|exact Or.inl rfl|exact Or.inr rfl)) (zaz (zas (i:=3) (show(["number","one","other","span","weight"]:List Str).Nodup by decide +kernel) rfl (by first|exact Or.inl rfl|exact Or.inr rfl)) (zaz (zas (i:=4) (show(["number","one","other","span","weight"]:List Str).Nodup by decide +kernel) rfl (by first|exact Or.inl rfl|exact Or.inr rfl)) zb9))))))) (fun cl C s H fp pins=>zaT) (fun cl C s H fp pins=>zjs)) zae)))
   (zac (za4 (zb4 PySem.F.plainAttrs_list PySem.F.slot_list_extend PySem.F.type_list_extend zdI (pv 1) (zaa (zaV (N:=["one","other"]) (cap:=[none,none]) rfl (za6 (osc:=zah zbq) (XN:=["net","lines"]) rfl rfl (by decide +kernel)) (zbc (zcM (pv 0) T.c_Net m_Net_sames (hr.mono (by decide)))) (fun cl C s H fp pins=>(zc5 (K:=K) (n:=2) rfl rfl (zaz (zas (i:=0) (show(["one","other"]:List Str).Nodup by decide +kernel) rfl (by first|exact Or.inl rfl|exact Or.inr rfl)) (zaz (zas (i:=1) (show(["one","other"]:List Str).Nodup by decide +kernel) rfl (by first|exact Or.inl rfl|exact Or.inr rfl)) zb9)))) (fun cl C s H fp pins=>zaT) (fun cl C s H fp pins=>zjs)) zae)))
   (zac (za4 (zb4 PySem.F.plainAttrs_list PySem.F.slot_list_extend PySem.F.type_list_extend zdI (pv 1) (zaa (zaV (N:=["one","other","number"]) (cap:=[none,none,none]) rfl (za6 (osc:=zah zbq) (XN:=["net","lines"]) rfl rfl (by decide +kernel)) (zbc (zcM (pv 0) T.c_Net m_Net_mosts (hr.mono (by decide)))) (fun cl C s H fp pins=>(zc5 (K:=K) (n:=3) rfl rfl (zaz (zas (i:=0) (show(["one","other","number"]:List Str).Nodup by decide +kernel) rfl (by first|exact Or.inl rfl|exact Or.inr rfl)) (zaz (zas (i:=1) (show(["one","other","number"]:List Str).Nodup by decide +kernel) rfl (by first|exact Or.inl rfl|exact Or.inr rfl)) (zaz (zas (i:=2) (show(["one","other","number"]:List Str).Nodup by decide +kernel) rfl (by first|exact Or.inl rfl|exact Or.inr rfl)) zb9))))) (fun cl C s H fp pins=>zaT) (fun cl C s H fp pins=>zjs)) zae)))
   (zaj (zaA (zb4 PySem.F.plainAttrs_str PySem.F.slot_str_join PySem.F.type_str_join zc2 zap (zaa (pv 1) zae)))))))),?_⟩
  refine⟨_,rfl,p,dx,_,rfl,hp,by rfl,p,r,emp,rfl,N,fun l nl_=>?_⟩
  have s1:zan H (upd H l (.lst (zdq emp.kvs))):=zan.new nl_
  have h1:upd H l (.lst (zdq emp.kvs)) l=some (.lst []):=zab
  generalize upd H l (.lst (zdq emp.kvs))=H1 at s1 h1 ⊢
  refine⟨l,rfl,⟨_,SqL.of h1⟩,fun D hD=>?_⟩
  refine zaO (K:=K) (a:=l) (xs:=[]) (fun j τ G=>∃ v1,τ=[v1,some (.ref p)]∧zan H1 G∧G D=some (.lst [])) ⟨none,rfl,zan.new hD,zab⟩ ?_ ?_ ?_
  ·rintro j τ G _ ⟨_,rfl,sg,_⟩
   exact SqL.of (sg _ _ h1)
  ·rintro j y τ G hy _
   exact(zjJ rfl hy).elim
  rintro τ G ⟨v1,rfl,sg,hG⟩
  have sA:=s1.trans sg
  have nD:H D=none:=zbP s1 hD
  have NA:=N.same sA
  obtain⟨dxa,hpa⟩:=NA.ex
  refine⟨_,rfl,.inl ⟨rfl,_,SqL.of hG⟩,_,rfl,p,dxa,_,rfl,hpa,by rfl,p,r,emp,rfl,NA,by show 0≤1000;decide,fun l2 H2 xs2 s2 n2 h2 d2 _=>?_⟩
  have e2:xs2=[]:=List.eq_nil_of_length_eq_zero d2.length.symm
  refine⟨l2,rfl,⟨_,SqL.of h2⟩,fun D2 hD2=>?_⟩
  refine zaO (K:=K) (a:=l2) (xs:=xs2) (fun j τ G'=>∃ v1 v2 v3 v4 v5,τ=[v1,v2,v3,v4,v5]∧zan H2 G'∧G' D2=some (.lst [])) ⟨none,none,none,none,none,rfl,zan.new hD2,zab⟩ ?_ ?_ ?_
  ·rintro j τ G' _ ⟨_,_,_,_,_,rfl,sg',_⟩
   exact SqL.of (sg' _ _ h2)
  ·rintro j y τ G' hy _
   exact(zjJ e2 hy).elim
  rintro τ G' ⟨v1,v2,v3,v4,v5,rfl,sg',hG'⟩
  have sB:=s2.trans sg'
  refine⟨D,D2,_,_,rfl,rfl,sB _ _ hG,hG',by show 0≤sizeLine;decide,?_⟩
  have s3:zan H (upd G' D (.lst ([]++[]))):=zaD nD (sA.trans sB)
  have h3:upd G' D (.lst ([]++[])) D=some (.lst []):=zab
  generalize upd G' D (.lst ([]++[]))=H3 at s3 h3 ⊢
  have N3:=N.same s3
  obtain⟨dx3,hp3⟩:=N3.ex
  refine⟨_,rfl,.inl ⟨rfl,_,SqL.of h3⟩,_,rfl,p,dx3,_,rfl,hp3,by rfl,p,r,emp,rfl,N3,by show 0≤1000;decide,fun l4 H4 xs4 s4 n4 h4 d4 _=>?_⟩
  have e4:xs4=[]:=List.eq_nil_of_length_eq_zero d4.length.symm
  refine⟨l4,rfl,⟨_,SqL.of h4⟩,fun D4 hD4=>?_⟩
  refine zaO (K:=K) (a:=l4) (xs:=xs4) (fun j τ G'=>∃ v1 v2,τ=[v1,v2]∧zan H4 G'∧G' D4=some (.lst [])) ⟨none,none,rfl,zan.new hD4,zab⟩ ?_ ?_ ?_
  ·rintro j τ G' _ ⟨_,_,rfl,sg',_⟩
   exact SqL.of (sg' _ _ h4)
  ·rintro j y τ G' hy _
   exact(zjJ e4 hy).elim
  rintro τ G4 ⟨v1,v2,rfl,sg4,hG4⟩
  have sC:=s4.trans sg4
  refine⟨D,D4,_,_,rfl,rfl,sC _ _ h3,hG4,by show 0≤sizeLine;decide,?_⟩
  have s5:zan H (upd G4 D (.lst ([]++[]))):=zaD nD (s3.trans sC)
  have h5:upd G4 D (.lst ([]++[])) D=some (.lst []):=zab
  generalize upd G4 D (.lst ([]++[]))=H5 at s5 h5 ⊢
  have N5:=N.same s5
  obtain⟨dx5,hp5⟩:=N5.ex
  refine⟨_,rfl,.inl ⟨rfl,_,SqL.of h5⟩,_,rfl,p,dx5,_,rfl,hp5,by rfl,p,r,emp,rfl,N5,by show 0≤1000;decide,fun l6 H6 xs6 s6 n6 h6 d6 _=>?_⟩
  have e6:xs6=[]:=List.eq_nil_of_length_eq_zero d6.length.symm
  refine⟨l6,rfl,⟨_,SqL.of h6⟩,fun D6 hD6=>?_⟩
  refine zaO (K:=K) (a:=l6) (xs:=xs6) (fun j τ G'=>∃ v1 v2 v3,τ=[v1,v2,v3]∧zan H6 G'∧G' D6=some (.lst [])) ⟨none,none,none,rfl,zan.new hD6,zab⟩ ?_ ?_ ?_
  ·rintro j τ G' _ ⟨_,_,_,rfl,sg',_⟩
   exact SqL.of (sg' _ _ h6)
  ·rintro j y τ G' hy _
   exact(zjJ e6 hy).elim
  rintro τ G6 ⟨v1,v2,v3,rfl,sg6,hG6⟩
  have sD:=s6.trans sg6
  refine⟨D,D6,_,_,rfl,rfl,sD _ _ h5,hG6,by show 0≤sizeLine;decide,?_⟩
  exact⟨rfl,_,rfl,_,D,[],rfl,rfl,SqL.of zab,by show 0≤sizeLine;decide,k _ (zaD nD (s5.trans sD))⟩
def num (c k:Int):Int:=(c + 7919 * k + 1) * 48271 % 2147483647
def zbm (c k:Int):Int:=num c k * (num c k / 1009 + 69621) % 2147483647
theorem num_lo (c k:Int):0≤num c k:=Int.emod_nonneg _ (by decide)
theorem num_hi (c k:Int):num c k<2147483647:=Int.emod_lt_of_pos _ (by decide)
def zle:Sp:=fun vs H Q _=>∃ c k,vs=[.int c,.int k]∧Q (.int (zbm c k)) H
theorem zjK (T:Tx K mg a):Cal P w K mg base CX0 1 "_law_mixed" ["_law_cell","_law_k"] [] zle:=T.d__law_mixed.cal fun f fd F=>by
 refine F.ok zcS (fun vs H Q E h=>?_) (fun cdv A outer s H vs Q E hr h=>?_)
 ·obtain⟨c,k,rfl,_⟩:=h
  rfl
 ·obtain⟨c,k,rfl,q⟩:=h
  refine⟨_,(zac (zaw (i:=2) zcS.nd rfl (by first|exact Or.inl rfl|exact Or.inr rfl) (zao zbr (zao zgr (zao zbJ (zao zbJ (pv 0) (zao zgr zai (pv 1))) zai) zai) zai))
   (zaj (zaA (zao zbr (zao zgr (pv 2) (zao zbJ (zao zeA (pv 2) zai) zai)) zai)))),?_⟩
  refine⟨_,rfl,_,rfl,_,_,rfl,rfl,.inl ⟨by decide,by decide⟩,_,_,rfl,rfl,_,_,rfl,rfl,_,_,rfl,rfl,.inr ⟨by decide,by decide⟩,_,_,rfl,rfl,(by show(0:Int)<2147483647;decide),?_⟩
  have h1:=num_lo c k
  have h2:=num_hi c k
  refine⟨_,rfl,_,rfl,_,_,rfl,rfl,⟨by decide,by decide⟩,_,_,rfl,rfl,_,_,rfl,rfl,.inl ⟨?_,?_⟩,_,_,rfl,rfl,(by show(0:Int)<2147483647;decide),q⟩
  ·show -(2 ^ 64)<num c k
   omega
  ·show num c k<2 ^ 64
   omega
def zjL (K:PySem.W.Frag):Sp:=fun vs H Q _=>∃ p,∃ ns:List Int,∃ k,vs=[.ref p,.int k]∧SqL K H p (ns.map V.int)∧0≤k∧∀ c,Q (.int c) H
theorem zhs (T:Tx K mg a):Cal P w K mg base CX0 1 "_law_cell_at" ["_law_script","_law_k"] [] (zjL K):=T.d__law_cell_at.cal fun f fd F=>by
 refine F.ok zd0 (fun vs H Q E h=>?_) (fun cdv A outer s H vs Q E hr h=>?_)
 ·obtain⟨p,ns,k,rfl,_⟩:=h
  rfl
 ·obtain⟨p,ns,k,rfl,hS,h0,q⟩:=h
  refine⟨_,(zac (za5 (zav zgY (pv 1) (zaq zar rfl T.n_len zaU (zaa (pv 0) zae)) (zaB _)) (zaj (zaA (zaZ zaH (pv 0) (pv 1) (fun _ _=>rfl)))) zat)
   (zaj (zaA zai))),?_⟩
  refine⟨_,rfl,_,rfl,p,_,rfl,.inl hS,_,_,rfl,rfl,_,rfl,?_⟩
  refine zb6 (fun c=>?_) (fun c=>?_)
  ·have h1:k<ns.length:=by
    have:=of_decide_eq_true c
    rwa [List.length_map] at this
   obtain⟨z,hz⟩:=at_int h0 h1
   exact⟨_,rfl,_,rfl,p,_,_,_,rfl,rfl,hS,hz,q z⟩
  ·exact q 0
end
end K05
namespace K05
open PySem L2
inductive Ln where
 | pt (n:Str) (ns:List Int)
 | ar (o t:Str) (ns:List Int)
 | sm (o t:Str)
 | ms (o t:Str) (m:Int)
def Ln.words:Ln→List Str
 | .pt n ns=>Str.ofString "point"::n::ns.map tn
 | .ar o t ns=>Str.ofString "arrow"::o::t::ns.map tn
 | .sm o t=>[Str.ofString "same",o,t]
 | .ms o t m=>[Str.ofString "most",o,t,tn m]
def Ln.text (l:Ln):Str:=Txt.join bk l.words
def NOk (n:Int):Prop:=0≤n∧n<10000000
def Ln.Ok:Ln→Prop
 | .pt n ns=>zaJ n=true∧ns.length≤1∧∀ m∈ns,NOk m
 | .ar o t ns=>zaJ o=true∧zaJ t=true∧ns.length≤2∧∀ m∈ns,NOk m
 | .sm o t=>zaJ o=true∧zaJ t=true
 | .ms o t m=>zaJ o=true∧zaJ t=true∧NOk m
theorem abc_lo:∀ c∈cl abc,97≤c∧c≤122:=by decide +kernel
theorem zfL {n:Str} (h:zaJ n=true):(∀ c∈cl n,97≤c)∧n.length≤8:=by
 unfold zaJ at h
 rw[Bool.and_eq_true,Bool.and_eq_true,decide_eq_true_iff,decide_eq_true_iff] at h
 refine⟨fun c hc=>?_,h.1.2⟩
 have:=List.all_eq_true.mp h.2 c hc
 unfold ziv at this
 rw[StrLaws.found_one] at this
 exact(abc_lo c (of_decide_eq_true this)).1
def WOk (s:Str):Prop:=(∀ c∈cl s,48≤c)∧s.length≤8
theorem zbX {n:Str} (h:zaJ n=true):WOk n:=⟨fun c hc=>by have:=(zfL h).1 c hc;omega,(zfL h).2⟩
theorem zgk {n:Int} (h:NOk n):WOk (tn n):=⟨fun c hc=>(ziI h.1 c hc).1,by have:=(ziJ h.1 h.2).2;omega⟩
theorem zjM:WOk (Str.ofString "point")∧WOk (Str.ofString "arrow")∧WOk (Str.ofString "same")∧WOk (Str.ofString "most"):=by
 refine⟨⟨?_,?_⟩,⟨?_,?_⟩,⟨?_,?_⟩,⟨?_,?_⟩⟩ <;> decide
theorem Ln.wok {l:Ln} (h:l.Ok):∀ x∈l.words,WOk x:=by
 obtain⟨k1,k2,k3,k4⟩:=zjM
 intro x hx
 cases l with
 | pt n ns=>
  obtain⟨h1,h2,h3⟩:=h
  rcases List.mem_cons.mp hx with rfl|hx
  ·exact k1
  rcases List.mem_cons.mp hx with rfl|hx
  ·exact zbX h1
  obtain⟨m,hm,rfl⟩:=List.mem_map.mp hx
  exact zgk (h3 m hm)
 | ar o t ns=>
  obtain⟨h1,h1',h2,h3⟩:=h
  rcases List.mem_cons.mp hx with rfl|hx
  ·exact k2
  rcases List.mem_cons.mp hx with rfl|hx
  ·exact zbX h1
  rcases List.mem_cons.mp hx with rfl|hx
  ·exact zbX h1'
  obtain⟨m,hm,rfl⟩:=List.mem_map.mp hx
  exact zgk (h3 m hm)
 | sm o t=>
  obtain⟨h1,h1'⟩:=h
  rcases List.mem_cons.mp hx with rfl|hx
  ·exact k3
  rcases List.mem_cons.mp hx with rfl|hx
  ·exact zbX h1
  rw[List.mem_singleton.mp hx]
  exact zbX h1'
 | ms o t m=>
  obtain⟨h1,h1',h2⟩:=h
  rcases List.mem_cons.mp hx with rfl|hx
  ·exact k4
  rcases List.mem_cons.mp hx with rfl|hx
  ·exact zbX h1
  rcases List.mem_cons.mp hx with rfl|hx
  ·exact zbX h1'
  rw[List.mem_singleton.mp hx]
  exact zgk h2
theorem Ln.few {l:Ln} (h:l.Ok):1≤l.words.length∧l.words.length≤5:=by
 cases l with
 | pt n ns=>
  obtain⟨h1,h2,h3⟩:=h
  show 1≤(Str.ofString "point"::n::ns.map tn).length∧(Str.ofString "point"::n::ns.map tn).length≤5
  rw[List.length_cons,List.length_cons,List.length_map]
  omega
 | ar o t ns=>
  obtain⟨h1,h1',h2,h3⟩:=h
  show 1≤(Str.ofString "arrow"::o::t::ns.map tn).length∧(Str.ofString "arrow"::o::t::ns.map tn).length≤5
  rw[List.length_cons,List.length_cons,List.length_cons,List.length_map]
  omega
 | sm o t=>exact⟨by show 1≤3;decide,by show 3≤5;decide⟩
 | ms o t m=>exact⟨by show 1≤4;decide,by show 4≤5;decide⟩
theorem Ln.len {l:Ln} (h:l.Ok):l.text.length≤45:=by
 have h1:=zgL bk l.words (by decide) fun x hx=>(Ln.wok h x hx).2
 have:=(Ln.few h).2
 unfold Ln.text
 omega
theorem Ln.split {l:Ln} (h:l.Ok):Txt.split l.text bk=l.words:=by
 unfold Ln.text
 rw[zk5]
 refine zem (fun e=>?_) fun y hy z=>?_
 ·have:=(Ln.few h).1
  rw[e] at this
  exact absurd this (by decide)
 ·have:=(Ln.wok h y hy).1 32 z
  omega
theorem Ln.noNl {l:Ln} (h:l.Ok):10∉cl l.text:=by
 unfold Ln.text
 rw[show Txt.join bk l.words=Str.join ⟨#[32]⟩ l.words by rw[← zk5];exact StrLaws.glued_eq_join _ _]
 show 10∉(Str.join ⟨#[32]⟩ l.words).cps.toList
 rw[zeQ]
 have:∀ ws:List (List Nat),(∀ x∈ws,∀ c∈x,48≤c)→10∉jl 32 ws:=fun ws=>by
  induction ws with
  | nil=>intro _ z;cases z
  | cons x r ih=>
   intro hx z
   cases r with
   | nil=>have:=hx x (List.mem_cons_self ..) 10 z;omega
   | cons y r=>
    rcases List.mem_append.mp z with z|z
    ·have:=hx x (List.mem_cons_self ..) 10 z
     omega
    ·rcases List.mem_cons.mp z with z|z
     ·cases z
     ·exact ih (fun x' h'=>hx x' (List.mem_cons_of_mem _ h')) z
 refine this _ fun x hx c hc=>?_
 obtain⟨y,hy,rfl⟩:=List.mem_map.mp hx
 exact(Ln.wok h y hy).1 c hc
def Ln.rd:Ln→Rd
 | .pt n ns=>⟨kPt,[n],ns++([0]:List Int).drop ns.length⟩
 | .ar o t ns=>⟨kAr,[o,t],ns++([1,1]:List Int).drop ns.length⟩
 | .sm o t=>⟨kSm,[o,t],[]⟩
 | .ms o t m=>⟨kMs,[o,t],[m]⟩
theorem ziR {ns:List Int} (h:∀ m∈ns,NOk m):(ns.map tn).all zbx=true∧(ns.map tn).map nv=ns:=by
 refine⟨?_,?_⟩
 ·rw[List.all_map,List.all_eq_true]
  exact fun m hm=>zjF (h m hm).1 (h m hm).2
 ·rw[List.map_map]
  exact(List.map_congr_left fun m hm=>nv_tn (h m hm).1).trans (List.map_id _)
theorem zlf:zhq kPt=some (1,0,[0]):=if_pos rfl
theorem zlg:zhq kAr=some (2,0,[1,1]):=(if_neg (by decide)).trans (if_pos rfl)
theorem zlh:zhq kSm=some (2,0,[]):=(if_neg (by decide)).trans ((if_neg (by decide)).trans (if_pos rfl))
theorem zli:zhq kMs=some (2,1,[]):=(if_neg (by decide)).trans ((if_neg (by decide)).trans ((if_neg (by decide)).trans (if_pos rfl)))
theorem zeY {k:Str}{r:List Str}{nn nd:Nat}{los:List Int} (hf:zhq k=some (nn,nd,los)) (h1:¬ r.length<nn) (h2:zbE nd los (r.drop nn)=true):look (k::r)=some ⟨k,r.take nn,(r.drop nn).map nv++los.drop ((r.drop nn).length - nd)⟩:=by
 unfold look
 dsimp only
 rw[hf]
 dsimp only
 rw[if_neg h1,if_pos h2]
theorem Ln.look_ {l:Ln} (h:l.Ok):look l.words=some l.rd:=by
 cases l with
 | pt n ns=>
  obtain⟨h1,h2,h3⟩:=h
  obtain⟨e1,e2⟩:=ziR h3
  refine(zeY (r:=n::ns.map tn) zlf (by simp) ?_).trans ?_
  ·unfold zbE
   show(decide (0≤(ns.map tn).length) && decide ((ns.map tn).length≤0 + 1) && (ns.map tn).all zbx)=true
   rw[e1,decide_eq_true (Nat.zero_le _),decide_eq_true (show(ns.map tn).length≤0 + 1 by rw[List.length_map];omega)]
   rfl
  ·show some (Rd.mk kPt [n] ((ns.map tn).map nv++List.drop ((ns.map tn).length - 0) [0]))=_
   rw[e2,List.length_map]
   rfl
 | ar o t ns=>
  obtain⟨h1,h1',h2,h3⟩:=h
  obtain⟨e1,e2⟩:=ziR h3
  refine(zeY (r:=o::t::ns.map tn) zlg (by simp) ?_).trans ?_
  ·unfold zbE
   show(decide (0≤(ns.map tn).length) && decide ((ns.map tn).length≤0 + 2) && (ns.map tn).all zbx)=true
   rw[e1,decide_eq_true (Nat.zero_le _),decide_eq_true (show(ns.map tn).length≤0 + 2 by rw[List.length_map];omega)]
   rfl
  ·show some (Rd.mk kAr [o,t] ((ns.map tn).map nv++List.drop ((ns.map tn).length - 0) [1,1]))=_
   rw[e2,List.length_map]
   rfl
 | sm o t=>exact(zeY (r:=[o,t]) zlh (by simp) rfl).trans rfl
 | ms o t m=>
  obtain⟨e1,e2⟩:=ziR (ns:=[m]) fun x hx=>by rw[List.mem_singleton.mp hx];exact h.2.2
  refine(zeY (r:=[o,t,tn m]) zli (by simp) ?_).trans ?_
  ·unfold zbE
   show(decide (1≤1) && decide (1≤1) && ([m].map tn).all zbx)=true
   rw[e1]
   rfl
  ·show some (Rd.mk kMs [o,t] (([m].map tn).map nv++[]))=_
   rw[e2]
   rfl
theorem Ln.step {l:Ln}{v:zbO} (h:l.Ok):zaM v l.text=match l.rd.err v with|none=>some (l.rd.put v)|some _=>none:=by
 unfold zaM
 rw[Ln.split h]
 unfold zds
 rw[Ln.look_ h]
 try rfl
structure zc9 (v:zbO) (names:List Str) (k a s m:Nat):Prop where
 has:∀ x,has v.kvs x=true↔x∈names
 kl:v.kvs.length=k
 al:v.arr.length=a
 sl:v.ss.length=s
 ml:v.mm.length=m
theorem zeZ:zc9 emp [] 0 0 0 0:=⟨fun x=>⟨fun h=>(by cases h),fun h=>(by cases h)⟩,rfl,rfl,rfl,rfl⟩
theorem zjN {kvs:Kvs}{n x:Str}{y:V} (h:has kvs n=false):has (kvs++[(Sum.inr n,y)]) x=(decide (x=n) || has kvs x):=by
 have hn:zde kvs (Sum.inr n)=none:=by
  unfold has at h
  cases e:zde kvs (Sum.inr n) with
  | none=>rfl
  | some z=>rw[e] at h;cases h
 unfold has
 rw[zfl _ _ _ _ hn]
 by_cases e:x=n
 ·rw[if_pos (congrArg Sum.inr e),decide_eq_true e]
  rfl
 ·rw[if_neg (fun z=>e (Sum.inr.inj z)),decide_eq_false e]
  rfl
section
variable {v:zbO}{names:List Str}{k a s m:Nat}
theorem zc9.no (p:zc9 v names k a s m){x:Str} (h:x∉names):K05.has v.kvs x=false:=by
 cases e:K05.has v.kvs x with
 | false=>rfl
 | true=>exact absurd ((p.has x).mp e) h
theorem zc9.two_ (p:zc9 v names k a s m){o t:Str} (ho:o∈names) (ht:t∈names) (h:o≠t):two v.kvs o t=none:=by
 unfold two
 rw[if_neg (by rw[(p.has o).mpr ho];decide),if_neg (by rw[(p.has t).mpr ht];decide),if_neg h]
theorem zlj (p:zc9 v names k a s m){n:Str}{ns:List Int} (ok:(Ln.pt n ns).Ok) (h0:0≤ns.getD 0 0∧ns.getD 0 0≤50) (hn:n∉names) (hk:k<20):∃ v',zaM v (Ln.pt n ns).text=some v'∧zc9 v' (names++[n]) (k + 1) a s m:=by
 have e0:(Ln.pt n ns).rd.nu 0=ns.getD 0 0:=by
  match ns,ok.2.1 with
  | [],_=>rfl
  | [x],_=>rfl
 have e1:(Ln.pt n ns).rd.err v=none:=by
  refine(if_pos rfl).trans ?_
  show zaK v.kvs n ((Ln.pt n ns).rd.nu 0)=none
  rw[e0]
  unfold zaK
  rw[if_neg (by rw[ok.1];decide),if_neg (by rw[p.no hn];decide),if_neg (by omega),if_neg (by rw[p.kl];omega)]
 refine⟨_,(Ln.step ok).trans (by rw[e1]),?_⟩
 rw[show(Ln.pt n ns).rd.put v={ v with kvs:=v.kvs++[(Sum.inr n,.int ((Ln.pt n ns).rd.nu 0))] } from if_pos rfl]
 refine⟨fun x=>?_,?_,p.al,p.sl,p.ml⟩
 ·rw[zjN (p.no hn),Bool.or_eq_true,decide_eq_true_iff,p.has x,List.mem_append,List.mem_singleton]
  exact Or.comm
 ·show(v.kvs++[_]).length=k + 1
  rw[List.length_append,p.kl]
  rfl
theorem zlk (p:zc9 v names 20 a s m){n:Str}{ns:List Int} (ok:(Ln.pt n ns).Ok):zaM v (Ln.pt n ns).text=none:=by
 rw[Ln.step ok]
 have e1:∃ er,(Ln.pt n ns).rd.err v=some er:=by
  have:(Ln.pt n ns).rd.err v=zaK v.kvs n ((Ln.pt n ns).rd.nu 0):=if_pos rfl
  rw[this]
  unfold zaK
  split
  ·exact⟨_,rfl⟩
  split
  ·exact⟨_,rfl⟩
  split
  ·exact⟨_,rfl⟩
  ·rw[if_pos (by rw[p.kl];decide)]
   exact⟨_,rfl⟩
 obtain⟨er,e1⟩:=e1
 rw[e1]
theorem zke {o t:Str}{ns:List Int} (ok:(Ln.ar o t ns).Ok):(Ln.ar o t ns).rd.err v=zcu v o t (ns.getD 0 1) (ns.getD 1 1):=by
 refine(if_neg (show kAr≠kPt by decide)).trans ((if_pos rfl).trans ?_)
 show zcu v o t ((Ln.ar o t ns).rd.nu 0) ((Ln.ar o t ns).rd.nu 1)=_
 match ns,ok.2.2.1 with
 | [],_=>rfl
 | [x],_=>rfl
 | [x,y],_=>rfl
theorem zll (p:zc9 v names k a s m){o t:Str}{ns:List Int} (ok:(Ln.ar o t ns).Ok) (ho:o∈names) (ht:t∈names) (hne:o≠t) (h0:1≤ns.getD 0 1∧ns.getD 0 1≤20) (h1:1≤ns.getD 1 1∧ns.getD 1 1≤1000000) (ha:a<40):∃ v',zaM v (Ln.ar o t ns).text=some v'∧zc9 v' names k (a + 1) s m:=by
 have e1:(Ln.ar o t ns).rd.err v=none:=by
  rw[zke ok,zdx (p.two_ ho ht hne),if_neg (by omega),if_neg (by rw[p.al];omega)]
 refine⟨_,(Ln.step ok).trans (by rw[e1]),?_⟩
 rw[show(Ln.ar o t ns).rd.put v={ v with arr:=v.arr++[⟨v.nn,o,t,(Ln.ar o t ns).rd.nu 0,(Ln.ar o t ns).rd.nu 1⟩],nn:=v.nn + 1 } from(if_neg (show kAr≠kPt by decide)).trans (if_pos rfl)]
 refine⟨p.has,p.kl,?_,p.sl,p.ml⟩
 show(v.arr++[_]).length=a + 1
 rw[List.length_append,p.al]
 rfl
theorem zlm (p:zc9 v names k 40 s m){o t:Str}{ns:List Int} (ok:(Ln.ar o t ns).Ok) (ho:o∈names) (ht:t∈names) (hne:o≠t) (h0:1≤ns.getD 0 1∧ns.getD 0 1≤20) (h1:1≤ns.getD 1 1∧ns.getD 1 1≤1000000):zaM v (Ln.ar o t ns).text=none:=by
 rw[Ln.step ok,zke ok,zdx (p.two_ ho ht hne),if_neg (by omega),if_pos (by rw[p.al];decide)]
theorem zkf {o t:Str}:(Ln.sm o t).rd.err v=lim v.kvs v.ss.length o t none:=(if_neg (show kSm≠kPt by decide)).trans ((if_neg (show kSm≠kAr by decide)).trans (if_pos rfl))
theorem zln (p:zc9 v names k a s m){o t:Str} (ok:(Ln.sm o t).Ok) (ho:o∈names) (ht:t∈names) (hne:o≠t) (hs:s<20):∃ v',zaM v (Ln.sm o t).text=some v'∧zc9 v' names k a (s + 1) m:=by
 have e1:(Ln.sm o t).rd.err v=none:=by
  rw[zkf,zbU (p.two_ ho ht hne),if_neg (by decide),if_neg (by rw[p.sl];omega)]
 refine⟨_,(Ln.step ok).trans (by rw[e1]),?_⟩
 rw[show(Ln.sm o t).rd.put v={ v with ss:=v.ss++[(o,t)] } from(if_neg (show kSm≠kPt by decide)).trans ((if_neg (show kSm≠kAr by decide)).trans (if_pos rfl))]
 refine⟨p.has,p.kl,p.al,?_,p.ml⟩
 show(v.ss++[_]).length=s + 1
 rw[List.length_append,p.sl]
 rfl
theorem zlo (p:zc9 v names k a 20 m){o t:Str} (ok:(Ln.sm o t).Ok) (ho:o∈names) (ht:t∈names) (hne:o≠t):zaM v (Ln.sm o t).text=none:=by
 rw[Ln.step ok,zkf,zbU (p.two_ ho ht hne),if_neg (by decide),if_pos (by rw[p.sl];decide)]
theorem zkg {o t:Str}{x:Int}:(Ln.ms o t x).rd.err v=lim v.kvs v.mm.length o t (some x):=(if_neg (show kMs≠kPt by decide)).trans ((if_neg (show kMs≠kAr by decide)).trans (if_neg (show kMs≠kSm by decide)))
theorem zkh {x:Int} (h:0≤x∧x≤99):¬ bad (some x)=true:=by
 show ¬ (decide (x<0) || decide (99<x))=true
 rw[decide_eq_false (by omega),decide_eq_false (by omega)]
 decide
theorem zlp (p:zc9 v names k a s m){o t:Str}{x:Int} (ok:(Ln.ms o t x).Ok) (ho:o∈names) (ht:t∈names) (hne:o≠t) (hx:0≤x∧x≤99) (hm:m<20):∃ v',zaM v (Ln.ms o t x).text=some v'∧zc9 v' names k a s (m + 1):=by
 have e1:(Ln.ms o t x).rd.err v=none:=by
  rw[zkg,zbU (p.two_ ho ht hne),if_neg (zkh hx),if_neg (by rw[p.ml];omega)]
 refine⟨_,(Ln.step ok).trans (by rw[e1]),?_⟩
 rw[show(Ln.ms o t x).rd.put v={ v with mm:=v.mm++[(o,t,x)] } from(if_neg (show kMs≠kPt by decide)).trans ((if_neg (show kMs≠kAr by decide)).trans (if_neg (show kMs≠kSm by decide)))]
 refine⟨p.has,p.kl,p.al,p.sl,?_⟩
 show(v.mm++[_]).length=m + 1
 rw[List.length_append,p.ml]
 rfl
theorem zlq (p:zc9 v names k a s 20){o t:Str}{x:Int} (ok:(Ln.ms o t x).Ok) (ho:o∈names) (ht:t∈names) (hne:o≠t) (hx:0≤x∧x≤99):zaM v (Ln.ms o t x).text=none:=by
 rw[Ln.step ok,zkg,zbU (p.two_ ho ht hne),if_neg (zkh hx),if_pos (by rw[p.ml];decide)]
end
def zjO (names:List Str):Ln→Prop
 | .pt _ _=>False
 | .ar o t ns=>(Ln.ar o t ns).Ok∧o∈names∧t∈names∧o≠t∧(1≤ns.getD 0 1∧ns.getD 0 1≤20)∧(1≤ns.getD 1 1∧ns.getD 1 1≤1000000)
 | .sm o t=>(Ln.sm o t).Ok∧o∈names∧t∈names∧o≠t
 | .ms o t x=>(Ln.ms o t x).Ok∧o∈names∧t∈names∧o≠t∧(0≤x∧x≤99)
theorem zjO.ok {names:List Str}{l:Ln} (h:zjO names l):l.Ok:=by
 cases l with
 | pt n ns=>exact h.elim
 | ar o t ns=>exact h.1
 | sm o t=>exact h.1
 | ms o t x=>exact h.1
def isA:Ln→Bool
 | .ar _ _ _=>true
 | _=>false
def isS:Ln→Bool
 | .sm _ _=>true
 | _=>false
def isM:Ln→Bool
 | .ms _ _ _=>true
 | _=>false
theorem ze0 {names:List Str}{k:Nat}:∀ {ls:List Ln}{v:zbO}{a s m:Nat},(∀ l∈ls,zjO names l)→zc9 v names k a s m→a + ls.countP isA≤40→s + ls.countP isS≤20→m + ls.countP isM≤20→∃ v',zb3 v (ls.map Ln.text)=some v'∧zc9 v' names k (a + ls.countP isA) (s + ls.countP isS) (m + ls.countP isM)
 | [],v,a,s,m,_,p,_,_,_=>⟨v,rfl,p⟩
 | l::r,v,a,s,m,h,p,ha,hs,hm=>by
  have hl:=h l (List.mem_cons_self ..)
  have hr:∀ l∈r,zjO names l:=fun x hx=>h x (List.mem_cons_of_mem _ hx)
  have go:∀ {v1:zbO}{a1 s1 m1:Nat},zaM v l.text=some v1→zc9 v1 names k a1 s1 m1→a1 + r.countP isA=a + (l::r).countP isA→s1 + r.countP isS=s + (l::r).countP isS→m1 + r.countP isM=m + (l::r).countP isM→∃ v',zb3 v ((l::r).map Ln.text)=some v'∧zc9 v' names k (a + (l::r).countP isA) (s + (l::r).countP isS) (m + (l::r).countP isM):=fun {v1 a1 s1 m1} e p1 e1 e2 e3=>by
   obtain⟨v',r1,r2⟩:=ze0 hr p1 (by omega) (by omega) (by omega)
   refine⟨v',?_,by rw[← e1,← e2,← e3];exact r2⟩
   show(match zaM v l.text with|none=>none|some v'=>zb3 v' (r.map Ln.text))=_
   rw[e]
   exact r1
  cases l with
  | pt n ns=>exact hl.elim
  | ar o t ns=>
   obtain⟨g1,g2,g3,g4,g5,g6⟩:=hl
   rw[List.countP_cons_of_pos rfl] at ha
   obtain⟨v1,e,p1⟩:=zll p g1 g2 g3 g4 g5 g6 (by omega)
   exact go e p1 (by rw[List.countP_cons_of_pos rfl];omega) (by rw[List.countP_cons_of_neg (by intro z;cases z)]) (by rw[List.countP_cons_of_neg (by intro z;cases z)])
  | sm o t=>
   obtain⟨g1,g2,g3,g4⟩:=hl
   rw[List.countP_cons_of_pos rfl] at hs
   obtain⟨v1,e,p1⟩:=zln p g1 g2 g3 g4 (by omega)
   exact go e p1 (by rw[List.countP_cons_of_neg (by intro z;cases z)]) (by rw[List.countP_cons_of_pos rfl];omega) (by rw[List.countP_cons_of_neg (by intro z;cases z)])
  | ms o t x=>
   obtain⟨g1,g2,g3,g4,g5⟩:=hl
   rw[List.countP_cons_of_pos rfl] at hm
   obtain⟨v1,e,p1⟩:=zlp p g1 g2 g3 g4 g5 (by omega)
   exact go e p1 (by rw[List.countP_cons_of_neg (by intro z;cases z)]) (by rw[List.countP_cons_of_neg (by intro z;cases z)]) (by rw[List.countP_cons_of_pos rfl];omega)
theorem ze1:∀ {ps:List (Str×List Int)}{names:List Str}{v:zbO}{k:Nat},(∀ p∈ps,(Ln.pt p.1 p.2).Ok∧0≤p.2.getD 0 0∧p.2.getD 0 0≤50)→(names++ps.map Prod.fst).Nodup→k + ps.length≤20→zc9 v names k 0 0 0 →
  ∃ v',zb3 v (ps.map fun p:Str×List Int=>(Ln.pt p.1 p.2).text)=some v'∧zc9 v' (names++ps.map Prod.fst) (k + ps.length) 0 0 0
 | [],names,v,k,_,_,_,p=>⟨v,rfl,by rw[List.map_nil,List.append_nil];exact p⟩
 | q::ps,names,v,k,h,hd,hk,p=>by
  obtain⟨h1,h2,h3⟩:=h q (List.mem_cons_self ..)
  rw[List.length_cons] at hk
  have hn:q.1∉names:=fun z=>(List.nodup_append.mp hd).2.2 _ z _ (List.mem_cons_self ..) rfl
  obtain⟨v1,e,p1⟩:=zlj p h1 ⟨h2,h3⟩ hn (by omega)
  have e2:names++(q::ps).map Prod.fst=names++[q.1]++ps.map Prod.fst:=by rw[List.append_assoc];rfl
  obtain⟨v',r1,r2⟩:=ze1 (ps:=ps) (names:=names++[q.1]) (fun x hx=>h x (List.mem_cons_of_mem _ hx)) (by rw[← e2];exact hd) (by omega) p1
  refine⟨v',?_,?_⟩
  ·show(match zaM v (Ln.pt q.1 q.2).text with|none=>none|some v'=>zb3 v' (ps.map fun p:Str×List Int=>(Ln.pt p.1 p.2).text))=_
   rw[e]
   exact r1
  ·rw[e2,List.length_cons,show k + (ps.length + 1)=k + 1 + ps.length by omega]
   exact r2
end K05
namespace K05
open PySem L2
def b0:List Str:=[Str.ofString "",Str.ofString " ",Str.ofString "arrow",Str.ofString "arrow a",Str.ofString "arrow a b ",Str.ofString "arrow  a b",Str.ofString " arrow a b"]
def b1:List Str:=[Str.ofString "Arrow a b"]
def b2:List Str:=[Str.ofString "arrows a b",Str.ofString "arrow a b 0",Str.ofString "arrow a b 21",Str.ofString "arrow a b 01"]
def b3:List Str:=[Str.ofString "arrow a b 1 0",Str.ofString "arrow a b 1 1000001",Str.ofString "arrow a b 1 2 3"]
def b4:List Str:=[Str.ofString "arrow a b -1",Str.ofString "arrow a b +1",Str.ofString "arrow a b x",Str.ofString "arrow a b 1 007"]
def b5:List Str:=[Str.ofString "arrow a a",Str.ofString "arrow a zzz",Str.ofString "arrow zzz a",Str.ofString "arrow a b 1_0"]
def b6:List Str:=[Str.ofString "same a",Str.ofString "same a b 1",Str.ofString "same a a",Str.ofString "same zzz a",Str.ofString "sames a b"]
def b7:List Str:=[Str.ofString "most a b",Str.ofString "most a b 100",Str.ofString "most a b 00",Str.ofString "most a b -1"]
def b8:List Str:=[Str.ofString "most a a 3",Str.ofString "most a zzz 3",Str.ofString "most a b 3 4"]
def b9:List Str:=[Str.ofString "most a b x"]
def b10:List Str:=[Str.ofString "point",Str.ofString "point a",Str.ofString "point a 3",Str.ofString "point zz 51",Str.ofString "point zz 01",Str.ofString "point zz -1"]
def b11:List Str:=[Str.ofString "point zz 1 2",Str.ofString "point Zz",Str.ofString "point ninelette",Str.ofString "point z1",Str.ofString "point  zz",Str.ofString "point zz ",Str.ofString "points zz"]
def b12:List Str:=[Str.ofString "a",Str.ofString "line",Str.ofString "arrow a b 1000000000000000000000000000000",Str.ofString "point zz x"]
def ze6:List Str:=b0++b1++b2++b3++b4++b5++b6++b7++b8++b9++b10++b11++b12
abbrev nA:Str:=Str.ofString "a"
abbrev nB:Str:=Str.ofString "b"
def six:List Str:=[Str.ofString "a",Str.ofString "b",Str.ofString "ab",Str.ofString "c",Str.ofString "same",Str.ofString "point"]
def zlr (q:Rd):Bool:=
 if q.k=kPt then !zaJ (q.nm 0) || decide (q.nu 0<0∨50<q.nu 0)
 else decide (q.nm 0=q.nm 1) || !six.contains (q.nm 0) || !six.contains (q.nm 1) || (if q.k=kAr then decide ((q.nu 0<1∨20<q.nu 0)∨(q.nu 1<1∨1000000<q.nu 1)) else if q.k=kSm then false else decide (q.nu 0<0∨99<q.nu 0))
def zls (l:Str):Bool:=match look (Txt.split l bk) with
 | none=>true
 | some q=>zlr q
def ze2 (l:Str):Bool:=match look (Txt.split l bk) with
 | none=>true
 | some q=>decide (q.k=kPt) && decide (q.nm 0=nA)
theorem zjP:∀ i:Fin 53,i.val=37∨i.val=38∨zls (ze6.getD i.val Str.empty)=true:=by decide +kernel
theorem zes:ze2 (ze6.getD 37 Str.empty)=true∧ze2 (ze6.getD 38 Str.empty)=true:=by decide +kernel
theorem zlt:∀ l∈ze6,10∉cl l∧l.length≤100:=by decide +kernel
theorem zjQ:∀ i:Fin 53,inV (.str (ze6.getD i.val Str.empty)) [.str (Str.ofString "point a"),.str (Str.ofString "point a 3")]=(decide (i.val=37) || decide (i.val=38)):=by decide +kernel
theorem zlu {v:zbO}{o t:Str} (hv:∀ x,has v.kvs x=true→x∈six) (h:o=t∨o∉six∨t∉six):∃ er,two v.kvs o t=some er:=by
 unfold two
 split
 ·exact⟨_,rfl⟩
 split
 ·exact⟨_,rfl⟩
 rename_i h1 h2
 have h1:has v.kvs o=true:=by simpa using h1
 have h2:has v.kvs t=true:=by simpa using h2
 rcases h with h|h|h
 ·rw[if_pos h]
  exact⟨_,rfl⟩
 ·exact absurd (hv _ h1) h
 ·exact absurd (hv _ h2) h
theorem zd6 {v:zbO}{l:Str} (h:∀ q,look (Txt.split l bk)=some q→∃ er,q.err v=some er):zaM v l=none:=by
 unfold zaM zds
 split
 ·rfl
 ·rename_i q hq
  obtain⟨er,e⟩:=h q hq
  rw[e]
theorem zgl {v:zbO}{q:Rd}{er:Er} (hk:¬ q.k=kPt) (h:two v.kvs (q.nm 0) (q.nm 1)=some er):q.err v=some er:=by
 unfold Rd.err
 rw[if_neg hk]
 split
 ·exact ziC h
 split
 ·exact zeV h
 ·exact zeV h
theorem zjR {v:zbO}{l:Str} (hv:∀ x,has v.kvs x=true→x∈six) (h:zls l=true):zaM v l=none:=by
 refine zd6 fun q hq=>?_
 unfold zls at h
 rw[hq] at h
 replace h:zlr q=true:=h
 unfold zlr at h
 by_cases hk:q.k=kPt
 ·rw[if_pos hk,Bool.or_eq_true,Bool.not_eq_true',decide_eq_true_iff] at h
  rw[show q.err v=zaK v.kvs (q.nm 0) (q.nu 0) from if_pos hk]
  unfold zaK
  split
  ·exact⟨_,rfl⟩
  rename_i h1
  split
  ·exact⟨_,rfl⟩
  ·rw[if_pos (h.resolve_left h1)]
   exact⟨_,rfl⟩
 ·rw[if_neg hk] at h
  by_cases hb:q.nm 0=q.nm 1∨q.nm 0∉six∨q.nm 1∉six
  ·obtain⟨er,e⟩:=zlu hv hb
   exact⟨er,zgl hk e⟩
  ·have n0:decide (q.nm 0=q.nm 1)=false:=decide_eq_false fun z=>hb (.inl z)
   have n1:six.contains (q.nm 0)=true:=List.contains_iff_mem.mpr (Classical.byContradiction fun z=>hb (.inr (.inl z)))
   have n2:six.contains (q.nm 1)=true:=List.contains_iff_mem.mpr (Classical.byContradiction fun z=>hb (.inr (.inr z)))
   rw[n0,n1,n2] at h
   replace h:(if q.k=kAr then decide ((q.nu 0<1∨20<q.nu 0)∨(q.nu 1<1∨1000000<q.nu 1)) else if q.k=kSm then false else decide (q.nu 0<0∨99<q.nu 0))=true:=h
   cases e2:two v.kvs (q.nm 0) (q.nm 1) with
   | some er=>exact⟨er,zgl hk e2⟩
   | none=>
   unfold Rd.err
   rw[if_neg hk]
   split at h
   ·rename_i ka
    have h:=of_decide_eq_true h
    rw[if_pos ka,zdx e2,if_pos h]
    exact⟨_,rfl⟩
   ·rename_i ka
    rw[if_neg ka]
    split at h
    ·cases h
    ·rename_i ks
     have h:=of_decide_eq_true h
     rw[if_neg ks,zbU e2,if_pos (show bad (some (q.nu 0))=true by
      show(decide (q.nu 0<0) || decide (99<q.nu 0))=true
      rw[Bool.or_eq_true,decide_eq_true_iff,decide_eq_true_iff]
      exact h)]
     exact⟨_,rfl⟩
theorem zet {v:zbO}{l:Str} (hv:has v.kvs nA=true) (h:ze2 l=true):zaM v l=none:=by
 refine zd6 fun q hq=>?_
 unfold ze2 at h
 rw[hq] at h
 replace h:(decide (q.k=kPt) && decide (q.nm 0=nA))=true:=h
 rw[Bool.and_eq_true,decide_eq_true_iff,decide_eq_true_iff] at h
 rw[show q.err v=zaK v.kvs (q.nm 0) (q.nu 0) from if_pos h.1,h.2]
 unfold zaK
 split
 ·exact⟨_,rfl⟩
 ·first|exact⟨_,rfl⟩|(rw[if_pos hv];exact⟨_,rfl⟩)
theorem zjS {v v':zbO}{l x:Str} (h:zaM v l=some v') (hx:has v.kvs x=true):has v'.kvs x=true:=by
 obtain⟨q,_,_,rfl⟩:=zgK h
 unfold Rd.put
 split
 ·show has (v.kvs++[_]) x=true
  unfold has zde at hx ⊢
  rw[List.find?_append]
  cases e:v.kvs.find? fun kv=>decide (kv.1=Sum.inr x) with
  | none=>rw[e] at hx;cases hx
  | some z=>rfl
 split
 ·exact hx
 split
 ·exact hx
 ·exact hx
theorem zgm:∀ {ls:List Str}{v v':zbO}{x:Str},zb3 v ls=some v'→has v.kvs x=true→has v'.kvs x=true
 | [],v,v',x,h,hx=>by cases h;exact hx
 | l::r,v,v',x,h,hx=>by
  replace h:(match zaM v l with|none=>none|some v'=>zb3 v' r)=some v':=h
  cases e:zaM v l with
  | none=>rw[e] at h;cases h
  | some v1=>
   rw[e] at h
   exact zgm (ls:=r) h (zjS e hx)
theorem zgM {ls:List Str}{v v':zbO} (h:zb3 v ls=some v') (i:Nat):∃ w,zb3 v (ls.take i)=some w∧zb3 w (ls.drop i)=some v':=by
 rw[← List.take_append_drop i ls,zbW] at h
 cases e:zb3 v (ls.take i) with
 | none=>rw[e] at h;cases h
 | some w=>
  rw[e] at h
  exact⟨w,rfl,h⟩
theorem zgN {ls ms:List Str}{l:Str}{i:Nat}{v:zbO} (hi:i≤ls.length) (h:zb3 emp (ls.take i)=some v) (hs:zaM v l=none):zcG (ls.take i++l::ms) (some i):=by
 have hl:(ls.take i).length=i:=by rw[List.length_take];omega
 refine⟨l,v,?_,?_,hs⟩
 ·rw[List.getElem?_append_right (by omega),hl,Nat.sub_self]
  rfl
 ·rw[List.take_append_of_le_length (by omega),List.take_of_length_le (by omega)]
  exact h
theorem zlv {ls:List Str} (h:2≤ls.length):ls=[]∨(ls≠[]∧Txt.join nl ls≠Str.ofString ""):=by
 cases ls with
 | nil=>exact .inl rfl
 | cons x r=>
  refine .inr ⟨by simp,fun e=>?_⟩
  have e2:(Builtin.Str.glued nl (x::r)).length=0:=congrArg Str.length e
  rw[StrLaws.glued_eq_join,PyProof.Rows.len_join_cons] at e2
  rw[List.length_cons] at h
  have e3:nl.length=1:=by decide
  rw[e3] at e2
  omega
theorem zda {l:Ln} (h:l.Ok):10∉cl l.text∧l.text.length≤100:=⟨Ln.noNl h,by have:=Ln.len h;omega⟩
theorem ziS {v:zbO}{names:List Str}{k a s m:Nat} (p:zc9 v names k a s m){l:Ln} (ok:l.Ok) (hk:¬ l.rd.k=kPt) (h:l.rd.nm 0∉names∨l.rd.nm 1∉names):zaM v l.text=none:=by
 have e:∃ er,two v.kvs (l.rd.nm 0) (l.rd.nm 1)=some er:=by
  unfold two
  split
  ·exact⟨_,rfl⟩
  split
  ·exact⟨_,rfl⟩
  rename_i h1 h2
  have h1:has v.kvs (l.rd.nm 0)=true:=by simpa using h1
  have h2:has v.kvs (l.rd.nm 1)=true:=by simpa using h2
  rcases h with h|h
  ·exact absurd ((p.has _).mp h1) h
  ·exact absurd ((p.has _).mp h2) h
 obtain⟨er,e⟩:=e
 rw[Ln.step ok,zgl hk e]
end K05
namespace K05
open PySem L2
theorem jn2 (x y:Str):Txt.join bk [x,y]=x++bk++y:=StrLaws.glued_eq_join _ _
theorem jn3 (x y z:Str):Txt.join bk [x,y,z]=x++bk++(y++bk++z):=StrLaws.glued_eq_join _ _
theorem jn4 (x y z u:Str):Txt.join bk [x,y,z,u]=x++bk++(y++bk++(z++bk++u)):=StrLaws.glued_eq_join _ _
theorem jn5 (x y z u v:Str):Txt.join bk [x,y,z,u,v]=x++bk++(y++bk++(z++bk++(u++bk++v))):=StrLaws.glued_eq_join _ _
theorem k_pt:Str.ofString "point "=kPt++bk:=by decide
theorem k_ar:Str.ofString "arrow "=kAr++bk:=by decide
theorem k_sm:Str.ofString "same "=kSm++bk:=by decide
theorem k_ms:Str.ofString "most "=kMs++bk:=by decide
theorem k_1:Str.ofString " 1 "=bk++tn 1++bk:=by decide +kernel
theorem tx_pt (n:Str):Str.ofString "point "++n=(Ln.pt n []).text:=by rw[k_pt];exact(jn2 _ _).symm
theorem tx_pth (n:Str) (h:Int):Str.ofString "point "++n++bk++tn h=(Ln.pt n [h]).text:=by
 rw[k_pt]
 refine Eq.trans ?_ (jn3 _ _ _).symm
 simp only[PySem.Str.append_assoc]
theorem tx_ar (o t:Str):Str.ofString "arrow "++(o++bk++t)=(Ln.ar o t []).text:=by rw[k_ar];exact(jn3 _ _ _).symm
theorem tx_ar1 (o t:Str) (s:Int):Str.ofString "arrow "++(o++bk++t)++bk++tn s=(Ln.ar o t [s]).text:=by
 rw[k_ar]
 refine Eq.trans ?_ (jn4 _ _ _ _).symm
 simp only[PySem.Str.append_assoc]
theorem tx_ar2 (o t:Str) (s:Int):Str.ofString "arrow "++(o++bk++t)++Str.ofString " 1 "++tn s=(Ln.ar o t [1,s]).text:=by
 rw[k_ar,k_1]
 refine Eq.trans ?_ (jn5 _ _ _ _ _).symm
 simp only[PySem.Str.append_assoc]
theorem zlw (o t:Str):Str.ofString "same "++(o++bk++t)=(Ln.sm o t).text:=by rw[k_sm];exact(jn3 _ _ _).symm
theorem tx_ms (o t:Str) (m:Int):Str.ofString "most "++(o++bk++t)++bk++tn m=(Ln.ms o t m).text:=by
 rw[k_ms]
 refine Eq.trans ?_ (jn4 _ _ _ _).symm
 simp only[PySem.Str.append_assoc]
theorem zch:∀ x∈six,zaJ x=true∧x.length≤5:=by decide +kernel
theorem zd7:six.Nodup:=by decide +kernel
theorem zgO {n:Int} (h:NOk n):n.natAbs.log2<1920:=by
 obtain⟨h0,h1⟩:=h
 by_cases z:n.natAbs=0
 ·rw[z]
  decide
 ·have:n.natAbs.log2<24:=(Nat.log2_lt z).mpr (by show n.natAbs<16777216;omega)
  omega
theorem tn7 {n:Int} (h:NOk n):(tn n).length≤7:=(ziJ h.1 h.2).2
theorem la {x y:Str}{m n:Nat} (h1:x.length≤m) (h2:y.length≤n):(x++y).length≤m + n:=by
 rw[PySem.Str.length_append]
 omega
theorem lz {x y:Str}{m n:Nat} (h1:x.length≤m) (h2:y.length≤n) (h:m + n≤1000):x.length + y.length≤sizeLine:=by
 rw[sizeLine_eq]
 omega
theorem c6:(Str.ofString "point ").length≤6∧(Str.ofString "arrow ").length≤6∧(Str.ofString "same ").length≤6∧(Str.ofString "most ").length≤6∧bk.length≤1∧(Str.ofString " 1 ").length≤3:=by decide
theorem ziT {n i:Nat} (hn:n≤6) (hi:i<n):∃ o,(six.take n)[i]?=some o∧o∈six.take n∧zaJ o=true∧o.length≤5:=by
 have hl:(six.take n).length=n:=by rw[List.length_take,Nat.min_eq_left (show n≤six.length from hn)]
 have hi':i<(six.take n).length:=by omega
 refine⟨(six.take n)[i],List.getElem?_eq_getElem hi',List.getElem_mem hi',?_⟩
 exact zch _ (List.mem_of_mem_take (List.getElem_mem hi'))
theorem six_ne {n i j:Nat}{o t:Str} (ho:(six.take n)[i]?=some o) (ht:(six.take n)[j]?=some t) (h:i≠j):o≠t:=fun e=>by
 subst e
 have nd:(six.take n).Nodup:=zd7.sublist (List.take_sublist ..)
 obtain⟨h1,e1⟩:=List.getElem?_eq_some_iff.mp ho
 exact h ((List.getElem?_inj h1 nd).mp (ho.trans ht.symm))
theorem pick {ls:List Ln}{i:Int} (h0:0≤i) (h1:i<ls.length):∃ l∈ls,atI (ls.map fun l=>V.str l.text) i=some (.str l.text):=by
 have hi:i.toNat<ls.length:=by omega
 refine⟨ls[i.toNat],List.getElem_mem hi,?_⟩
 rw[zdh h0,List.getElem?_map,List.getElem?_eq_getElem hi]
 rfl
section
variable {P:Program}{w:World}{K:PySem.W.Frag}{mg:Str→Option Value}{base:Heap}{a:Adr}
def spGood:Sp:=fun vs H Q _=>∃ p,∃ n:Nat,∃ c,vs=[.ref p,.int c]∧H p=some (.lst ((six.take n).map V.str))∧3≤n∧n≤6∧∀ l,zjO (six.take n) l→∀ H',zan H H'→Q (.str l.text) H'
set_option maxHeartbeats 1000000 in
theorem zlx (T:Tx K mg a):Cal P w K mg base CX0 2 "_law_good" ["_law_names","_law_cell"] [] spGood:=T.d__law_good.cal fun f fd F=>by
 have c__law_mixed:=zjK (P:=P) (w:=w) (base:=base) T
 refine F.ok zbl (fun vs H Q E h=>?_) (fun cdv A outer s H vs Q E hr h=>?_)
 ·obtain⟨p,n,c,rfl,_⟩:=h
  rfl
 ·obtain⟨p,n,c,rfl,hp,n3,n6,k⟩:=h
  have ln:(((six.take n).map V.str).length:Int)=n:=by rw[List.length_map,List.length_take,Nat.min_eq_left (show n≤six.length from n6)]
  refine⟨_,(zac (zaw (i:=2) zbl.nd rfl (by first|exact Or.inl rfl|exact Or.inr rfl) (zao zbr (zaR c__law_mixed (hr.mono (by decide)) rfl (zaa (pv 1) (zaa zai zae))) (zaq zar rfl T.n_len zaU (zaa (pv 0) zae))))
   (zac (zaw (i:=3) zbl.nd rfl (by first|exact Or.inl rfl|exact Or.inr rfl) (zao zbr (zao zbJ (zao zbJ (pv 2) zai) (zao zbr (zaR c__law_mixed (hr.mono (by decide)) rfl (zaa (pv 1) (zaa zai zae))) (zao zdB (zaq zar rfl T.n_len zaU (zaa (pv 0) zae)) zai))) (zaq zar rfl T.n_len zaU (zaa (pv 0) zae))))
   (zac (zaw (i:=4) zbl.nd rfl (by first|exact Or.inl rfl|exact Or.inr rfl) (zao zak (zao zak (zaZ zaH (pv 0) (pv 2) (fun _ _=>rfl)) zap) (zaZ zaH (pv 0) (pv 3) (fun _ _=>rfl))))
   (zac (zaw (i:=5) zbl.nd rfl (by first|exact Or.inl rfl|exact Or.inr rfl) (zdb (zaa (zao zak zap (pv 4)) (zaa (zao zak (zao zak (zao zak zap (pv 4)) zap) (zbs zby rfl T.n_str zfw (zaa (zao zbJ zai (zao zbr (zaR c__law_mixed (hr.mono (by decide)) rfl (zaa (pv 1) (zaa zai zae))) zai)) zae))) (zaa (zao zak zap (pv 4)) zae)))))
   (zac (za4 (zb4 PySem.F.plainAttrs_list PySem.F.slot_list_append PySem.F.type_list_append zbv (pv 5) (zaa (zao zak (zao zak (zao zak zap (pv 4)) zap) (zbs zby rfl T.n_str zfw (zaa (zao zbJ zai (zao zbr (pv 1) (zao op_pow zai zai))) zae))) zae)))
   (zaj (zaA (zaZ zaH (zao zbb (pv 5) (zdb (zaa (zao zak (zao zak (zao zak zap (pv 4)) zap) (zbs zby rfl T.n_str zfw (zaa (zao zbr (zaR c__law_mixed (hr.mono (by decide)) rfl (zaa (pv 1) (zaa zai zae))) zai) zae))) zae))) (zao zbr (zaR c__law_mixed (hr.mono (by decide)) rfl (zaa (pv 1) (zaa zai zae))) zai) (fun _ _=>rfl))))))))),?_⟩
  refine⟨_,rfl,c,1,rfl,_,rfl,p,_,rfl,.inl (SqL.of hp),_,_,rfl,rfl,(show(0:Int)<_ by rw[ln];omega),?_⟩
  dsimp only[zaQ]
  rw[ln]
  have o1:0≤zbm c 1 % (n:Int):=Int.emod_nonneg _ (by omega)
  have o2:zbm c 1 % (n:Int)<n:=Int.emod_lt_of_pos _ (by omega)
  generalize zbm c 1 % (n:Int)=one at o1 o2 ⊢
  refine⟨_,rfl,_,_,rfl,rfl,_,rfl,c,2,rfl,_,rfl,p,_,rfl,.inl (SqL.of hp),_,_,rfl,rfl,_,_,rfl,rfl,(show(0:Int)<_ by rw[ln];omega),_,_,rfl,rfl,_,rfl,p,_,rfl,.inl (SqL.of hp),_,_,rfl,rfl,(show(0:Int)<_ by rw[ln];omega),?_⟩
  dsimp only[zaQ]
  rw[ln]
  have x1:0≤zbm c 2 % ((n:Int) - 1):=Int.emod_nonneg _ (by omega)
  have x2:zbm c 2 % ((n:Int) - 1)<n - 1:=Int.emod_lt_of_pos _ (by omega)
  generalize zbm c 2 % ((n:Int) - 1)=x at x1 x2 ⊢
  have t1:0≤(one + 1 + x) % (n:Int):=Int.emod_nonneg _ (by omega)
  have t2:(one + 1 + x) % (n:Int)<n:=Int.emod_lt_of_pos _ (by omega)
  have t3:(one + 1 + x) % (n:Int)≠one:=by
   by_cases z:one + 1 + x<n
   ·rw[Int.emod_eq_of_lt (by omega) z]
    omega
   ·have:one + 1 + x=(one + 1 + x - n) + n:=by omega
    rw[this,Int.add_emod_right,Int.emod_eq_of_lt (by omega) (by omega)]
    omega
  generalize (one + 1 + x) % (n:Int)=other at t1 t2 t3 ⊢
  obtain⟨o,eo,mo,no,lo⟩:=ziT (n:=n) (i:=one.toNat) n6 (by omega)
  obtain⟨t,et,mt,nt,lt⟩:=ziT (n:=n) (i:=other.toNat) n6 (by omega)
  have hne:o≠t:=six_ne eo et (by omega)
  have ao:atI ((six.take n).map V.str) one=some (.str o):=by rw[zdh o1,List.getElem?_map,eo];rfl
  have at_:atI ((six.take n).map V.str) other=some (.str t):=by rw[zdh t1,List.getElem?_map,et];rfl
  obtain⟨p6,a6,s6,m6,b1,e3⟩:=c6
  have l1:=la lo b1
  have lp:=la l1 lt
  refine⟨_,rfl,_,rfl,p,_,_,_,rfl,rfl,SqL.of hp,ao,_,_,rfl,rfl,lz lo b1 (by decide),_,rfl,_,rfl,p,_,_,_,rfl,rfl,SqL.of hp,at_,_,_,rfl,rfl,lz l1 lt (by decide),?_⟩
  have y1:0≤zbm c 3 % (20:Int):=Int.emod_nonneg _ (by omega)
  have y2:zbm c 3 % (20:Int)<20:=Int.emod_lt_of_pos _ (by omega)
  have ySp:NOk (1 + zbm c 3 % (20:Int)):=⟨by omega,by omega⟩
  have z1:0≤c % (10 ^ 6:Int):=Int.emod_nonneg _ (by decide)
  have z2:c % (10 ^ 6:Int)<1000000:=Int.emod_lt_of_pos _ (by decide)
  have zW:NOk (1 + c % (10 ^ 6:Int)):=⟨by omega,by omega⟩
  have w1:0≤zbm c 4 % (100:Int):=Int.emod_nonneg _ (by omega)
  have w2:zbm c 4 % (100:Int)<100:=Int.emod_lt_of_pos _ (by omega)
  have wM:NOk (zbm c 4 % (100:Int)):=⟨by omega,by omega⟩
  have la1:=la a6 lp
  have la2:=la la1 b1
  have la3:=la la1 e3
  have lm1:=la m6 lp
  have lm2:=la lm1 b1
  refine⟨_,rfl,_,_,rfl,rfl,lz a6 lp (by decide),_,rfl,_,_,rfl,rfl,lz a6 lp (by decide),_,_,rfl,rfl,lz la1 b1 (by decide),_,rfl,c,3,rfl,_,_,rfl,rfl,(by show(0:Int)<20;decide),_,_,rfl,rfl,_,rfl,zgO ySp,_,_,rfl,rfl,lz la2 (tn7 ySp) (by decide),_,rfl,_,_,rfl,rfl,lz s6 lp (by decide),(by show 3≤sizeLine;decide),fun q nq=>?_⟩
  have e1:=tx_ar o t
  have e2:=tx_ar1 o t (1 + zbm c 3 % (20:Int))
  have e4:=zlw o t
  have e5:=tx_ar2 o t (1 + c % (10 ^ 6:Int))
  have e6:=tx_ms o t (zbm c 4 % (100:Int))
  have s1:zan H (upd H q (.lst [.str (Str.ofString "arrow "++(o++bk++t)),.str (Str.ofString "arrow "++(o++bk++t)++bk++tn (1 + zbm c 3 % (20:Int))),.str (Str.ofString "same "++(o++bk++t))])):=zan.new nq
  refine⟨_,rfl,.inl ⟨rfl,_,SqL.of zab⟩,_,rfl,_,_,rfl,rfl,lz a6 lp (by decide),_,_,rfl,rfl,lz la1 e3 (by decide),_,rfl,_,_,rfl,rfl,⟨by decide,by decide,by decide⟩,_,_,rfl,rfl,(by show(0:Int)<10 ^ 6;decide),_,_,rfl,rfl,_,rfl,zgO zW,_,_,rfl,rfl,lz la3 (tn7 zW) (by decide),q,_,_,rfl,rfl,zab,(by show 3<sizeLine;decide),?_⟩
  have s2:=zaD (o:=.lst ([.str (Str.ofString "arrow "++(o++bk++t)),.str (Str.ofString "arrow "++(o++bk++t)++bk++tn (1 + zbm c 3 % (20:Int))),.str (Str.ofString "same "++(o++bk++t))]++[.str (Str.ofString "arrow "++(o++bk++t)++Str.ofString " 1 "++tn (1 + c % (10 ^ 6:Int)))])) nq s1
  have ok2:zaJ o=true∧zaJ t=true:=⟨no,nt⟩
  have good:∀ l∈[Ln.ar o t [],.ar o t [1 + zbm c 3 % (20:Int)],.sm o t,.ar o t [1,1 + c % (10 ^ 6:Int)],.ms o t (zbm c 4 % (100:Int))],zjO (six.take n) l:=by
   intro l hl
   simp only[List.mem_cons,List.not_mem_nil,or_false] at hl
   rcases hl with rfl|rfl|rfl|rfl|rfl
   ·exact⟨⟨no,nt,by decide,fun m hm=>by cases hm⟩,mo,mt,hne,by decide,by decide⟩
   ·exact⟨⟨no,nt,by show 1≤2;decide,fun m hm=>by rw[List.mem_singleton.mp hm];exact ySp⟩,mo,mt,hne,by show(1:Int)≤1 + _∧1 + _≤(20:Int);omega,by show(1:Int)≤1∧(1:Int)≤_;omega⟩
   ·exact⟨ok2,mo,mt,hne⟩
   ·refine⟨⟨no,nt,by show 2≤2;decide,fun m hm=>?_⟩,mo,mt,hne,by show(1:Int)≤1∧(1:Int)≤_;omega,by show(1:Int)≤1 + _∧1 + _≤(1000000:Int);omega⟩
    rcases List.mem_cons.mp hm with rfl|hm
    ·exact⟨by decide,by decide⟩
    ·rw[List.mem_singleton.mp hm]
     exact zW
   ·exact⟨⟨no,nt,wM⟩,mo,mt,hne,by omega⟩
  have v1:0≤zbm c 5 % (5:Int):=Int.emod_nonneg _ (by omega)
  have v2:zbm c 5 % (5:Int)<5:=Int.emod_lt_of_pos _ (by omega)
  obtain⟨l,hl,hat⟩:=pick (ls:=[Ln.ar o t [],.ar o t [1 + zbm c 3 % (20:Int)],.sm o t,.ar o t [1,1 + c % (10 ^ 6:Int)],.ms o t (zbm c 4 % (100:Int))]) v1 v2
  have k':=k l (good l hl)
  have hat:atI ([.str (Str.ofString "arrow "++(o++bk++t)),.str (Str.ofString "arrow "++(o++bk++t)++bk++tn (1 + zbm c 3 % (20:Int))),.str (Str.ofString "same "++(o++bk++t))]++[.str (Str.ofString "arrow "++(o++bk++t)++Str.ofString " 1 "++tn (1 + c % (10 ^ 6:Int)))]++[.str (Str.ofString "most "++(o++bk++t)++bk++tn (zbm c 4 % (100:Int)))]) (zbm c 5 % (5:Int))=some (V.str l.text):=by
   rw[e2,e5,e1,e4,e6]
   exact hat
  refine⟨_,rfl,_,rfl,_,_,rfl,rfl,lz m6 lp (by decide),_,_,rfl,rfl,lz lm1 b1 (by decide),_,rfl,c,4,rfl,_,_,rfl,rfl,(by show(0:Int)<100;decide),_,rfl,zgO wM,_,_,rfl,rfl,lz lm2 (tn7 wM) (by decide),(by show 1≤sizeLine;decide),fun q2 nq2=>?_⟩
  refine⟨q,q2,_,_,rfl,rfl,(zan.new nq2) _ _ zab,zab,(by show 4 + 1≤sizeLine;decide),fun q3 nq3=>?_⟩
  exact⟨_,rfl,c,5,rfl,_,_,rfl,rfl,(by show(0:Int)<5;decide),q3,_,_,_,rfl,rfl,SqL.of zab,hat,k' _ ((s2.trans (zan.new nq2)).trans (zan.new nq3))⟩
end
end K05
namespace K05
open PySem L2
theorem cut2 {n:Nat} (h3:3≤n) (h6:n≤6):zdu ((six.take n).map V.str) none (some 2)=[.str nA,.str nB]:=by
 match n,h3,h6 with
 | 3,_,_=>rfl
 | 4,_,_=>rfl
 | 5,_,_=>rfl
 | 6,_,_=>rfl
abbrev nP:Str:=nA++bk++nB
def eta:Txs:=[none,none,some nA,some nB,some nP,none]
theorem zbi {G:Hp}{q p1:Addr}{xs zs:List Str}{Q:VK} (h:G q=some (.lst (xs.map V.str))) (hl:xs.length + zs.length≤1000) (n1:G p1=none) (k:∀ p G',zan G G'→G p=none→G' p=some (.lst ((xs++zs).map V.str))→Q (.ref p) G'):rCat (.ref q) (.ref p1) (upd G p1 (.lst (zs.map V.str))) Q:=
 ⟨q,p1,_,_,rfl,rfl,(zan.new n1) _ _ h,zab,by rw[List.length_map,List.length_map,sizeLine_eq];omega,fun p np=>k p _ ((zan.new n1).trans (zan.new np)) (zbP (zan.new n1) np) (by rw[zab,List.map_append])⟩
section
variable {P:Program}{w:World}{K:PySem.W.Frag}{mg:Str→Option Value}{base:Heap}{a:Adr}
def spBad:Sp:=fun vs H Q _=>∃ p,∃ n:Nat,∃ c,vs=[.ref p,.int c]∧H p=some (.lst ((six.take n).map V.str))∧3≤n∧n≤6∧∀ i:Fin 53,∀ H',zan H H'→Q (.str (ze6.getD i.val Str.empty)) H'
set_option maxHeartbeats 1000000 in
theorem ok_bad (T:Tx K mg a):Cal P w K mg base CX0 2 "_law_bad" ["_law_names","_law_cell"] [] spBad:=T.d__law_bad.cal fun f fd F=>by
 refine F.ok zax (fun vs H Q E h=>?_) (fun cdv A outer s H vs Q E hr h=>?_)
 ·obtain⟨p,n,c,rfl,_⟩:=h
  rfl
 ·obtain⟨p,n,c,rfl,hp,n3,n6,k⟩:=h
  refine⟨_,(zac (ps_asg (zaY zbu (pv 0) zbt (za9 zai)) (zkT (zaz (zas (i:=2) zax.nd rfl (by first|exact Or.inl rfl|exact Or.inr rfl)) (zaz (zas (i:=3) zax.nd rfl (by first|exact Or.inl rfl|exact Or.inr rfl)) zb9))))
   (zac (zaw (i:=4) zax.nd rfl (by first|exact Or.inl rfl|exact Or.inr rfl) (zao zak (zao zak (pv 2) zap) (pv 3)))
   (zac (zaw (i:=5) zax.nd rfl (by first|exact Or.inl rfl|exact Or.inr rfl) (zbg (zad zal (zad zal (zad zal (zad (zag zal (zay (pv 2))) (zad (zag (zag zal (zay (pv 4))) zal) (zad (zag zal (zay (pv 4))) (zad (zag zal (zay (pv 4))) zaP)))))))))
   (zac (za4 (zb4 PySem.F.plainAttrs_list PySem.F.slot_list_append PySem.F.type_list_append zbv (pv 5) (zaa (zao zak zap (pv 4)) zae)))
   (zac (zaw (i:=5) zax.nd rfl (by first|exact Or.inl rfl|exact Or.inr rfl) (zao zbb (pv 5) (zbg (zad (zag zal (zay (pv 4))) (zad (zag (zag zal (zay (pv 4))) zal) (zad (zag (zag zal (zay (pv 4))) zal) (zad (zag (zag zal (zay (pv 4))) zal) zaP)))))))
   (zac (zaw (i:=5) zax.nd rfl (by first|exact Or.inl rfl|exact Or.inr rfl) (zao zbb (pv 5) (zbg (zad (zag (zag zal (zay (pv 4))) zal) (zad (zag (zag zal (zay (pv 4))) zal) (zad (zag (zag zal (zay (pv 4))) zal) zaP))))))
   (zac (zaw (i:=5) zax.nd rfl (by first|exact Or.inl rfl|exact Or.inr rfl) (zao zbb (pv 5) (zbg (zad (zag (zag zal (zay (pv 4))) zal) (zad (zag (zag zal (zay (pv 4))) zal) (zad (zag (zag zal (zay (pv 4))) zal) (zad (zag (zag zal (zay (pv 4))) zal) zaP)))))))
   (zac (zaw (i:=5) zax.nd rfl (by first|exact Or.inl rfl|exact Or.inr rfl) (zao zbb (pv 5) (zbg (zad (zag (zag (zag zal (zay (pv 2))) zal) (zay (pv 2))) (zad (zag (zag zal (zay (pv 2))) zal) (zad (zag zal (zay (pv 2))) (zad (zag (zag zal (zay (pv 4))) zal) zaP)))))))
   (zac (zaw (i:=5) zax.nd rfl (by first|exact Or.inl rfl|exact Or.inr rfl) (zao zbb (pv 5) (zbg (zad (zag zal (zay (pv 2))) (zad (zag (zag zal (zay (pv 4))) zal) (zad (zag (zag (zag zal (zay (pv 2))) zal) (zay (pv 2))) (zad (zag zal (zay (pv 2))) (zad (zag zal (zay (pv 4))) zaP))))))))
   (zac (zaw (i:=5) zax.nd rfl (by first|exact Or.inl rfl|exact Or.inr rfl) (zao zbb (pv 5) (zbg (zad (zag zal (zay (pv 4))) (zad (zag (zag zal (zay (pv 4))) zal) (zad (zag (zag zal (zay (pv 4))) zal) (zad (zag (zag zal (zay (pv 4))) zal) zaP)))))))
   (zac (zaw (i:=5) zax.nd rfl (by first|exact Or.inl rfl|exact Or.inr rfl) (zao zbb (pv 5) (zbg (zad (zag (zag (zag (zag zal (zay (pv 2))) zal) (zay (pv 2))) zal) (zad (zag (zag zal (zay (pv 2))) zal) (zad (zag (zag zal (zay (pv 4))) zal) zaP))))))
   (zac (za4 (zb4 PySem.F.plainAttrs_list PySem.F.slot_list_append PySem.F.type_list_append zbv (pv 5) (zaa (zao zak (zao zak zap (pv 4)) zap) zae)))
   (zac (zaw (i:=5) zax.nd rfl (by first|exact Or.inl rfl|exact Or.inr rfl) (zao zbb (pv 5) (zbg (zad zal (zad (zag zal (zay (pv 2))) (zad (zag (zag zal (zay (pv 2))) zal) (zad zal (zad zal (zad zal zaP)))))))))
   (zac (zaw (i:=5) zax.nd rfl (by first|exact Or.inl rfl|exact Or.inr rfl) (zao zbb (pv 5) (zbg (zad zal (zad zal (zad zal (zad zal (zad zal (zad zal (zad zal zaP))))))))))
   (zaj (zaA (zaZ zaH (zao zbb (pv 5) (zbg (zad (zay (pv 2)) (zad zal (zad (zag (zag (zag zal (zay (pv 4))) zal) (zju (n:=30) zal)) (zad zal zaP)))))) (zao zbr (pv 1) zai) (fun _ _=>rfl)))))))))))))))))),?_⟩
  refine⟨_,rfl,_,rfl,p,_,rfl,SqL.of hp,fun q nq=>?_⟩
  dsimp only
  rw[cut2 n3 n6]
  have s0:zan H (upd H q (.lst [.str nA,.str nB])):=zan.new nq
  have h0:upd H q (.lst [.str nA,.str nB]) q=some (.lst [.str nA,.str nB]):=zab
  generalize upd H q (.lst [.str nA,.str nB])=H0 at s0 h0 ⊢
  refine⟨q,_,rfl,SqL.of h0,rfl,_,_,rfl,_,_,rfl,rfl,?_⟩
  refine⟨_,rfl,_,_,rfl,rfl,(by decide +kernel),_,rfl,_,_,rfl,rfl,(by decide +kernel),?_⟩
  refine⟨eta,b0,rfl,by decide +kernel,by decide +kernel,fun q1 n1=>?_⟩
  have nH:H q1=none:=zbP s0 n1
  have s1:zan H (upd H0 q1 (.lst (b0.map V.str))):=s0.trans (zan.new n1)
  have h1:upd H0 q1 (.lst (b0.map V.str)) q1=some (.lst (b0.map V.str)):=zab
  generalize upd H0 q1 (.lst (b0.map V.str))=H1 at s1 h1 ⊢
  refine⟨_,rfl,.inl ⟨rfl,_,SqL.of h1⟩,_,rfl,_,_,rfl,rfl,(by decide +kernel),q1,_,_,rfl,rfl,h1,(by decide +kernel),?_⟩
  have s2:zan H (upd H1 q1 (.lst (b0.map V.str++[.str (Str.ofString "Arrow "++nP)]))):=zaD nH s1
  have h2:upd H1 q1 (.lst (b0.map V.str++[.str (Str.ofString "Arrow "++nP)])) q1=some (.lst ((b0++b1).map V.str)):=by
   rw[zab,List.map_append,show b1=[Str.ofString "Arrow "++nP] by decide +kernel]
   rfl
  generalize upd H1 q1 (.lst (b0.map V.str++[.str (Str.ofString "Arrow "++nP)]))=H2 at s2 h2 ⊢
  refine⟨_,rfl,eta,b2,rfl,by decide +kernel,by decide +kernel,fun p1 m1=>zbi h2 (by decide +kernel) m1 fun q3 H3 s3 _ h3=>?_⟩
  show zaQ 5 (V.ref q3) [some (V.ref p),some (V.int c),some (V.str nA),some (V.str nB),some (V.str nP),some (V.ref q1)] H3 _
  refine⟨_,rfl,eta,b3,rfl,by decide +kernel,by decide +kernel,fun p1 m1=>zbi h3 (by decide +kernel) m1 fun q4 H4 s4 _ h4=>?_⟩
  show zaQ 5 (V.ref q4) [some (V.ref p),some (V.int c),some (V.str nA),some (V.str nB),some (V.str nP),some (V.ref q3)] H4 _
  refine⟨_,rfl,eta,b4,rfl,by decide +kernel,by decide +kernel,fun p1 m1=>zbi h4 (by decide +kernel) m1 fun q5 H5 s5 _ h5=>?_⟩
  show zaQ 5 (V.ref q5) [some (V.ref p),some (V.int c),some (V.str nA),some (V.str nB),some (V.str nP),some (V.ref q4)] H5 _
  refine⟨_,rfl,eta,b5,rfl,by decide +kernel,by decide +kernel,fun p1 m1=>zbi h5 (by decide +kernel) m1 fun q6 H6 s6 _ h6=>?_⟩
  show zaQ 5 (V.ref q6) [some (V.ref p),some (V.int c),some (V.str nA),some (V.str nB),some (V.str nP),some (V.ref q5)] H6 _
  refine⟨_,rfl,eta,b6,rfl,by decide +kernel,by decide +kernel,fun p1 m1=>zbi h6 (by decide +kernel) m1 fun q7 H7 s7 _ h7=>?_⟩
  show zaQ 5 (V.ref q7) [some (V.ref p),some (V.int c),some (V.str nA),some (V.str nB),some (V.str nP),some (V.ref q6)] H7 _
  refine⟨_,rfl,eta,b7,rfl,by decide +kernel,by decide +kernel,fun p1 m1=>zbi h7 (by decide +kernel) m1 fun q8 H8 s8 _ h8=>?_⟩
  show zaQ 5 (V.ref q8) [some (V.ref p),some (V.int c),some (V.str nA),some (V.str nB),some (V.str nP),some (V.ref q7)] H8 _
  refine⟨_,rfl,eta,b8,rfl,by decide +kernel,by decide +kernel,fun p1 m1=>zbi h8 (by decide +kernel) m1 fun q9 H9 s9 n9 h9=>?_⟩
  show zaQ 5 (V.ref q9) [some (V.ref p),some (V.int c),some (V.str nA),some (V.str nB),some (V.str nP),some (V.ref q8)] H9 _
  have t8:zan H H8:=s2.trans (s3.trans (s4.trans (s5.trans (s6.trans (s7.trans s8)))))
  refine⟨_,rfl,.inl ⟨rfl,_,SqL.of h9⟩,_,rfl,_,_,rfl,rfl,(by decide +kernel),_,_,rfl,rfl,(by decide +kernel),q9,_,_,rfl,rfl,h9,(by decide +kernel),?_⟩
  have s10:zan H (upd H9 q9 (.lst ((b0++b1++b2++b3++b4++b5++b6++b7++b8).map V.str++[.str (Str.ofString "most "++nP++Str.ofString " x")]))):=zaD (zbP t8 n9) (t8.trans s9)
  have h10:upd H9 q9 (.lst ((b0++b1++b2++b3++b4++b5++b6++b7++b8).map V.str++[.str (Str.ofString "most "++nP++Str.ofString " x")])) q9=some (.lst ((b0++b1++b2++b3++b4++b5++b6++b7++b8++b9).map V.str)):=by
   rw[zab,List.map_append (l₂:=b9),show b9=[Str.ofString "most "++nP++Str.ofString " x"] by decide +kernel]
   rfl
  generalize upd H9 q9 (.lst ((b0++b1++b2++b3++b4++b5++b6++b7++b8).map V.str++[.str (Str.ofString "most "++nP++Str.ofString " x")]))=H10 at s10 h10 ⊢
  refine⟨_,rfl,eta,b10,rfl,by decide +kernel,by decide +kernel,fun p1 m1=>zbi h10 (by decide +kernel) m1 fun q11 H11 s11 _ h11=>?_⟩
  show zaQ 5 (V.ref q11) [some (V.ref p),some (V.int c),some (V.str nA),some (V.str nB),some (V.str nP),some (V.ref q9)] H11 _
  refine⟨_,rfl,eta,b11,rfl,by decide +kernel,by decide +kernel,fun p1 m1=>zbi h11 (by decide +kernel) m1 fun q12 H12 s12 _ h12=>?_⟩
  show zaQ 5 (V.ref q12) [some (V.ref p),some (V.int c),some (V.str nA),some (V.str nB),some (V.str nP),some (V.ref q11)] H12 _
  refine⟨_,rfl,eta,b12,rfl,by decide +kernel,by decide +kernel,fun p1 m1=>zbi h12 (by decide +kernel) m1 fun q13 H13 s13 _ h13=>?_⟩
  have v1:0≤c % (53:Int):=Int.emod_nonneg _ (by omega)
  have v2:c % (53:Int)<53:=Int.emod_lt_of_pos _ (by omega)
  have hi:(c % (53:Int)).toNat<53:=by omega
  refine⟨_,rfl,_,_,rfl,rfl,(by show(0:Int)<53;decide),q13,_,_,_,rfl,rfl,SqL.of h13,?_,k ⟨(c % (53:Int)).toNat,hi⟩ H13 (s10.trans (s11.trans (s12.trans s13)))⟩
  rw[zdh v1,List.getElem?_map]
  show Option.map V.str ze6[(c % 53).toNat]?=some (.str (ze6.getD (c % 53).toNat Str.empty))
  rw[ziN (d:=Str.empty) (show(c % 53).toNat<ze6.length from hi)]
  rfl
end
end K05
namespace K05
open PySem L2
structure ze3 (cw:List Str):Prop where
 ex:∃ pre last v,cw=pre++[last]∧zb3 emp pre=some v∧zaM v last=none
 le:21≤cw.length
 few:cw.length≤60
 ok:∀ l∈cw,10∉cl l∧l.length≤100
def xq (k:Nat):Str:=(⟨#[97 + k]⟩:Str)++Str.ofString "q"
theorem xq_ok:∀ k:Fin 21,zaJ (xq k.val)=true:=by decide +kernel
theorem xq_nd:((List.range 20).map xq).Nodup:=by decide +kernel
theorem crowd0:ze3 ((List.range 21).map fun k=>(Ln.pt (xq k) []).text):=by
 have ok:∀ k,k<21→(Ln.pt (xq k) []).Ok:=fun k hk=>⟨xq_ok ⟨k,hk⟩,Nat.zero_le _,fun m hm=>by cases hm⟩
 refine⟨?_,by rw[List.length_map,List.length_range];decide,by rw[List.length_map,List.length_range];decide,fun l hl=>?_⟩
 ·obtain⟨v,e,p⟩:=ze1 (ps:=(List.range 20).map fun k=>(xq k,[])) (names:=[]) (v:=emp) (k:=0) (fun p hp=>by
   obtain⟨k,hk,rfl⟩:=List.mem_map.mp hp
   have:=List.mem_range.mp hk
   exact⟨ok k (by omega),Int.le_refl 0,by show(0:Int)≤50;decide⟩) (by rw[List.nil_append,List.map_map];exact xq_nd) (by rw[List.length_map,List.length_range];decide) zeZ
  rw[List.map_map] at e
  rw[List.length_map,List.length_range] at p
  refine⟨_,_,v,?_,e,zlk p (ok 20 (by decide))⟩
  rw[List.range_succ,List.map_append]
  rfl
 ·obtain⟨k,hk,rfl⟩:=List.mem_map.mp hl
  exact zda (ok k (List.mem_range.mp hk))
theorem zly {n:Nat} (h3:3≤n) (h6:n≤6):nA∈six.take n∧nB∈six.take n:=by
 match n,h3,h6 with
 | 3,_,_=>decide +kernel
 | 4,_,_=>decide +kernel
 | 5,_,_=>decide +kernel
 | 6,_,_=>decide +kernel
theorem zcH {n:Nat} (h6:n≤6):(six.take n).length=n:=by rw[List.length_take,Nat.min_eq_left (show n≤six.length from h6)]
theorem pts0 {n:Nat} (h6:n≤6):∃ v,zb3 emp ((six.take n).map fun x=>(Ln.pt x []).text)=some v∧zc9 v (six.take n) n 0 0 0:=by
 have nd:(six.take n).Nodup:=zd7.sublist (List.take_sublist ..)
 have e0:((six.take n).map fun x=>((x,[]):Str×List Int)).map Prod.fst=six.take n:=by rw[List.map_map];exact List.map_id _
 obtain⟨v,e,p⟩:=ze1 (ps:=(six.take n).map fun x=>(x,[])) (names:=[]) (v:=emp) (k:=0) (fun p hp=>by
  obtain⟨x,hx,rfl⟩:=List.mem_map.mp hp
  exact⟨⟨(zch x (List.mem_of_mem_take hx)).1,Nat.zero_le _,fun m hm=>by cases hm⟩,Int.le_refl 0,by show(0:Int)≤50;decide⟩) (by rw[List.nil_append,e0];exact nd) (by rw[List.length_map,zcH h6];omega) zeZ
 rw[List.map_map] at e
 rw[List.nil_append,e0,List.length_map,zcH h6,Nat.zero_add] at p
 exact⟨v,e,p⟩
theorem ziU {n m:Nat}{l:Ln} (h3:3≤n) (h6:n≤6) (hm:m≤40) (h20:20≤m) (g:zjO (six.take n) l) (ha:(if isA l then m else 0)≤40) (hs:(if isS l then m else 0)≤20) (hM:(if isM l then m else 0)≤20)
  (st:∀ v,zc9 v (six.take n) n (if isA l then m else 0) (if isS l then m else 0) (if isM l then m else 0)→zaM v l.text=none):ze3 ((six.take n).map (fun x=>(Ln.pt x []).text)++List.replicate (m + 1) l.text):=by
 obtain⟨v,e,p⟩:=pts0 h6
 have cA:∀ f:Ln→Bool,(List.replicate m l).countP f=if f l then m else 0:=fun f=>List.countP_replicate
 obtain⟨v2,e2,p2⟩:=ze0 (ls:=List.replicate m l) (fun x hx=>by rw[List.eq_of_mem_replicate hx];exact g) p (by rw[cA];omega) (by rw[cA];omega) (by rw[cA];omega)
 rw[cA,cA,cA,Nat.zero_add,Nat.zero_add,Nat.zero_add] at p2
 rw[List.map_replicate] at e2
 have hl:((six.take n).map (fun x=>(Ln.pt x []).text)++List.replicate (m + 1) l.text).length=n + (m + 1):=by rw[List.length_append,List.length_map,zcH h6,List.length_replicate]
 refine⟨⟨(six.take n).map (fun x=>(Ln.pt x []).text)++List.replicate m l.text,l.text,v2,?_,?_,st v2 p2⟩,by rw[hl];omega,by rw[hl];omega,fun x hx=>?_⟩
 ·rw[List.replicate_succ',List.append_assoc]
 ·rw[zbW,e]
  exact e2
 ·rcases List.mem_append.mp hx with hx|hx
  ·obtain⟨y,hy,rfl⟩:=List.mem_map.mp hx
   exact zda ⟨(zch y (List.mem_of_mem_take hy)).1,Nat.zero_le _,fun m hm=>by cases hm⟩
  ·rw[List.eq_of_mem_replicate hx]
   exact zda g.ok
section
variable {n:Nat} (h3:3≤n) (h6:n≤6)
include h3 h6
theorem crowd1:ze3 ((six.take n).map (fun x=>(Ln.pt x []).text)++List.replicate 41 (Ln.ar nA nB []).text):=by
 obtain⟨ia,ib⟩:=zly h3 h6
 have ok:(Ln.ar nA nB []).Ok:=⟨by decide +kernel,by decide +kernel,Nat.zero_le _,fun m hm=>by cases hm⟩
 exact ziU (m:=40) h3 h6 (by decide) (by decide) ⟨ok,ia,ib,by decide,by decide,by decide⟩ (by decide) (by decide) (by decide) fun v p=>zlm p ok ia ib (by decide) (by decide) (by decide)
theorem crowd2:ze3 ((six.take n).map (fun x=>(Ln.pt x []).text)++List.replicate 21 (Ln.sm nA nB).text):=by
 obtain⟨ia,ib⟩:=zly h3 h6
 have ok:(Ln.sm nA nB).Ok:=⟨by decide +kernel,by decide +kernel⟩
 exact ziU (m:=20) h3 h6 (by decide) (by decide) ⟨ok,ia,ib,by decide⟩ (by decide) (by decide) (by decide) fun v p=>zlo p ok ia ib (by decide)
theorem crowd3:ze3 ((six.take n).map (fun x=>(Ln.pt x []).text)++List.replicate 21 (Ln.ms nA nB 3).text):=by
 obtain⟨ia,ib⟩:=zly h3 h6
 have ok:(Ln.ms nA nB 3).Ok:=⟨by decide +kernel,by decide +kernel,by decide,by decide⟩
 exact ziU (m:=20) h3 h6 (by decide) (by decide) ⟨ok,ia,ib,by decide,by decide⟩ (by decide) (by decide) (by decide) fun v p=>zlq p ok ia ib (by decide) (by decide)
end
theorem abc_u:∀ k:Fin 21,(Str.ofString "abcdefghijklmnopqrstu").cps.toList[k.val]?=some (97 + k.val):=by decide +kernel
theorem tx3:Str.ofString "most "++nP++Str.ofString " 3"=(Ln.ms nA nB 3).text:=by decide +kernel
section
variable {P:Program}{w:World}{K:PySem.W.Frag}{mg:Str→Option Value}{base:Heap}{a:Adr}
def zlz:Sp:=fun vs H Q _=>∃ p,∃ n:Nat,∃ c,vs=[.ref p,.int c]∧H p=some (.lst ((six.take n).map V.str))∧3≤n∧n≤6∧∀ cw l H',ze3 cw→zan H H'→H' l=some (.lst (cw.map V.str))→Q (.ref l) H'
set_option maxHeartbeats 1000000 in
theorem zjT (T:Tx K mg a):Cal P w K mg base CX0 2 "_law_crowd" ["_law_names","_law_way"] [] zlz:=T.d__law_crowd.cal fun f fd F=>by
 refine F.ok zbT (fun vs H Q E h=>?_) (fun cdv A outer s H vs Q E hr h=>?_)
 ·obtain⟨p,n,c,rfl,_⟩:=h
  rfl
 ·obtain⟨p,n,c,rfl,hp,n3,n6,k⟩:=h
  obtain⟨p6,a6,s6,m6,b1,e3⟩:=c6
  have a0:atI ((six.take n).map V.str) 0=some (.str nA):=by
   match n,n3,n6 with
   | 3,_,_=>rfl
   | 4,_,_=>rfl
   | 5,_,_=>rfl
   | 6,_,_=>rfl
  have a1:atI ((six.take n).map V.str) 1=some (.str nB):=by
   match n,n3,n6 with
   | 3,_,_=>rfl
   | 4,_,_=>rfl
   | 5,_,_=>rfl
   | 6,_,_=>rfl
  refine⟨_,(zac (zeF (i:=2) zbT.nd rfl rfl (N:=["_law_name"]) (cap:=[none]) rfl (za6 (osc:=zah zaX) (XN:=["_law_names","_law_way","_law_lines","_law_pair"]) rfl rfl (by decide +kernel)) (zbc (pv 0)) (fun cl C s H fp pins=>(zas (i:=0) (show(["_law_name"]:List Str).Nodup by decide +kernel) rfl (by first|exact Or.inl rfl|exact Or.inr rfl))) (fun cl C s H fp pins=>zaT) (fun cl C s H fp pins=>(zao zak zap (pv 0))) (hsw:=rfl))
   (zac (zaw (i:=3) zbT.nd rfl (by first|exact Or.inl rfl|exact Or.inr rfl) (zao zak (zao zak (zaZ zaH (pv 0) zai (fun _ _=>rfl)) zap) (zaZ zaH (pv 0) zai (fun _ _=>rfl))))
   (zac (za5 (zav zdo (pv 1) zai (zaB _)) (zaj (zaA (zaV (N:=["_law_k"]) (cap:=[none]) rfl (za6 (osc:=zah zaX) (XN:=["_law_names","_law_way","_law_lines","_law_pair"]) rfl rfl (by decide +kernel)) (zca rfl T.n_range (zaa zai zae)) (fun cl C s H fp pins=>(zas (i:=0) (show(["_law_k"]:List Str).Nodup by decide +kernel) rfl (by first|exact Or.inl rfl|exact Or.inr rfl))) (fun cl C s H fp pins=>zaT) (fun cl C s H fp pins=>(zao zak (zao zak zap (zaZ zj2 zap (pv 0) (fun _ _=>rfl))) zap))))) zat)
   (zac (za5 (zav zdo (pv 1) zai (zaB _)) (zaj (zaA (zao zbb (pv 2) (zaV (N:=["_law_k","_law_pair"]) (cap:=[none,some 3]) rfl (za6 (osc:=zah zaX) (XN:=["_law_names","_law_way","_law_lines","_law_pair"]) rfl rfl (by decide +kernel)) (zca rfl T.n_range (zaa zai zae)) (fun cl C s H fp pins=>(zas (i:=0) (show(["_law_k","_law_pair"]:List Str).Nodup by decide +kernel) rfl (by first|exact Or.inl rfl|exact Or.inr rfl))) (fun cl C s H fp pins=>zaT) (fun cl C s H fp pins=>(zao zak zap (pv 1))))))) zat)
   (zac (za5 (zav zdo (pv 1) zai (zaB _)) (zaj (zaA (zao zbb (pv 2) (zaV (N:=["_law_k","_law_pair"]) (cap:=[none,some 3]) rfl (za6 (osc:=zah zaX) (XN:=["_law_names","_law_way","_law_lines","_law_pair"]) rfl rfl (by decide +kernel)) (zca rfl T.n_range (zaa zai zae)) (fun cl C s H fp pins=>(zas (i:=0) (show(["_law_k","_law_pair"]:List Str).Nodup by decide +kernel) rfl (by first|exact Or.inl rfl|exact Or.inr rfl))) (fun cl C s H fp pins=>zaT) (fun cl C s H fp pins=>(zao zak zap (pv 1))))))) zat)
   (zaj (zaA (zao zbb (pv 2) (zaV (N:=["_law_k","_law_pair"]) (cap:=[none,some 3]) rfl (za6 (osc:=zah zaX) (XN:=["_law_names","_law_way","_law_lines","_law_pair"]) rfl rfl (by decide +kernel)) (zca rfl T.n_range (zaa zai zae)) (fun cl C s H fp pins=>(zas (i:=0) (show(["_law_k","_law_pair"]:List Str).Nodup by decide +kernel) rfl (by first|exact Or.inl rfl|exact Or.inr rfl))) (fun cl C s H fp pins=>zaT) (fun cl C s H fp pins=>(zao zak (zao zak zap (pv 1)) zap))))))))))),?_⟩
  refine⟨_,rfl,p,rfl,⟨_,SqL.of hp⟩,fun D hD=>?_⟩
  refine zaO (K:=K) (a:=p) (xs:=(six.take n).map V.str) (fun j τ G=>∃ v1,τ=[v1]∧zan H G∧G D=some (.lst ((((six.take n).take j).map fun x=>(Ln.pt x []).text).map V.str))) ⟨none,rfl,zan.new hD,zab⟩ ?_ ?_ ?_
  ·rintro j τ G _ ⟨_,rfl,sg,_⟩
   exact SqL.of (sg _ _ hp)
  ·rintro j y τ G hy ⟨v1,rfl,sg,hG⟩
   obtain⟨z,hz,rfl⟩:=zbV hy
   have hj:=(List.getElem?_eq_some_iff.mp hz).1
   rw[zcH n6] at hj
   have zl:=(zch z (List.mem_of_mem_take (List.mem_of_getElem? hz))).2
   dsimp only[zaQ,zf2]
   rw[if_pos rfl]
   refine⟨_,rfl,_,_,rfl,rfl,lz p6 zl (by decide),_,hG,by rw[List.length_map,List.length_map,List.length_take,zcH n6,sizeLine_eq];omega,_,rfl,zaD hD sg,?_⟩
   rw[zab,zaS hz,List.map_append,List.map_append,tx_pt]
   rfl
  rintro τ G ⟨v1,rfl,sg,hG⟩
  rw[List.length_map,List.take_length] at hG
  refine⟨_,rfl,p,_,_,_,rfl,rfl,SqL.of (sg _ _ hp),a0,_,_,rfl,rfl,(by decide +kernel),_,rfl,p,_,_,_,rfl,rfl,SqL.of (sg _ _ hp),a1,_,_,rfl,rfl,(by decide +kernel),?_⟩
  refine⟨_,rfl,rfl,_,rfl,zb6 (fun _=>?_) (fun _=>?_)⟩
  ·refine⟨21,rfl,by decide,by decide,fun D2 hD2=>?_⟩
   refine zbM (lo:=0) (n:=21) (fun j τ G'=>∃ v1,τ=[v1]∧zan G G'∧G' D2=some (.lst (((List.range j).map fun k=>(Ln.pt (xq k) []).text).map V.str))) ⟨none,rfl,zan.new hD2,zab⟩ ?_ ?_
   ·rintro j τ G' hj ⟨v1,rfl,sg',hG'⟩
    dsimp only[zaQ,zf2]
    rw[if_pos rfl]
    refine⟨_,rfl,_,_,97 + j,rfl,rfl,(by decide +kernel),?_,_,_,rfl,rfl,?_,_,_,rfl,rfl,?_,_,hG',by rw[List.length_map,List.length_map,List.length_range,sizeLine_eq];omega,_,rfl,zaD hD2 sg',?_⟩
    ·rw[zdh (by omega),show((0:Int) + (j:Int)).toNat=j by omega]
     exact abc_u ⟨j,hj⟩
    ·exact lz p6 (show(⟨#[97 + j]⟩:Str).length≤1 from Nat.le_refl 1) (by decide)
    ·exact lz (la p6 (show(⟨#[97 + j]⟩:Str).length≤1 from Nat.le_refl 1)) (show(Str.ofString "q").length≤1 by decide) (by decide)
    ·rw[zab,List.range_succ,List.map_append,List.map_append,show Str.ofString "point "++(⟨#[97 + j]⟩:Str)++Str.ofString "q"=(Ln.pt (xq j) []).text by rw[PySem.Str.append_assoc];exact tx_pt (xq j)]
     rfl
   ·rintro τ G' ⟨v1,rfl,sg',hG'⟩
    exact k _ D2 G' crowd0 (sg.trans sg') hG'
  have many:∀ (m:Nat) (x:Str) (D2:Addr) (G':Hp),ze3 ((six.take n).map (fun x=>(Ln.pt x []).text)++List.replicate m x)→m≤50→zan G G'→G' D2=some (.lst ((List.replicate m x).map V.str))→rCat (.ref D) (.ref D2) G' (fun v H=>Q v H):=fun m x D2 G' hC hm sg' hG'=>
   ⟨D,D2,_,_,rfl,rfl,sg' _ _ hG,hG',by rw[List.length_map,List.length_map,List.length_map,zcH n6,List.length_replicate,sizeLine_eq];omega,fun r nr=>k _ r _ hC ((sg.trans sg').trans (zan.new nr)) (by rw[zab,List.map_append])⟩
  refine⟨_,rfl,rfl,_,rfl,zb6 (fun _=>?_) (fun _=>?_)⟩
  ·refine⟨_,rfl,41,rfl,by decide,by decide,fun D2 hD2=>?_⟩
   refine zbM (lo:=0) (n:=41) (fun j τ G'=>∃ v1,τ=[v1,some (.str nP)]∧zan G G'∧G' D2=some (.lst ((List.replicate j (Ln.ar nA nB []).text).map V.str))) ⟨none,rfl,zan.new hD2,zab⟩ ?_ ?_
   ·rintro j τ G' hj ⟨v1,rfl,sg',hG'⟩
    dsimp only[zaQ,zf2]
    rw[if_pos rfl]
    refine⟨_,rfl,_,_,rfl,rfl,(by decide +kernel),_,hG',by rw[List.length_map,List.length_replicate,sizeLine_eq];omega,_,rfl,zaD hD2 sg',?_⟩
    rw[zab,List.replicate_succ',List.map_append,tx_ar]
    rfl
   ·rintro τ G' ⟨v1,rfl,sg',hG'⟩
    exact many 41 _ D2 G' (crowd1 n3 n6) (by decide) sg' hG'
  refine⟨_,rfl,rfl,_,rfl,zb6 (fun _=>?_) (fun _=>?_)⟩
  ·refine⟨_,rfl,21,rfl,by decide,by decide,fun D2 hD2=>?_⟩
   refine zbM (lo:=0) (n:=21) (fun j τ G'=>∃ v1,τ=[v1,some (.str nP)]∧zan G G'∧G' D2=some (.lst ((List.replicate j (Ln.sm nA nB).text).map V.str))) ⟨none,rfl,zan.new hD2,zab⟩ ?_ ?_
   ·rintro j τ G' hj ⟨v1,rfl,sg',hG'⟩
    dsimp only[zaQ,zf2]
    rw[if_pos rfl]
    refine⟨_,rfl,_,_,rfl,rfl,(by decide +kernel),_,hG',by rw[List.length_map,List.length_replicate,sizeLine_eq];omega,_,rfl,zaD hD2 sg',?_⟩
    rw[zab,List.replicate_succ',List.map_append,zlw]
    rfl
   ·rintro τ G' ⟨v1,rfl,sg',hG'⟩
    exact many 21 _ D2 G' (crowd2 n3 n6) (by decide) sg' hG'
  ·refine⟨_,rfl,21,rfl,by decide,by decide,fun D2 hD2=>?_⟩
   refine zbM (lo:=0) (n:=21) (fun j τ G'=>∃ v1,τ=[v1,some (.str nP)]∧zan G G'∧G' D2=some (.lst ((List.replicate j (Ln.ms nA nB 3).text).map V.str))) ⟨none,rfl,zan.new hD2,zab⟩ ?_ ?_
   ·rintro j τ G' hj ⟨v1,rfl,sg',hG'⟩
    dsimp only[zaQ,zf2]
    rw[if_pos rfl]
    refine⟨_,rfl,_,_,rfl,rfl,(by decide +kernel),_,_,rfl,rfl,(by decide +kernel),_,hG',by rw[List.length_map,List.length_replicate,sizeLine_eq];omega,_,rfl,zaD hD2 sg',?_⟩
    rw[zab,List.replicate_succ',List.map_append,tx3]
    rfl
   ·rintro τ G' ⟨v1,rfl,sg',hG'⟩
    exact many 21 _ D2 G' (crowd3 n3 n6) (by decide) sg' hG'
end
end K05
namespace K05
open PySem L2
def zd9 (n:Nat):List Str:=(List.range n).map fun k=>(Ln.pt (six.getD k Str.empty) [7 * (k:Int)]).text
theorem zfM:∀ n:Fin 7,(List.range n.val).map (fun k=>six.getD k Str.empty)=six.take n.val:=by decide +kernel
theorem zlA {n k:Nat} (hn:n≤6) (hk:k<n):six.getD k Str.empty∈six.take n:=by
 rw[← zfM ⟨n,by omega⟩]
 exact List.mem_map_of_mem (List.mem_range.mpr hk)
theorem pt_ok {n k:Nat} (hn:n≤6) (hk:k<n):(Ln.pt (six.getD k Str.empty) [7 * (k:Int)]).Ok:=by
 refine⟨(zch _ (List.mem_of_mem_take (zlA hn hk))).1,Nat.le_refl _,fun m hm=>?_⟩
 rw[List.mem_singleton.mp hm]
 exact⟨by omega,by omega⟩
theorem ze4 {n:Nat} (h6:n≤6):∃ v,zb3 emp (zd9 n)=some v∧zc9 v (six.take n) n 0 0 0:=by
 have nd:(six.take n).Nodup:=zd7.sublist (List.take_sublist ..)
 have e0:((List.range n).map fun k=>((six.getD k Str.empty,[7 * (k:Int)]):Str×List Int)).map Prod.fst=six.take n:=by rw[List.map_map];exact zfM ⟨n,by omega⟩
 obtain⟨v,e,p⟩:=ze1 (ps:=(List.range n).map fun k=>(six.getD k Str.empty,[7 * (k:Int)])) (names:=[]) (v:=emp) (k:=0) (fun p hp=>by
  obtain⟨k,hk,rfl⟩:=List.mem_map.mp hp
  have hk:=List.mem_range.mp hk
  refine⟨pt_ok h6 hk,?_,?_⟩
  ·show(0:Int)≤7 * (k:Int)
   omega
  ·show 7 * (k:Int)≤(50:Int)
   omega) (by rw[List.nil_append,e0];exact nd) (by rw[List.length_map,List.length_range];omega) zeZ
 rw[List.map_map] at e
 rw[List.nil_append,e0,List.length_map,List.length_range,Nat.zero_add] at p
 exact⟨v,e,p⟩
theorem zfN {n m:Nat} (h:m≤n):(zd9 n).take m=zd9 m:=by
 unfold zd9
 rw[← List.map_take,List.take_range,Nat.min_eq_left h]
theorem zcU (n:Nat):(zd9 n).length=n:=by
 unfold zd9
 rw[List.length_map,List.length_range]
theorem zlB {n:Nat} (h6:n≤6):∀ l∈zd9 n,10∉cl l∧l.length≤100:=fun l hl=>by
 obtain⟨k,hk,rfl⟩:=List.mem_map.mp hl
 exact zda (pt_ok h6 (List.mem_range.mp hk))
def zjU (n:Nat) (x:Str):Prop:=∃ l,zjO (six.take n) l∧x=l.text
theorem lift {n:Nat}:∀ {xs:List Str},(∀ x∈xs,zjU n x)→∃ ls:List Ln,xs=ls.map Ln.text∧∀ l∈ls,zjO (six.take n) l
 | [],_=>⟨[],rfl,fun _ h=>by cases h⟩
 | x::xs,h=>by
  obtain⟨l,hl,rfl⟩:=h x (List.mem_cons_self ..)
  obtain⟨ls,rfl,hs⟩:=lift (xs:=xs) fun y hy=>h y (List.mem_cons_of_mem _ hy)
  refine⟨l::ls,rfl,fun y hy=>?_⟩
  rcases List.mem_cons.mp hy with rfl|hy
  ·exact hl
  ·exact hs y hy
abbrev wS:Str:=Str.ofString "same "
abbrev wM:Str:=Str.ofString "most "
theorem ziV {l:Ln} (h:isS l=true):Txt.startswith l.text wS=true:=by
 cases l with
 | sm o t=>rw[← zlw];exact PySem.W.KT.starts_app _ _
 | _=>cases h
theorem ziW {l:Ln} (h:isM l=true):Txt.startswith l.text wM=true:=by
 cases l with
 | ms o t m=>rw[← tx_ms,PySem.Str.append_assoc,PySem.Str.append_assoc];exact PySem.W.KT.starts_app _ _
 | _=>cases h
theorem zgP {xs:List Str}{st p:Str→Bool} (hp:∀ x,p x=true→x∉(xs.filter st).drop 20):(xs.filter p).countP st≤20:=by
 have e:(xs.filter p).countP st=((xs.filter st).filter p).length:=by
  rw[List.countP_eq_length_filter,List.filter_filter,List.filter_filter]
  exact congrArg List.length (List.filter_congr fun x _=>Bool.and_comm _ _)
 rw[e]
 generalize xs.filter st=ys at hp
 have e2:ys.filter p=(ys.take 20).filter p:=by
  rw[show ys.filter p=(ys.take 20++ys.drop 20).filter p by rw[List.take_append_drop],List.filter_append]
  rw[show(ys.drop 20).filter p=[] from List.filter_eq_nil_iff.mpr fun x hx hpx=>hp x hpx hx,List.append_nil]
 rw[e2]
 have:=List.length_filter_le p (ys.take 20)
 have h2:(ys.take 20).length≤20:=by rw[List.length_take];omega
 omega
structure zhv (n:Nat) (bl:List Str):Prop where
 run:∃ v,zb3 emp bl=some v∧∀ x,has v.kvs x=true→x∈six
 pre:∃ r,bl=zd9 n++r
 ok:∀ l∈bl,10∉cl l∧l.length≤100
 few:bl.length≤36
theorem zlC {n:Nat}{xs:List Str}{p:Str→Bool} (h6:n≤6) (hx:∀ x∈xs,zjU n x) (hl:xs.length≤30) (h1:∀ x,p x=true→x∉(xs.filter fun x=>Txt.startswith x wS).drop 20) (h2:∀ x,p x=true→x∉(xs.filter fun x=>Txt.startswith x wM).drop 20):zhv n (zd9 n++xs.filter p):=by
 obtain⟨v,e,pr⟩:=ze4 h6
 have fl:=List.length_filter_le p xs
 obtain⟨ls,el,hls⟩:=lift (xs:=xs.filter p) fun x hx'=>hx x (List.mem_filter.mp hx').1
 have cS:ls.countP isS≤20:=by
  refine Nat.le_trans ?_ (zgP h1)
  rw[el,List.countP_map]
  exact List.countP_mono_left fun l _ h=>ziV h
 have cM:ls.countP isM≤20:=by
  refine Nat.le_trans ?_ (zgP h2)
  rw[el,List.countP_map]
  exact List.countP_mono_left fun l _ h=>ziW h
 have ll:ls.length=(xs.filter p).length:=by rw[el,List.length_map]
 have cA:ls.countP isA≤40:=by
  have:=List.countP_le_length (p:=isA) (l:=ls)
  omega
 obtain⟨v2,e2,p2⟩:=ze0 hls pr (by omega) (by omega) (by omega)
 refine⟨⟨v2,?_,fun x hx'=>List.mem_of_mem_take ((p2.has x).mp hx')⟩,⟨_,rfl⟩,fun l hl'=>?_,?_⟩
 ·rw[zbW,e,el]
  exact e2
 ·rcases List.mem_append.mp hl' with h|h
  ·exact zlB h6 l h
  ·rw[el] at h
   obtain⟨l',hm,rfl⟩:=List.mem_map.mp h
   exact zda (hls l' hm).ok
 ·rw[List.length_append,zcU]
  omega
section
variable {n:Nat}{bl:List Str}
theorem zhv.len (b:zhv n bl):n≤bl.length:=by
 obtain⟨r,rfl⟩:=b.pre
 rw[List.length_append,zcU]
 omega
theorem zcV {ls:List Str} (ok:∀ l∈ls,10∉cl l∧l.length≤100) (h2:2≤ls.length) (hl:ls.length≤200):zcF ls:=⟨fun l h=>(ok l h).1,fun l h=>(ok l h).2,hl,zlv h2⟩
theorem zhv.lines (b:zhv n bl) (h3:3≤n):zcF bl∧zcG bl none:=by
 obtain⟨v,e,_⟩:=b.run
 have:=b.len
 have:=b.few
 exact⟨zcV b.ok (by omega) (by omega),v,e⟩
theorem zhv.put (b:zhv n bl) (h3:3≤n){i:Nat}{l:Str}{ms:List Str} (hi:i≤bl.length) (hl:10∉cl l∧l.length≤100) (hm:ms=[]∨ms=[Str.ofString "bad line"]) (hs:∀ v,zb3 emp (bl.take i)=some v→zaM v l=none) :
  zcF (bl.take i++[l]++bl.drop i++ms)∧zcG (bl.take i++[l]++bl.drop i++ms) (some i):=by
 obtain⟨v,e,_⟩:=b.run
 obtain⟨w,ew,_⟩:=zgM e i
 have l1:=b.len
 have l2:=b.few
 have e1:bl.take i++[l]++bl.drop i++ms=bl.take i++l::(bl.drop i++ms):=by simp
 have hm2:ms.length≤1∧∀ x∈ms,10∉cl x∧x.length≤100:=by
  rcases hm with rfl|rfl
  ·exact⟨by decide,fun x hx=>by cases hx⟩
  ·exact⟨by decide,fun x hx=>by rw[List.mem_singleton.mp hx];decide +kernel⟩
 rw[e1]
 refine⟨zcV (fun x hx=>?_) ?_ ?_,zgN hi ew (hs w ew)⟩
 ·rcases List.mem_append.mp hx with h|h
  ·exact b.ok x (List.mem_of_mem_take h)
  rcases List.mem_cons.mp h with rfl|h
  ·exact hl
  rcases List.mem_append.mp h with h|h
  ·exact b.ok x (List.mem_of_mem_drop h)
  ·exact hm2.2 x h
 ·simp only[List.length_append,List.length_cons,List.length_take,List.length_drop]
  omega
 ·have:=hm2.1
  simp only[List.length_append,List.length_cons,List.length_take,List.length_drop]
  omega
theorem zhv.bad (b:zhv n bl) (h3:3≤n) (h6:n≤6){i:Nat} (j:Fin 53){ms:List Str} (hi:i≤bl.length) (hj:j.val=37∨j.val=38→1≤i) (hm:ms=[]∨ms=[Str.ofString "bad line"]) :
  zcF (bl.take i++[ze6.getD j.val Str.empty]++bl.drop i++ms)∧zcG (bl.take i++[ze6.getD j.val Str.empty]++bl.drop i++ms) (some i):=by
 have mj:ze6.getD j.val Str.empty∈ze6:=List.mem_of_getElem? (ziN (d:=Str.empty) (show j.val<ze6.length from j.isLt))
 refine b.put h3 hi (zlt _ mj) hm fun v hv=>?_
 obtain⟨v1,e,hs⟩:=b.run
 obtain⟨w,ew,er⟩:=zgM e i
 rw[hv] at ew
 cases ew
 have tk:j.val=37∨j.val=38→has v.kvs nA=true:=fun h=>by
  have hi1:=hj h
  obtain⟨r,er2⟩:=b.pre
  obtain⟨v0,e0,p0⟩:=ze4 (n:=1) (by decide)
  have e1:bl.take i=zd9 1++(bl.take i).drop 1:=by
   have:(bl.take i).take 1=zd9 1:=by
    rw[List.take_take,Nat.min_eq_left hi1,er2,List.take_append_of_le_length (by rw[zcU];omega),zfN (by omega)]
   rw[← this,List.take_append_drop]
  rw[e1,zbW,e0] at hv
  exact zgm (ls:=(bl.take i).drop 1) hv ((p0.has nA).mpr (by decide +kernel))
 rcases zjP j with h|h|h
 ·exact zet (tk (.inl h)) (by rw[h];exact zes.1)
 ·exact zet (tk (.inr h)) (by rw[h];exact zes.2)
 ·exact zjR (fun x hx=>hs x (zgm er hx)) h
theorem zhv.early (b:zhv n bl) (h3:3≤n) (h6:n≤6){l:Ln} (ok:l.Ok) (hk:¬ l.rd.k=kPt) (h:l.rd.nm 0=six.getD (n - 1) Str.empty∨l.rd.nm 1=six.getD (n - 1) Str.empty) :
  zcF (bl.take (n - 1)++[l.text]++bl.drop (n - 1))∧zcG (bl.take (n - 1)++[l.text]++bl.drop (n - 1)) (some (n - 1)):=by
 have l1:=b.len
 have:=b.put h3 (i:=n - 1) (l:=l.text) (ms:=[]) (by omega) (zda ok) (.inl rfl) fun v hv=>by
  obtain⟨r,e⟩:=b.pre
  obtain⟨v0,e0,p0⟩:=ze4 (n:=n - 1) (by omega)
  rw[e,List.take_append_of_le_length (by rw[zcU];omega),zfN (by omega),e0] at hv
  cases hv
  have nin:six.getD (n - 1) Str.empty∉six.take (n - 1):=by
   match n,h3,h6 with
   | 3,_,_=>decide +kernel
   | 4,_,_=>decide +kernel
   | 5,_,_=>decide +kernel
   | 6,_,_=>decide +kernel
  refine ziS p0 ok hk ?_
  rcases h with h|h
  ·exact .inl (by rw[h];exact nin)
  ·exact .inr (by rw[h];exact nin)
 rw[List.append_nil] at this
 exact this
end
theorem ze3.faults {cw:List Str} (h:ze3 cw):(zcF cw∧zcG cw (some (cw.length - 1)))∧(zcF (cw.take (cw.length - 1))∧zcG (cw.take (cw.length - 1)) none):=by
 obtain⟨pre,last,v,e,hv,hs⟩:=h.ex
 have le:=h.le
 have few:=h.few
 have ok:=h.ok
 subst e
 rw[List.length_append] at le few
 rw[show(pre++[last]).length - 1=pre.length by rw[List.length_append];rfl,List.take_left]
 replace le:21≤pre.length + 1:=le
 replace few:pre.length + 1≤60:=few
 refine⟨⟨zcV ok (by rw[List.length_append];show 2≤pre.length + 1;omega) (by rw[List.length_append];show pre.length + 1≤200;omega),?_⟩,zcV (fun l hl=>ok l (List.mem_append_left _ hl)) (by omega) (by omega),v,hv⟩
 have:=zgN (ls:=pre) (ms:=[]) (l:=last) (i:=pre.length) (Nat.le_refl _) (by rw[List.take_length];exact hv) hs
 rw[List.take_length] at this
 exact this
theorem zjV:zcF [Str.empty,Str.empty]∧zcG [Str.empty,Str.empty] (some 0):=⟨zcV (by decide +kernel) (by decide) (by decide),Str.empty,emp,rfl,rfl,zd6 fun q hq=>by
 have:(look (Txt.split Str.empty bk)).isSome=false:=by decide +kernel
 rw[hq] at this
 cases this⟩
end K05
namespace K05
open PySem L2
theorem zgQ (n:Str) (l:List Str):inV (.str n) (l.map V.str)=decide (n∈l):=by
 induction l with
 | nil=>rfl
 | cons x l ih=>
  show(eqV (.str x) (.str n) || inV (.str n) (l.map V.str))=_
  rw[ih]
  show(decide (x=n) || decide (n∈l))=_
  by_cases e:x=n
  ·subst e;simp
  ·simp[e,Ne.symm e]
theorem zfO (l:List Str):(l.map V.str).all zdp=true:=by
 rw[List.all_map,List.all_eq_true]
 exact fun _ _=>rfl
theorem zgR (xs:List V) (n:Nat):zdu xs none (some (n:Int))=xs.take n:=by
 unfold zdu
 have e1:HT.sIx xs.length 0 none=0:=HT.zgu ..
 have e2:HT.sIx xs.length xs.length (some (n:Int))=min n xs.length:=HT.zcw _ _ n
 rw[e1,e2,List.drop_zero,Nat.sub_zero]
 by_cases h:n≤xs.length
 ·rw[Nat.min_eq_left h]
 ·rw[Nat.min_eq_right (by omega),List.take_length,List.take_of_length_le (by omega)]
theorem cut_m1 (xs:List V) (h:1≤xs.length):zdu xs none (some (-1))=xs.take (xs.length - 1):=by
 have e2:HT.sIx xs.length xs.length (some (-1))=HT.sIx xs.length xs.length (some ((xs.length - 1:Nat):Int)):=by
  rw[HT.zcw]
  unfold HT.sIx
  simp
  omega
 have:=zgR xs (xs.length - 1)
 unfold zdu at this ⊢
 rw[e2]
 exact this
theorem cut30 (ns:List Int):∃ ms:List Int,zdu (ns.map V.int) (some 3) (some 33)=ms.map V.int∧ms.length≤30:=by
 refine⟨(ns.drop (min 3 ns.length)).take (min 33 ns.length - min 3 ns.length),?_,?_⟩
 ·unfold zdu
  have e1:HT.sIx (ns.map V.int).length 0 (some 3)=min 3 (ns.map V.int).length:=HT.zcw _ _ 3
  have e2:HT.sIx (ns.map V.int).length (ns.map V.int).length (some 33)=min 33 (ns.map V.int).length:=HT.zcw _ _ 33
  rw[e1,e2,List.map_take,List.map_drop,List.length_map]
 ·rw[List.length_take]
  omega
theorem zcW {ls:List Str} (h:zcF ls):(ls.map (·.length)).sum + ls.length * nl.length≤16777216:=by
 have:=ziL (f:=fun s:Str=>s.length) h.le
 have h2:=h.few
 have e:nl.length=1:=by decide
 rw[e]
 omega
def dOf:Option Nat→Dt
 | none=>.tup [.str (Str.ofString "read"),.non]
 | some i=>.tup [.str (Str.ofString "line"),.int (i:Int)]
theorem zgS:∀ o,eqD (dOf o) (dOf o)=true
 | none=>by decide
 | some i=>by simp[dOf,eqD,ze5]
section
variable {K:PySem.W.Frag}
theorem zdy {H:Hp}{p:Addr}:∀ {o:Option Nat},H p=some (.tup (zgi o))→DtV K H (dOf o) (.ref p)
 | none,h=>⟨p,_,rfl,SqT.of h,_,_,rfl,rfl,_,_,rfl,rfl,rfl⟩
 | some _,h=>⟨p,_,rfl,SqT.of h,_,_,rfl,rfl,_,_,rfl,rfl,rfl⟩
theorem zfP:∀ o,zdP 60 (dOf o)
 | none=>⟨trivial,trivial,trivial⟩
 | some _=>⟨trivial,trivial,trivial⟩
theorem zdz:∀ o,zhU (dOf o)=true
 | none=>rfl
 | some _=>rfl
theorem zd8 {o:Option Nat}{H:Hp}{p q:Addr}{Q:VK} (hp:H p=some (.tup (zgi o))) (hq:H q=some (.tup (zgi o))) (k:Q (.bl false) H):rEqD K true (.ref p) (.ref q) H Q:=
 ⟨dOf o,dOf o,zdz o,zdz o,zdy hp,zdy hq,zfP o,by rw[zgS];exact k⟩
theorem zlD {o:Option Nat}{H:Hp}{p q:Addr}{Q:VK} (hp:H p=some (.tup (zgi o))) (hq:H q=some (.tup (zgi o))) (k:Q (.bl true) H):rEqD K false (.ref p) (.ref q) H Q:=
 ⟨dOf o,dOf o,zdz o,zdz o,zdy hp,zdy hq,zfP o,by rw[zgS];exact k⟩
end
theorem zjW {n:Nat} (h3:3≤n) (h6:n≤6):atI ((six.take n).map V.str) (-1)=some (.str (six.getD (n - 1) Str.empty))∧zaJ (six.getD (n - 1) Str.empty)=true∧(six.getD (n - 1) Str.empty).length≤5:=by
 match n,h3,h6 with
 | 3,_,_=>decide +kernel
 | 4,_,_=>decide +kernel
 | 5,_,_=>decide +kernel
 | 6,_,_=>decide +kernel
theorem te_ar (L:Str):Str.ofString "arrow a "++L=(Ln.ar nA L []).text:=by
 rw[show Str.ofString "arrow a "=kAr++bk++(nA++bk) by decide +kernel,PySem.Str.append_assoc (kAr++bk)]
 exact(jn3 _ _ _).symm
theorem te_sm (L:Str):Str.ofString "same "++L++Str.ofString " a"=(Ln.sm L nA).text:=by
 rw[show Str.ofString " a"=bk++nA by decide +kernel,k_sm]
 refine Eq.trans ?_ (jn3 _ _ _).symm
 simp only[PySem.Str.append_assoc]
theorem te_ms (L:Str):Str.ofString "most a "++L++Str.ofString " 3"=(Ln.ms nA L 3).text:=by
 rw[show Str.ofString " 3"=bk++tn 3 by decide +kernel,show Str.ofString "most a "=kMs++bk++(nA++bk) by decide +kernel]
 refine Eq.trans ?_ (jn4 _ _ _ _).symm
 simp only[PySem.Str.append_assoc]
end K05
namespace K05
open PySem L2
theorem zlE {p:Str→Bool}{x:Str} (h:p x=true):[x].filter p=[x]:=List.filter_cons_of_pos h
theorem zlF {p:Str→Bool}{x:Str} (h:p x=false):[x].filter p=[]:=List.filter_cons_of_neg (by rw[h];decide)
def spLaw (K:PySem.W.Frag):Sp:=fun vs H Q _=>∃ (p:Addr) (ns:List Int),vs=[.ref p]∧SqL K H p (ns.map V.int)∧ns.length≤63∧∀ H',Q (.bl true) H'
section
variable {P:Program}{w:World}{K:PySem.W.Frag}{mg:Str→Option Value}{base:Heap}{a:Adr}
set_option maxHeartbeats 8000000 in
theorem ok_law (T:Tx K mg a) (Z:KD P w K a.LINES (za2 a)) (f:Addr) (fd:FuncData) (F:zfS K "law" "law" zed f fd):zcZ P w K mg base CX0 10 f fd ["_law_script"] (spLaw K):=by
 have c__law_cell_at:=zhs (P:=P) (w:=w) (base:=base) T
 have c__law_good:=zlx (P:=P) (w:=w) (base:=base) T
 have c__law_bad:=ok_bad (P:=P) (w:=w) (base:=base) T
 have c__law_crowd:=zjT (P:=P) (w:=w) (base:=base) T
 have c__law_fault:=zjI (P:=P) (w:=w) (base:=base) T Z
 have c_net_text:=zgj (P:=P) (w:=w) (base:=base) T
 have c_read_net:=zd5 (P:=P) (w:=w) (base:=base) T Z
 refine F.ok zbo (fun vs H Q E h=>?_) (fun cdv A outer s H vs Q E hr h=>?_)
 ·obtain⟨p,ns,rfl,_⟩:=h
  rfl
 ·obtain⟨p,ns,rfl,hS,hlen,kq⟩:=h
  refine⟨_,(zac (zaw (i:=1) zbo.nd rfl (by first|exact Or.inl rfl|exact Or.inr rfl) (zaR c__law_cell_at (hr.mono (by decide)) rfl (zaa (pv 0) (zaa zai zae))))
   (zac (zaw (i:=2) zbo.nd rfl (by first|exact Or.inl rfl|exact Or.inr rfl) (zaY zbu (zbg (zad zal (zad zal (zad zal (zad zal (zad zal (zad zal zaP))))))) zbt (za9 (zao zbJ zai (zao zbr (pv 1) zai)))))
   (zac (zeF (i:=3) zbo.nd rfl rfl (N:=["_law_k","_law_names"]) (cap:=[none,some 2]) rfl (za6 (osc:=zah zed) (XN:=["_law_script","_law_first","_law_names","_law_lines","_law_more","_law_sames","_law_mosts","_law_at","_law_bad_here","_law_worse","_law_early","_law_crowd_here"]) rfl rfl (by decide +kernel)) (zca rfl T.n_range (zaa (zaq zar rfl T.n_len zaU (zaa (pv 2) zae)) zae)) (fun cl C s H fp pins=>(zas (i:=0) (show(["_law_k","_law_names"]:List Str).Nodup by decide +kernel) rfl (by first|exact Or.inl rfl|exact Or.inr rfl))) (fun cl C s H fp pins=>zaT) (fun cl C s H fp pins=>(zao zak (zao zak (zao zak zap (zaZ (zjn (K:=K) rfl) (pv 1) (pv 0) (fun _ _=>rfl))) zap) (zbs zby rfl T.n_str zfw (zaa (zao zgr zai (pv 0)) zae)))) (hsw:=rfl))
   (zac (zeF (i:=4) zbo.nd rfl rfl (N:=["_law_cell","_law_names"]) (cap:=[none,some 2]) rfl (za6 (osc:=zah zed) (XN:=["_law_script","_law_first","_law_names","_law_lines","_law_more","_law_sames","_law_mosts","_law_at","_law_bad_here","_law_worse","_law_early","_law_crowd_here"]) rfl rfl (by decide +kernel)) (zbc (zaY zbu (pv 0) (za9 zai) (za9 zai))) (fun cl C s H fp pins=>(zas (i:=0) (show(["_law_cell","_law_names"]:List Str).Nodup by decide +kernel) rfl (by first|exact Or.inl rfl|exact Or.inr rfl))) (fun cl C s H fp pins=>zaT) (fun cl C s H fp pins=>(zaR c__law_good (hr.mono (by decide)) rfl (zaa (pv 1) (zaa (pv 0) zae)))) (hsw:=rfl))
   (zac (za5 (zav zdo (zao zbr (zao zeA (pv 1) zai) zai) zai (zaB _)) (zaj (zaw (i:=4) zbo.nd rfl (by first|exact Or.inl rfl|exact Or.inr rfl) (zaq zfB rfl T.n_sorted zid (zaa (pv 4) zae)))) zat)
   (zac (zaw (i:=5) zbo.nd rfl (by first|exact Or.inl rfl|exact Or.inr rfl) (zaV (N:=["_law_line"]) (cap:=[none]) rfl (za6 (osc:=zah zed) (XN:=["_law_script","_law_first","_law_names","_law_lines","_law_more","_law_sames","_law_mosts","_law_at","_law_bad_here","_law_worse","_law_early","_law_crowd_here"]) rfl rfl (by decide +kernel)) (zbc (pv 4)) (fun cl C s H fp pins=>(zas (i:=0) (show(["_law_line"]:List Str).Nodup by decide +kernel) rfl (by first|exact Or.inl rfl|exact Or.inr rfl))) (fun cl C s H fp pins=>zf3 (zbI (zj7 (K:=K) rfl PySem.F.plainAttrs_str PySem.F.slot_str_startswith PySem.F.type_str_startswith zcP (pv 0) (zaa zap zae)))) (fun cl C s H fp pins=>(pv 0))))
   (zac (zaw (i:=6) zbo.nd rfl (by first|exact Or.inl rfl|exact Or.inr rfl) (zaV (N:=["_law_line"]) (cap:=[none]) rfl (za6 (osc:=zah zed) (XN:=["_law_script","_law_first","_law_names","_law_lines","_law_more","_law_sames","_law_mosts","_law_at","_law_bad_here","_law_worse","_law_early","_law_crowd_here"]) rfl rfl (by decide +kernel)) (zbc (pv 4)) (fun cl C s H fp pins=>(zas (i:=0) (show(["_law_line"]:List Str).Nodup by decide +kernel) rfl (by first|exact Or.inl rfl|exact Or.inr rfl))) (fun cl C s H fp pins=>zf3 (zbI (zj7 (K:=K) rfl PySem.F.plainAttrs_str PySem.F.slot_str_startswith PySem.F.type_str_startswith zcP (pv 0) (zaa zap zae)))) (fun cl C s H fp pins=>(pv 0))))
   (zac (zaw (i:=3) zbo.nd rfl (by first|exact Or.inl rfl|exact Or.inr rfl) (zao zbb (pv 3) (zaV (N:=["_law_line","_law_sames","_law_mosts"]) (cap:=[none,some 5,some 6]) rfl (za6 (osc:=zah zed) (XN:=["_law_script","_law_first","_law_names","_law_lines","_law_more","_law_sames","_law_mosts","_law_at","_law_bad_here","_law_worse","_law_early","_law_crowd_here"]) rfl rfl (by decide +kernel)) (zbc (pv 4)) (fun cl C s H fp pins=>(zas (i:=0) (show(["_law_line","_law_sames","_law_mosts"]:List Str).Nodup by decide +kernel) rfl (by first|exact Or.inl rfl|exact Or.inr rfl))) (fun cl C s H fp pins=>zf3 (PW.pt (zgo (zav (zfx (K:=K) rfl) (pv 0) (zaY (zgE (K:=K) rfl) (pv 1) (za9 zai) zbt) (by with_unfolding_all rfl)) (zfY (zav (zfx (K:=K) rfl) (pv 0) (zaY (zgE (K:=K) rfl) (pv 2) (za9 zai) zbt) (by with_unfolding_all rfl)))))) (fun cl C s H fp pins=>(pv 0)))))
   (zac (za5 (zav (zfq hr.units) (zaR c__law_fault (hr.mono (by decide)) rfl (zaa (zb4 PySem.F.plainAttrs_str PySem.F.slot_str_join PySem.F.type_str_join zc2 zap (zaa (pv 3) zae)) zae)) (zbn (zaa zap (zaa zgn zae))) (zaB _)) (zaj (zaA zgW)) zat)
   (zac (zaw (i:=7) zbo.nd rfl (by first|exact Or.inl rfl|exact Or.inr rfl) (zao zbr (zaR c__law_cell_at (hr.mono (by decide)) rfl (zaa (pv 0) (zaa zai zae))) (zao zbJ (zaq zar rfl T.n_len zaU (zaa (pv 3) zae)) zai)))
   (zac (zaw (i:=8) zbo.nd rfl (by first|exact Or.inl rfl|exact Or.inr rfl) (zaR c__law_bad (hr.mono (by decide)) rfl (zaa (pv 2) (zaa (zaR c__law_cell_at (hr.mono (by decide)) rfl (zaa (pv 0) (zaa zai zae))) zae))))
   (zac (za5 (PW.pt (zgo (zav zgY (pv 7) zai (zaB _)) (zfY (zav zhM (pv 8) (zbg (zad zal (zad zal zaP))) (by with_unfolding_all rfl))))) (zaj (zaw (i:=7) zbo.nd rfl (by first|exact Or.inl rfl|exact Or.inr rfl) (zaq zar rfl T.n_len zaU (zaa (pv 3) zae)))) zat)
   (zac (zaw (i:=9) zbo.nd rfl (by first|exact Or.inl rfl|exact Or.inr rfl) (zao zbb (zao zbb (zaY zbu (pv 3) zbt (za9 (pv 7))) (zdb (zaa (pv 8) zae))) (zaY zbu (pv 3) (za9 (pv 7)) zbt)))
   (zac (za5 (zav zdo (zao zbr (zao zeA (pv 1) zai) zai) zai (zaB _)) (zaj (za4 (zb4 PySem.F.plainAttrs_list PySem.F.slot_list_append PySem.F.type_list_append zbv (pv 9) (zaa zap zae)))) zat)
   (zac (za5 (zav (zfq hr.units) (zaR c__law_fault (hr.mono (by decide)) rfl (zaa (zb4 PySem.F.plainAttrs_str PySem.F.slot_str_join PySem.F.type_str_join zc2 zap (zaa (pv 9) zae)) zae)) (zbn (zaa zap (zaa (pv 7) zae))) (zaB _)) (zaj (zaA zgW)) zat)
   (zac (zj0 PassesOwn.never rfl (zbc (zdb (zaa (zao zak zap (zaZ zaH (pv 2) (zi5 zgs zai) (fun _ _=>rfl))) (zaa (zao zak (zao zak zap (zaZ zaH (pv 2) (zi5 zgs zai) (fun _ _=>rfl))) zap) (zaa (zao zak (zao zak zap (zaZ zaH (pv 2) (zi5 zgs zai) (fun _ _=>rfl))) zap) zae))))) (zas (i:=10) zbo.nd rfl (by first|exact Or.inl rfl|exact Or.inr rfl)) (zac (zaw (i:=9) zbo.nd rfl (by first|exact Or.inl rfl|exact Or.inr rfl) (zao zbb (zao zbb (zaY zbu (pv 3) zbt (za9 (zao zdB (zaq zar rfl T.n_len zaU (zaa (pv 2) zae)) zai))) (zdb (zaa (pv 10) zae))) (zaY zbu (pv 3) (za9 (zao zdB (zaq zar rfl T.n_len zaU (zaa (pv 2) zae)) zai)) zbt)))
   (zaj (za5 (zav (zfq hr.units) (zaR c__law_fault (hr.mono (by decide)) rfl (zaa (zb4 PySem.F.plainAttrs_str PySem.F.slot_str_join PySem.F.type_str_join zc2 zap (zaa (pv 9) zae)) zae)) (zbn (zaa zap (zaa (zao zdB (zaq zar rfl T.n_len zaU (zaa (pv 2) zae)) zai) zae))) (zaB _)) (zaj (zaA zgW)) zat))))
   (zac (zaw (i:=11) zbo.nd rfl (by first|exact Or.inl rfl|exact Or.inr rfl) (zaR c__law_crowd (hr.mono (by decide)) rfl (zaa (pv 2) (zaa (zao zbr (zao zeA (pv 1) zai) zai) zae))))
   (zac (za5 (PW.pt (zfa (zav (zfq hr.units) (zaR c__law_fault (hr.mono (by decide)) rfl (zaa (zb4 PySem.F.plainAttrs_str PySem.F.slot_str_join PySem.F.type_str_join zc2 zap (zaa (pv 11) zae)) zae)) (zbn (zaa zap (zaa (zao zdB (zaq zar rfl T.n_len zaU (zaa (pv 11) zae)) zai) zae))) (zaB _)) (ze9 (zav (zfq hr.units) (zaR c__law_fault (hr.mono (by decide)) rfl (zaa (zb4 PySem.F.plainAttrs_str PySem.F.slot_str_join PySem.F.type_str_join zc2 zap (zaa (zaY zbu (pv 11) zbt (za9 (zi5 zgs zai))) zae)) zae)) (zbn (zaa zap (zaa zgn zae))) (zaB _))))) (zaj (zaA zgW)) zat)
   (zaj (zaA (zgq (zcb zdo (zaR c_net_text (hr.mono (by decide)) rfl (zaa (zeM c_read_net zji (hr.mono (by decide)) rfl (zaa zap zae)) zae)) zap (zaB _)) (zgp (zcb (op_eqD hr.units) (zaR c__law_fault (hr.mono (by decide)) rfl (zaa zap zae)) (zbn (zaa zap (zaa zai zae))) (zaB _)))))))))))))))))))))))),?_⟩
  refine⟨_,rfl,p,ns,0,rfl,hS,by decide,fun c=>?_⟩
  dsimp only[zaQ]
  obtain⟨n,hn,n3,n6⟩:∃ n:Nat,(3:Int) + c % 4=(n:Int)∧3≤n∧n≤6:=by
   have h1:0≤c % 4:=Int.emod_nonneg _ (by decide)
   have h2:c % 4<4:=Int.emod_lt_of_pos _ (by decide)
   exact⟨(3 + c % 4).toNat,by omega,by omega,by omega⟩
  refine⟨[none,none,none,none,none,none,none,none,none,none,none,none],six,rfl,by decide +kernel,by decide,fun q0 nq0=>?_⟩
  refine⟨_,rfl,_,_,rfl,rfl,(by show(0:Int)<4;decide),_,_,rfl,rfl,_,rfl,q0,_,rfl,SqL.of zab,fun nm nnm=>?_⟩
  dsimp only[zaQ]
  rw[hn,zgR,← List.map_take]
  have s1:zan H (upd (upd H q0 (.lst (six.map V.str))) nm (.lst ((six.take n).map V.str))):=(zan.new nq0).trans (zan.new nnm)
  have h1:upd (upd H q0 (.lst (six.map V.str))) nm (.lst ((six.take n).map V.str)) nm=some (.lst ((six.take n).map V.str)):=zab
  generalize upd (upd H q0 (.lst (six.map V.str))) nm (.lst ((six.take n).map V.str))=H1 at s1 h1 ⊢
  have lnm:(((six.take n).map V.str).length:Int)=n:=by rw[List.length_map,zcH n6]
  obtain⟨p6,a6,s6,m6,b1,e3⟩:=c6
  refine⟨_,rfl,nm,_,rfl,.inl (SqL.of h1),_,rfl,(by rw[lnm];omega),(by rw[lnm];omega),fun D1 hD1=>?_⟩
  refine zbM (lo:=0) (fun j τ G=>∃ v1,τ=[v1,some (.ref nm)]∧zan H1 G∧G D1=some (.lst ((zd9 j).map V.str))) ⟨none,rfl,zan.new hD1,zab⟩ ?_ ?_
  ·rintro j τ G hj ⟨v1,rfl,sg,hG⟩
   have hj:j<n:=by rw[lnm] at hj;omega
   obtain⟨o,eo,mo,no,lo⟩:=ziT n6 hj
   have eg:six.getD j Str.empty=o:=by
    rw[List.getD_eq_getElem?_getD]
    rw[List.getElem?_take,if_pos hj] at eo
    rw[eo]
    rfl
   have n7:NOk (7 * (j:Int)):=⟨by omega,by omega⟩
   dsimp only[zaQ,zf2]
   rw[if_pos rfl]
   have l1:=la p6 lo
   have l2:=la l1 b1
   refine⟨_,rfl,_,rfl,nm,_,_,.str o,rfl,rfl,SqL.of (sg _ _ h1),?_,_,_,rfl,rfl,lz p6 lo (by decide),_,_,rfl,rfl,lz l1 b1 (by decide),_,rfl,_,_,rfl,rfl,.inl ⟨by decide,by decide⟩,7 * (j:Int),?_,zgO n7,_,_,rfl,rfl,lz l2 (tn7 n7) (by decide),_,hG,by rw[List.length_map,zcU,sizeLine_eq];omega,_,rfl,zaD hD1 sg,?_⟩
   ·rw[Int.zero_add,zdh (by omega),show((j:Int)).toNat=j by omega,List.getElem?_map,eo]
    rfl
   ·rw[Int.zero_add]
   ·rw[zab,show zd9 (j + 1)=zd9 j++[(Ln.pt o [7 * (j:Int)]).text] by unfold zd9;rw[List.range_succ,List.map_append,← eg];rfl,List.map_append]
    show some (HO.lst ((zd9 j).map V.str++[V.str (Str.ofString "point "++o++bk++tn (7 * (j:Int)))]))=_
    rw[tx_pth]
    rfl
  rintro τ H2 ⟨v1,rfl,s2,hD⟩
  rw[show(((six.take n).map V.str).length:Int).toNat=n by rw[lnm];omega] at hD
  have S2:=s1.trans s2
  have h2:=s2 _ _ h1
  obtain⟨ms,ems,lms⟩:=cut30 ns
  refine⟨_,rfl,_,rfl,_,rfl,p,_,rfl,S2.sqL hS,fun q1 nq1=>?_⟩
  rw[ems]
  have s3:zan H2 (upd H2 q1 (.lst (ms.map V.int))):=zan.new nq1
  have h3:upd H2 q1 (.lst (ms.map V.int)) q1=some (.lst (ms.map V.int)):=zab
  generalize upd H2 q1 (.lst (ms.map V.int))=H3 at s3 h3 ⊢
  refine⟨q1,rfl,⟨_,SqL.of h3⟩,fun D2 hD2=>?_⟩
  refine zaO (K:=K) (a:=q1) (xs:=ms.map V.int) (fun j τ G=>∃ v1 xs,τ=[v1,some (.ref nm)]∧zan H3 G∧G D2=some (.lst ((xs:List Str).map V.str))∧xs.length=j∧∀ x∈xs,zjU n x) ⟨none,[],rfl,zan.new hD2,zab,rfl,fun x hx=>by cases hx⟩ ?_ ?_ ?_
  ·rintro j τ G _ ⟨_,_,rfl,sg,_⟩
   exact SqL.of (sg _ _ h3)
  ·rintro j y τ G hy ⟨v1,xs,rfl,sg,hG,xl,xg⟩
   have hj:j<ms.length:=by have:=(List.getElem?_eq_some_iff.mp hy).1;rwa [List.length_map] at this
   obtain⟨z,rfl⟩:∃ z:Int,y=.int z:=by
    rw[List.getElem?_map] at hy
    cases e:ms[j]? with
    | none=>rw[e] at hy;cases hy
    | some z=>rw[e] at hy;cases hy;exact⟨z,rfl⟩
   dsimp only[zaQ,zf2]
   rw[if_pos rfl]
   refine⟨_,rfl,_,rfl,nm,n,z,rfl,sg _ _ (s3 _ _ h2),n3,n6,fun l gl G1 sg1=>?_⟩
   refine⟨_,sg1 _ _ hG,by rw[List.length_map,sizeLine_eq];omega,_,xs++[l.text],rfl,zaD hD2 (sg.trans sg1),?_,?_,fun x hx=>?_⟩
   ·rw[zab,List.map_append]
    rfl
   ·rw[List.length_append,xl]
    rfl
   ·rcases List.mem_append.mp hx with hx|hx
    ·exact xg x hx
    ·exact⟨l,gl,List.mem_singleton.mp hx⟩
  rintro τ H4 ⟨v1,xs,rfl,s4,hm,xl,xg⟩
  rw[List.length_map] at xl
  have S4:=S2.trans (s3.trans s4)
  have h4:=s4 _ _ (s3 _ _ h2)
  have hD4:=s4 _ _ (s3 _ _ hD)
  apply zkL (fun y:Addr×List Str=>[some (.ref p),some (.int c),some (.ref nm),some (.ref D1),some (.ref y.1),none,none,none,none,none,none,none]) (fun y H'=>zan H4 H'∧H' y.1=some (.lst (y.2.map V.str))∧y.2.length≤30∧∀ x∈y.2,zjU n x)
  case g=>
   intro zbH
   refine⟨_,rfl,_,_,rfl,rfl,⟨by decide,by decide⟩,_,_,rfl,rfl,(by show(0:Int)<2;decide),rfl,_,rfl,?_⟩
   refine zb6 (fun _=>?_) (fun _=>?_)
   ·refine⟨_,rfl,D2,xs,rfl,hm,by omega,fun r ss' nr pm _=>?_⟩
    dsimp only[zaQ]
    refine zbH (r,ss') _ ⟨zan.new nr,zab,?_,fun x hx=>xg x (pm.mem_iff.mp hx)⟩
    show ss'.length≤30
    rw[pm.length_eq]
    omega
   ·exact zbH (D2,xs) H4 ⟨zan.refl _,hm,by show xs.length≤30;omega,xg⟩
  case h=>
  rintro⟨mo,xs⟩ H5 ⟨s5,hm,xl,xg⟩
  dsimp only at hm xl xg ⊢
  have S5:=S4.trans s5
  have h5:=s5 _ _ h4
  have hD5:=s5 _ _ hD4
  refine⟨_,rfl,mo,rfl,⟨_,SqL.of hm⟩,fun D3 hD3=>?_⟩
  refine zaO (K:=K) (a:=mo) (xs:=xs.map V.str) (fun j τ G=>∃ v1,τ=[v1]∧zan H5 G∧G D3=some (.lst (((xs.take j).filter fun x=>Txt.startswith x wS).map V.str))) ⟨none,rfl,zan.new hD3,zab⟩ ?_ ?_ ?_
  ·rintro j τ G _ ⟨_,rfl,sg,_⟩
   exact SqL.of (sg _ _ hm)
  ·rintro j y τ G hy ⟨v1,rfl,sg,hG⟩
   obtain⟨z,hz,rfl⟩:=zbV hy
   have hj:j<xs.length:=(List.getElem?_eq_some_iff.mp hz).1
   have fl:=List.length_filter_le (fun x=>Txt.startswith x wS) (xs.take j) 
   rw[List.length_take] at fl
   dsimp only[zaQ]
   refine⟨_,rfl,rfl,z,_,rfl,rfl,_,rfl,?_⟩
   rw[zaS hz,List.filter_append]
   refine zb6 (fun c1=>?_) (fun c1=>?_)
   ·refine⟨_,rfl,_,hG,by rw[List.length_map,sizeLine_eq];omega,_,rfl,zaD hD3 sg,?_⟩
    rw[zab,List.map_append,zlE (p:=fun x=>Txt.startswith x wS) c1]
    rfl
   ·refine⟨_,rfl,sg,?_⟩
    rw[zlF (p:=fun x=>Txt.startswith x wS) c1,List.append_nil]
    exact hG
  rintro τ H6 ⟨v1,rfl,s6',hsm⟩
  rw[List.length_map,List.take_length] at hsm
  have hm6:=s6' _ _ hm
  refine⟨_,rfl,mo,rfl,⟨_,SqL.of hm6⟩,fun D4 hD4'=>?_⟩
  refine zaO (K:=K) (a:=mo) (xs:=xs.map V.str) (fun j τ G=>∃ v1,τ=[v1]∧zan H6 G∧G D4=some (.lst (((xs.take j).filter fun x=>Txt.startswith x wM).map V.str))) ⟨none,rfl,zan.new hD4',zab⟩ ?_ ?_ ?_
  ·rintro j τ G _ ⟨_,rfl,sg,_⟩
   exact SqL.of (sg _ _ hm6)
  ·rintro j y τ G hy ⟨v1,rfl,sg,hG⟩
   obtain⟨z,hz,rfl⟩:=zbV hy
   have hj:j<xs.length:=(List.getElem?_eq_some_iff.mp hz).1
   have fl:=List.length_filter_le (fun x=>Txt.startswith x wM) (xs.take j) 
   rw[List.length_take] at fl
   dsimp only[zaQ]
   refine⟨_,rfl,rfl,z,_,rfl,rfl,_,rfl,?_⟩
   rw[zaS hz,List.filter_append]
   refine zb6 (fun c1=>?_) (fun c1=>?_)
   ·refine⟨_,rfl,_,hG,by rw[List.length_map,sizeLine_eq];omega,_,rfl,zaD hD4' sg,?_⟩
    rw[zab,List.map_append,zlE (p:=fun x=>Txt.startswith x wM) c1]
    rfl
   ·refine⟨_,rfl,sg,?_⟩
    rw[zlF (p:=fun x=>Txt.startswith x wM) c1,List.append_nil]
    exact hG
  rintro τ H7 ⟨v1,rfl,s7,hms⟩
  rw[List.length_map,List.take_length] at hms
  have hm7:=s7 _ _ hm6
  have hsm7:=s7 _ _ hsm
  have S7:=S5.trans (s6'.trans s7)
  have h7:=s7 _ _ (s6' _ _ h5)
  have hD7:=s7 _ _ (s6' _ _ hD5)
  generalize hpp:(fun x:Str=>!decide (x∈(xs.filter fun x=>Txt.startswith x wS).drop 20) && !decide (x∈(xs.filter fun x=>Txt.startswith x wM).drop 20))=pp
  have B:zhv n (zd9 n++xs.filter pp):=zlC n6 xg xl (fun x hx=>by
   rw[← hpp] at hx
   simp only[Bool.and_eq_true,Bool.not_eq_true',decide_eq_false_iff_not] at hx
   exact hx.1) (fun x hx=>by
   rw[← hpp] at hx
   simp only[Bool.and_eq_true,Bool.not_eq_true',decide_eq_false_iff_not] at hx
   exact hx.2)
  refine⟨_,rfl,_,rfl,mo,rfl,⟨_,SqL.of hm7⟩,fun D5 hD5'=>?_⟩
  refine zaO (K:=K) (a:=mo) (xs:=xs.map V.str) (fun j τ G=>∃ v1,τ=[v1,some (.ref D3),some (.ref D4)]∧zan H7 G∧G D5=some (.lst (((xs.take j).filter pp).map V.str))) ⟨none,rfl,zan.new hD5',zab⟩ ?_ ?_ ?_
  ·rintro j τ G _ ⟨_,rfl,sg,_⟩
   exact SqL.of (sg _ _ hm7)
  ·rintro j y τ G hy ⟨v1,rfl,sg,hG⟩
   obtain⟨z,hz,rfl⟩:=zbV hy
   have hj:j<xs.length:=(List.getElem?_eq_some_iff.mp hz).1
   have fl:=List.length_filter_le pp (xs.take j)
   rw[List.length_take] at fl
   have no:∀ G1,zan G G1→pp z=false→∃ v1,([some (V.str z),some (.ref D3),some (.ref D4)]:St)=[v1,some (.ref D3),some (.ref D4)]∧zan H7 G1∧G1 D5=some (.lst (((xs.take (j + 1)).filter pp).map V.str)):=fun G1 sg1 e=>by
    refine⟨_,rfl,sg.trans sg1,?_⟩
    rw[zaS hz,List.filter_append,zlF e,List.append_nil]
    exact sg1 _ _ hG
   dsimp only[zaQ]
   refine⟨_,rfl,_,rfl,_,rfl,D3,_,rfl,SqL.of (sg _ _ hsm7),fun t1 nt1=>?_⟩
   have r1:=zan.new (o:=.lst (zdu ((xs.filter fun x=>Txt.startswith x wS).map V.str) (some 20) none)) nt1
   have e1:zdu ((xs.filter fun x=>Txt.startswith x wS).map V.str) (some 20) none=((xs.filter fun x=>Txt.startswith x wS).drop 20).map V.str:=by
    rw[show(20:Int)=((20:Nat):Int) from rfl,zcj,List.map_drop]
   refine⟨t1,_,rfl,.inl (SqL.of zab),rfl,by rw[e1];exact zfO _,_,rfl,?_⟩
   rw[e1] at r1 ⊢
   dsimp only
   rw[zgQ]
   refine zb6 (fun c1=>?_) (fun c1=>?_)
   ·have c1:z∉(xs.filter fun x=>Txt.startswith x wS).drop 20:=by simpa using c1
    refine⟨_,rfl,_,rfl,_,rfl,D4,_,rfl,SqL.of (r1 _ _ (sg _ _ hms)),fun t2 nt2=>?_⟩
    have e2:zdu ((xs.filter fun x=>Txt.startswith x wM).map V.str) (some 20) none=((xs.filter fun x=>Txt.startswith x wM).drop 20).map V.str:=by
     rw[show(20:Int)=((20:Nat):Int) from rfl,zcj,List.map_drop]
    have r2:=r1.trans (zan.new (o:=.lst (zdu ((xs.filter fun x=>Txt.startswith x wM).map V.str) (some 20) none)) nt2)
    refine⟨t2,_,rfl,.inl (SqL.of zab),rfl,by rw[e2];exact zfO _,_,rfl,?_⟩
    rw[e2] at r2 ⊢
    dsimp only
    rw[zgQ]
    refine zb6 (fun c2=>?_) (fun c2=>?_)
    ·have c2:z∉(xs.filter fun x=>Txt.startswith x wM).drop 20:=by simpa using c2
     have pz:pp z=true:=by
      rw[← hpp]
      show(!decide (z∈(xs.filter fun x=>Txt.startswith x wS).drop 20) && !decide (z∈(xs.filter fun x=>Txt.startswith x wM).drop 20))=true
      rw[decide_eq_false c1,decide_eq_false c2]
      rfl
     refine⟨_,rfl,_,r2 _ _ hG,by rw[List.length_map,sizeLine_eq];omega,_,rfl,zaD hD5' (sg.trans r2),?_⟩
     rw[zab,zaS hz,List.filter_append,zlE pz,List.map_append]
     rfl
    ·have c2:z∈(xs.filter fun x=>Txt.startswith x wM).drop 20:=by simpa using c2
     exact no _ r2 (by
      rw[← hpp]
      show(!decide (z∈(xs.filter fun x=>Txt.startswith x wS).drop 20) && !decide (z∈(xs.filter fun x=>Txt.startswith x wM).drop 20))=false
      rw[decide_eq_true c2,Bool.and_comm]
      rfl)
   ·have c1:z∈(xs.filter fun x=>Txt.startswith x wS).drop 20:=by simpa using c1
    refine zjg (no _ r1 ?_)
    rw[← hpp]
    show(!decide (z∈(xs.filter fun x=>Txt.startswith x wS).drop 20) && !decide (z∈(xs.filter fun x=>Txt.startswith x wM).drop 20))=false
    rw[decide_eq_true c1]
    rfl
  rintro τ H8 ⟨v1,rfl,s8,hf8⟩
  rw[List.length_map,List.take_length] at hf8
  clear hpp
  generalize xs.filter pp=fl at B hf8
  have l1:=B.few
  rw[List.length_append] at l1
  refine⟨D1,D5,_,_,rfl,rfl,s8 _ _ hD7,hf8,by rw[List.length_map,List.length_map,sizeLine_eq];omega,fun bl_ nbl=>?_⟩
  have s9:zan H7 (upd H8 bl_ (.lst ((zd9 n).map V.str++fl.map V.str))):=s8.trans (zan.new nbl)
  have hb:upd H8 bl_ (.lst ((zd9 n).map V.str++fl.map V.str)) bl_=some (.lst ((zd9 n++fl).map V.str)):=by rw[zab,List.map_append]
  generalize upd H8 bl_ (.lst ((zd9 n).map V.str++fl.map V.str))=H9 at s9 hb ⊢
  generalize zd9 n++fl=bl at B hb
  have S9:=S7.trans s9
  have h9:=s9 _ _ h7
  obtain⟨bL,bF⟩:=B.lines n3
  refine⟨rfl,_,rfl,nl,bl_,bl,rfl,rfl,SqL.of hb,zcW bL,bl,none,rfl,bL,bF,fun t1 H10 s10 ht1=>?_⟩
  refine⟨(by show 2≤sizeLine;decide),fun t2 nt2=>zd8 ((zan.new nt2) _ _ ht1) zab ⟨_,rfl,zjg ?_⟩⟩
  have s11:=s10.trans (zan.new (o:=.tup (zgi none)) nt2)
  replace s11:zan H9 (upd H10 t2 (.tup [.str (Str.ofString "read"),.non])):=s11
  generalize upd H10 t2 (.tup [.str (Str.ofString "read"),.non])=H11 at s11 ⊢
  have S11:=S9.trans s11
  have h11:=s11 _ _ h9
  have hb11:=s11 _ _ hb
  have bn:=B.len
  have bf:=B.few
  have lb:((bl.map V.str).length:Int)=bl.length:=by rw[List.length_map]
  refine⟨_,rfl,p,ns,1,rfl,S11.sqL hS,by decide,fun c1=>⟨_,rfl,bl_,_,rfl,.inl (SqL.of hb11),_,_,rfl,rfl,_,_,rfl,rfl,(by show(0:Int)<_;rw[lb];omega),?_⟩⟩
  dsimp only[zaQ]
  rw[lb]
  obtain⟨i0,ei,hi0⟩:∃ i0:Nat,c1 % ((bl.length:Int) + 1)=(i0:Int)∧i0≤bl.length:=by
   have g1:0≤c1 % ((bl.length:Int) + 1):=Int.emod_nonneg _ (by omega)
   have g2:c1 % ((bl.length:Int) + 1)<(bl.length:Int) + 1:=Int.emod_lt_of_pos _ (by omega)
   exact⟨(c1 % ((bl.length:Int) + 1)).toNat,by omega,by omega⟩
  rw[ei]
  refine⟨_,rfl,_,rfl,p,ns,2,rfl,S11.sqL hS,by decide,fun c2=>⟨nm,n,c2,rfl,h11,n3,n6,fun j H12 s12=>?_⟩⟩
  dsimp only[zaQ]
  have S12:=S11.trans s12
  have h12:=s12 _ _ h11
  have hb12:=s12 _ _ hb11
  apply zkL (fun y:Nat=>[some (.ref p),some (.int c),some (.ref nm),some (.ref bl_),some (.ref mo),some (.ref D3),some (.ref D4),some (.int (y:Int)),some (.str (ze6.getD j.val Str.empty)),none,none,none]) (fun y H'=>zan H12 H'∧y≤bl.length∧(j.val=37∨j.val=38→1≤y))
  case g=>
   intro zbH
   refine⟨_,rfl,_,_,rfl,rfl,_,rfl,?_⟩
   refine zb6 (fun g1=>?_) (fun g1=>?_)
   ·refine⟨_,rfl,[none,none,none,none,none,none,none,none,some (ze6.getD j.val Str.empty),none,none,none],[Str.ofString "point a",Str.ofString "point a 3"],rfl,rfl,by decide,fun q nq=>?_⟩
    refine⟨q,_,rfl,.inl (SqL.of zab),rfl,rfl,_,rfl,?_⟩
    have e:=zjQ j
    dsimp only
    rw[show inV (.str (ze6.getD j.val Str.empty)) (List.map V.str [Str.ofString "point a",Str.ofString "point a 3"])=_ from e]
    refine zb6 (fun g2=>?_) (fun g2=>?_)
    ·refine⟨_,rfl,bl_,_,rfl,.inl (SqL.of ((zan.new nq) _ _ hb12)),?_⟩
     dsimp only[zaQ]
     rw[lb]
     exact zbH bl.length _ ⟨zan.new nq,Nat.le_refl _,fun _=>by omega⟩
    ·refine zbH i0 _ ⟨zan.new nq,hi0,fun hj=>?_⟩
     replace g2:(decide (j.val=37) || decide (j.val=38))=false:=g2
     rw[Bool.or_eq_false_iff,decide_eq_false_iff_not,decide_eq_false_iff_not] at g2
     omega
   ·have g1:=of_decide_eq_false g1
    exact zjg (zbH i0 H12 ⟨zan.refl _,hi0,fun _=>by omega⟩)
  case h=>
  rintro i H13 ⟨s13,hi,hj⟩
  have S13:=S12.trans s13
  have h13:=s13 _ _ h12
  have hb13:=s13 _ _ hb12
  generalize hbd:ze6.getD j.val Str.empty=bd
  refine⟨_,rfl,_,rfl,_,rfl,bl_,_,rfl,SqL.of hb13,fun q1 n1=>?_⟩
  dsimp only
  rw[zgR]
  have r1:zan H13 (upd H13 q1 (.lst ((bl.map V.str).take i))):=zan.new n1
  have g1:upd H13 q1 (.lst ((bl.map V.str).take i)) q1=some (.lst ((bl.map V.str).take i)):=zab
  generalize upd H13 q1 (.lst ((bl.map V.str).take i))=G1 at r1 g1 ⊢
  refine⟨_,rfl,(by show 1≤sizeLine;decide),fun q2 n2=>?_⟩
  refine⟨q1,q2,_,_,rfl,rfl,(zan.new n2) _ _ g1,zab,by rw[List.length_take,List.length_map,sizeLine_eq];show _ + 1≤_;omega,fun q3 n3'=>?_⟩
  have r3:zan H13 (upd (upd G1 q2 (.lst [V.str bd])) q3 (.lst ((bl.map V.str).take i++[V.str bd]))):=(r1.trans (zan.new n2)).trans (zan.new n3')
  have g3:upd (upd G1 q2 (.lst [V.str bd])) q3 (.lst ((bl.map V.str).take i++[V.str bd])) q3=some (.lst ((bl.map V.str).take i++[V.str bd])):=zab
  generalize upd (upd G1 q2 (.lst [V.str bd])) q3 (.lst ((bl.map V.str).take i++[V.str bd]))=G3 at r3 g3 ⊢
  refine⟨_,rfl,_,rfl,_,rfl,bl_,_,rfl,SqL.of (r3 _ _ hb13),fun q4 n4=>?_⟩
  dsimp only
  rw[zcj]
  refine⟨q3,q4,_,_,rfl,rfl,(zan.new n4) _ _ g3,zab,by rw[List.length_append,List.length_take,List.length_drop,List.length_map,sizeLine_eq];show _ + 1 + _≤_;omega,fun q5 n5=>?_⟩
  have r5:zan H13 (upd (upd G3 q4 (.lst ((bl.map V.str).drop i))) q5 (.lst ((bl.map V.str).take i++[V.str bd]++(bl.map V.str).drop i))):=(r3.trans (zan.new n4)).trans (zan.new n5)
  have g5:upd (upd G3 q4 (.lst ((bl.map V.str).drop i))) q5 (.lst ((bl.map V.str).take i++[V.str bd]++(bl.map V.str).drop i)) q5=some (.lst ((bl.take i++[bd]++bl.drop i).map V.str)):=by
   rw[zab,List.map_append,List.map_append,List.map_take,List.map_drop]
   rfl
  have f5:H13 q5=none:=zbP (r3.trans (zan.new n4)) n5
  generalize upd (upd G3 q4 (.lst ((bl.map V.str).drop i))) q5 (.lst ((bl.map V.str).take i++[V.str bd]++(bl.map V.str).drop i))=G5 at r5 g5 ⊢
  dsimp only[zaQ]
  apply zkL (fun _:List Str=>[some (.ref p),some (.int c),some (.ref nm),some (.ref bl_),some (.ref mo),some (.ref D3),some (.ref D4),some (.int (i:Int)),some (.str bd),some (.ref q5),none,none]) (fun(ms:List Str) H'=>zan H13 H'∧(ms=[]∨ms=[Str.ofString "bad line"])∧H' q5=some (.lst ((bl.take i++[bd]++bl.drop i++ms).map V.str)))
  case g=>
   intro zbH
   refine⟨_,rfl,_,_,rfl,rfl,⟨by decide,by decide⟩,_,_,rfl,rfl,(by show(0:Int)<3;decide),rfl,_,rfl,?_⟩
   refine zb6 (fun _=>?_) (fun _=>?_)
   ·refine⟨_,rfl,.inl ⟨rfl,_,SqL.of g5⟩,q5,_,_,rfl,rfl,g5,by rw[List.length_map,List.length_append,List.length_append,List.length_take,List.length_drop,sizeLine_eq];show _ + 1 + _<_;omega,?_⟩
    refine zbH [Str.ofString "bad line"] _ ⟨zaD f5 r5,.inr rfl,?_⟩
    rw[zab,List.map_append (l₂:=[Str.ofString "bad line"])]
    rfl
   ·exact zbH [] G5 ⟨r5,.inl rfl,by rw[List.append_nil];exact g5⟩
  case h=>
  rintro ms2 H14 ⟨s14,hms2,g6⟩
  have S14:=S13.trans s14
  have h14:=s14 _ _ h13
  have hb14:=s14 _ _ hb13
  obtain⟨wL,wF⟩:=B.bad n3 n6 j hi hj hms2
  rw[hbd] at wL wF
  generalize bl.take i++[bd]++bl.drop i++ms2=ws at g6 wL wF
  refine⟨rfl,_,rfl,nl,q5,ws,rfl,rfl,SqL.of g6,zcW wL,ws,some i,rfl,wL,wF,fun t1 H15 s15 ht1=>?_⟩
  refine⟨_,rfl,(by show 2≤sizeLine;decide),fun t2 nt2=>zd8 ((zan.new nt2) _ _ ht1) zab ⟨_,rfl,zjg ?_⟩⟩
  have s16:zan H14 (upd H15 t2 (.tup [.str (Str.ofString "line"),.int (i:Int)])):=s15.trans (zan.new nt2)
  generalize upd H15 t2 (.tup [.str (Str.ofString "line"),.int (i:Int)])=H16 at s16 ⊢
  have S16:=S14.trans s16
  have h16:=s16 _ _ h14
  have hb16:=s16 _ _ hb14
  obtain⟨aL,nL,lL⟩:=zjW n3 n6
  generalize hLL:six.getD (n - 1) Str.empty=LL at aL nL lL
  have ka:zaJ nA=true:=by decide +kernel
  have oks:∀ l∈[Ln.ar nA LL [],.sm LL nA,.ms nA LL 3],l.Ok∧¬ l.rd.k=kPt∧(l.rd.nm 0=LL∨l.rd.nm 1=LL):=by
   intro l hl
   simp only[List.mem_cons,List.not_mem_nil,or_false] at hl
   rcases hl with rfl|rfl|rfl
   ·exact⟨⟨ka,nL,Nat.zero_le _,fun m hm=>by cases hm⟩,show ¬ kAr=kPt by decide,.inr rfl⟩
   ·exact⟨⟨nL,ka⟩,show ¬ kSm=kPt by decide,.inl rfl⟩
   ·exact⟨⟨ka,nL,by decide,by decide⟩,show ¬ kMs=kPt by decide,.inr rfl⟩
  have l8:(Str.ofString "arrow a ").length≤8∧(Str.ofString "most a ").length≤8∧(Str.ofString " a").length≤2∧(Str.ofString " 3").length≤2:=by decide
  obtain⟨k1,k2,k3,k4⟩:=l8
  refine⟨_,rfl,_,rfl,nm,_,_,_,rfl,rfl,SqL.of h16,aL,_,_,rfl,rfl,lz k1 lL (by decide),_,rfl,_,rfl,nm,_,_,_,rfl,rfl,SqL.of h16,aL,_,_,rfl,rfl,lz s6 lL (by decide),_,_,rfl,rfl,lz (la s6 lL) k3 (by decide),_,rfl,_,rfl,nm,_,_,_,rfl,rfl,SqL.of h16,aL,_,_,rfl,rfl,lz k2 lL (by decide),_,_,rfl,rfl,lz (la k2 lL) k4 (by decide),(by show 3≤sizeLine;decide),fun el nel=>?_⟩
  rw[te_ar,te_sm,te_ms]
  have s17:zan H16 (upd H16 el (.lst [.str (Ln.ar nA LL []).text,.str (Ln.sm LL nA).text,.str (Ln.ms nA LL 3).text])):=zan.new nel
  have h17:upd H16 el (.lst [.str (Ln.ar nA LL []).text,.str (Ln.sm LL nA).text,.str (Ln.ms nA LL 3).text]) el=some (.lst ([Ln.ar nA LL [],.sm LL nA,.ms nA LL 3].map fun l=>V.str l.text)):=zab
  generalize upd H16 el (.lst [.str (Ln.ar nA LL []).text,.str (Ln.sm LL nA).text,.str (Ln.ms nA LL 3).text])=H17 at s17 h17 ⊢
  generalize [Ln.ar nA LL [],.sm LL nA,.ms nA LL 3]=el3 at oks h17
  have S17:=S16.trans s17
  have nm17:=s17 _ _ h16
  have hb17:=s17 _ _ hb16
  refine⟨el,rfl,⟨_,SqL.of h17⟩,zi4 (K:=K) (a:=el) (xs:=el3.map fun l=>V.str l.text) (fun k σ G=>∃ v9 v10,σ=[some (.ref p),some (.int c),some (.ref nm),some (.ref bl_),some (.ref mo),some (.ref D3),some (.ref D4),some (.int (i:Int)),some (.str bd),v9,v10,none]∧zan H17 G) ⟨_,_,rfl,zan.refl _⟩ ?_ ?_ ?_⟩
  ·rintro k σ G _ ⟨_,_,rfl,sg⟩
   exact SqL.of (sg _ _ h17)
  ·rintro k y σ G hy ⟨v9,v10,rfl,sg⟩
   obtain⟨l,hl,rfl⟩:∃ l∈el3,y=.str l.text:=by
    rw[List.getElem?_map] at hy
    cases e:el3[k]? with
    | none=>rw[e] at hy;cases hy
    | some l=>rw[e] at hy;cases hy;exact⟨l,List.mem_of_getElem? e,rfl⟩
   obtain⟨ok,hk,hL⟩:=oks l hl
   rw[← hLL] at hL
   obtain⟨eL,eF⟩:=B.early n3 n6 ok hk hL
   have hbG:=sg _ _ hb17
   have nmG:=sg _ _ nm17
   have e1:(n:Int) - 1=((n - 1:Nat):Int):=by omega
   dsimp only[zaQ]
   refine⟨_,rfl,_,rfl,nm,_,rfl,.inl (SqL.of nmG),_,_,rfl,rfl,_,rfl,bl_,_,rfl,SqL.of hbG,fun q1 n1=>?_⟩
   dsimp only
   rw[lnm,e1,zgR]
   have r1:zan G (upd G q1 (.lst ((bl.map V.str).take (n - 1)))):=zan.new n1
   have g1:upd G q1 (.lst ((bl.map V.str).take (n - 1))) q1=some (.lst ((bl.map V.str).take (n - 1))):=zab
   generalize upd G q1 (.lst ((bl.map V.str).take (n - 1)))=G1 at r1 g1 ⊢
   refine⟨_,rfl,(by show 1≤sizeLine;decide),fun q2 n2=>?_⟩
   refine⟨q1,q2,_,_,rfl,rfl,(zan.new n2) _ _ g1,zab,by rw[List.length_take,List.length_map,sizeLine_eq];show _ + 1≤_;omega,fun q3 n3'=>?_⟩
   have r3:zan G (upd (upd G1 q2 (.lst [V.str l.text])) q3 (.lst ((bl.map V.str).take (n - 1)++[V.str l.text]))):=(r1.trans (zan.new n2)).trans (zan.new n3')
   have g3:upd (upd G1 q2 (.lst [V.str l.text])) q3 (.lst ((bl.map V.str).take (n - 1)++[V.str l.text])) q3=some (.lst ((bl.map V.str).take (n - 1)++[V.str l.text])):=zab
   generalize upd (upd G1 q2 (.lst [V.str l.text])) q3 (.lst ((bl.map V.str).take (n - 1)++[V.str l.text]))=G3 at r3 g3 ⊢
   refine⟨_,rfl,_,rfl,nm,_,rfl,.inl (SqL.of (r3 _ _ nmG)),_,_,rfl,rfl,_,rfl,bl_,_,rfl,SqL.of (r3 _ _ hbG),fun q4 n4=>?_⟩
   dsimp only
   rw[lnm,e1,zcj]
   refine⟨q3,q4,_,_,rfl,rfl,(zan.new n4) _ _ g3,zab,by rw[List.length_append,List.length_take,List.length_drop,List.length_map,sizeLine_eq];show _ + 1 + _≤_;omega,fun q5 n5=>?_⟩
   have r5:zan G (upd (upd G3 q4 (.lst ((bl.map V.str).drop (n - 1)))) q5 (.lst ((bl.map V.str).take (n - 1)++[V.str l.text]++(bl.map V.str).drop (n - 1)))):=(r3.trans (zan.new n4)).trans (zan.new n5)
   have g5:upd (upd G3 q4 (.lst ((bl.map V.str).drop (n - 1)))) q5 (.lst ((bl.map V.str).take (n - 1)++[V.str l.text]++(bl.map V.str).drop (n - 1))) q5=some (.lst ((bl.take (n - 1)++[l.text]++bl.drop (n - 1)).map V.str)):=by
    rw[zab,List.map_append,List.map_append,List.map_take,List.map_drop]
    rfl
   generalize upd (upd G3 q4 (.lst ((bl.map V.str).drop (n - 1)))) q5 (.lst ((bl.map V.str).take (n - 1)++[V.str l.text]++(bl.map V.str).drop (n - 1)))=G5 at r5 g5 ⊢
   generalize bl.take (n - 1)++[l.text]++bl.drop (n - 1)=ws at g5 eL eF
   dsimp only[zaQ]
   refine⟨rfl,_,rfl,nl,q5,ws,rfl,rfl,SqL.of g5,zcW eL,ws,some (n - 1),rfl,eL,eF,fun t1 G6 s6_ ht1=>?_⟩
   refine⟨_,rfl,nm,_,rfl,.inl (SqL.of (s6_ _ _ (r5 _ _ nmG))),_,_,rfl,rfl,(by show 2≤sizeLine;decide),fun t2 nt2=>?_⟩
   dsimp only at nt2 ⊢
   rw[lnm,e1]
   exact zd8 ((zan.new nt2) _ _ ht1) zab ⟨_,rfl,zjg ⟨_,_,rfl,sg.trans (r5.trans (s6_.trans (zan.new nt2)))⟩⟩
  rintro σ H18 ⟨v9,v10,rfl,s18⟩
  have nm18:=s18 _ _ nm17
  refine⟨_,rfl,_,rfl,_,_,rfl,rfl,⟨by decide,by decide⟩,_,_,rfl,rfl,(by show(0:Int)<4;decide),nm,n,_,rfl,nm18,n3,n6,fun cw cl_ H19 hC s19 hcw=>?_⟩
  obtain⟨⟨cL,cF⟩,dL,dF⟩:=hC.faults
  have c21:=hC.le
  have lcw:((cw.map V.str).length:Int) - 1=((cw.length - 1:Nat):Int):=by rw[List.length_map];omega
  refine⟨rfl,_,rfl,nl,cl_,cw,rfl,rfl,SqL.of hcw,zcW cL,cw,some (cw.length - 1),rfl,cL,cF,fun t1 H20 s20 ht1=>?_⟩
  refine⟨_,rfl,cl_,_,rfl,.inl (SqL.of (s20 _ _ hcw)),_,_,rfl,rfl,(by show 2≤sizeLine;decide),fun t2 nt2=>?_⟩
  dsimp only at nt2 ⊢
  rw[lcw]
  refine zd8 ((zan.new nt2) _ _ ht1) zab ⟨_,rfl,zjg ?_⟩
  have s21:zan H19 (upd H20 t2 (.tup [.str (Str.ofString "line"),.int ((cw.length - 1:Nat):Int)])):=s20.trans (zan.new nt2)
  generalize upd H20 t2 (.tup [.str (Str.ofString "line"),.int ((cw.length - 1:Nat):Int)])=H21 at s21 ⊢
  refine⟨rfl,_,rfl,_,rfl,_,rfl,cl_,_,rfl,SqL.of (s21 _ _ hcw),fun q6 n6'=>?_⟩
  dsimp only
  rw[cut_m1 _ (by rw[List.length_map];omega),List.length_map,← List.map_take]
  have s22:zan H21 (upd H21 q6 (.lst ((cw.take (cw.length - 1)).map V.str))):=zan.new n6'
  have h22:upd H21 q6 (.lst ((cw.take (cw.length - 1)).map V.str)) q6=some (.lst ((cw.take (cw.length - 1)).map V.str)):=zab
  generalize upd H21 q6 (.lst ((cw.take (cw.length - 1)).map V.str))=H22 at s22 h22 ⊢
  generalize cw.take (cw.length - 1)=dw at dL dF h22
  refine⟨nl,q6,dw,rfl,rfl,SqL.of h22,zcW dL,dw,none,rfl,dL,dF,fun t3 H23 s23 ht3=>?_⟩
  refine⟨(by show 2≤sizeLine;decide),fun t4 nt4=>zd8 ((zan.new nt4) _ _ ht3) zab ⟨_,rfl,zjg ?_⟩⟩
  refine⟨[],rfl,⟨(fun l hl=>by cases hl),(fun l hl=>by cases hl),by decide,.inl rfl⟩,fun v hv x r H24 s24 N24=>?_,fun i l v e=>by simp at e⟩
  cases hv
  refine⟨x,r,rfl,N24,fun H25 s25=>⟨rfl,_,rfl,zfy (decide_eq_true rfl) ?_⟩⟩
  obtain⟨zL,zF⟩:=zjV
  refine⟨[Str.empty,Str.empty],some 0,(congrArg (fun x=>[V.str x]) (by decide +kernel)),zL,zF,fun t5 H26 s26 ht5=>?_⟩
  refine⟨(by show 2≤sizeLine;decide),fun t6 nt6=>zlD ((zan.new nt6) _ _ ht5) zab ?_⟩
  exact kq _
end
end K05
namespace K05
open PySem L2
theorem ziX {K:PySem.W.Frag}{p:Addr}{od:Option Addr}{sl:Array (Option Value)}{n:Nat} (h:K.lookup p=some ⟨.type "tuple",od,.seq #[] n,sl⟩):∀ H,SqT K H p []:=fun _=>.inr ⟨_,_,_,h,rfl,rfl,(by show 0≤sizeLine;decide),.nil⟩
theorem ziY {K:PySem.W.Frag}{p:Addr}{od:Option Addr}{sl:Array (Option Value)}{n:Nat}{i0:Int}{t0:Tok} (h:K.lookup p=some ⟨.type "tuple",od,.seq #[.int i0 t0] n,sl⟩):∀ H,SqT K H p [.int i0]:=fun _=>.inr ⟨_,_,_,h,rfl,rfl,(by show 1≤sizeLine;decide),.cons ⟨_,rfl⟩ (.nil)⟩
theorem zgT {K:PySem.W.Frag}{p:Addr}{od:Option Addr}{sl:Array (Option Value)}{n:Nat}{i0:Int}{t0:Tok}{i1:Int}{t1:Tok} (h:K.lookup p=some ⟨.type "tuple",od,.seq #[.int i0 t0,.int i1 t1] n,sl⟩):∀ H,SqT K H p [.int i0,.int i1]:=fun _=>.inr ⟨_,_,_,h,rfl,rfl,(by show 2≤sizeLine;decide),.cons ⟨_,rfl⟩ (.cons ⟨_,rfl⟩ (.nil))⟩
theorem zfQ {K:PySem.W.Frag}{p:Addr}{od:Option Addr}{sl:Array (Option Value)}{n:Nat}{i0:Int}{t0:Tok}{i1:Int}{t1:Tok}{i2:Addr} (h:K.lookup p=some ⟨.type "tuple",od,.seq #[.int i0 t0,.int i1 t1,.ref i2] n,sl⟩):∀ H,SqT K H p [.int i0,.int i1,.ref i2]:=fun _=>.inr ⟨_,_,_,h,rfl,rfl,(by show 3≤sizeLine;decide),.cons ⟨_,rfl⟩ (.cons ⟨_,rfl⟩ (.cons rfl (.nil)))⟩
theorem kd4_mk {pr:Program}{w:World}{K:PySem.W.Frag}{p:Addr}{ep:Nat}{k0:Str}{t0:Tok}{p0:Addr}{k1:Str}{t1:Tok}{p1:Addr}{k2:Str}{t2:Tok}{p2:Addr}{k3:Str}{t3:Tok}{p3:Addr} (h:K.lookup p=some ⟨.type "dict",none,.dict #[⟨keyH w (Sum.inr k0),.str k0 t0,.ref p0⟩,⟨keyH w (Sum.inr k1),.str k1 t1,.ref p1⟩,⟨keyH w (Sum.inr k2),.str k2 t2,.ref p2⟩,⟨keyH w (Sum.inr k3),.str k3 t3,.ref p3⟩] ep,#[]⟩) (hs:(p == sysModules)=false) (hn:[(Sum.inr k0:Key),(Sum.inr k1:Key),(Sum.inr k2:Key),(Sum.inr k3:Key)].Nodup):KD pr w K p [(Sum.inr k0,.ref p0),(Sum.inr k1,.ref p1),(Sum.inr k2,.ref p2),(Sum.inr k3,.ref p3)]:=by
 refine⟨hs,[(Sum.inr k0,.ref p0),(Sum.inr k1,.ref p1),(Sum.inr k2,.ref p2),(Sum.inr k3,.ref p3)],.cons ⟨rfl,rfl⟩ (.cons ⟨rfl,rfl⟩ (.cons ⟨rfl,rfl⟩ (.cons ⟨rfl,rfl⟩ (.nil)))),_,h,_,_,⟨rfl,rfl,rfl⟩,rfl,fun e he=>?_,.cons ki rfl (.cons ki rfl (.cons ki rfl (.cons ki rfl (.nil)))),hn⟩
 simp only[List.mem_toArray,List.mem_cons,List.not_mem_nil,or_false] at he
 rcases he with rfl|rfl|rfl|rfl <;> exact⟨_,ki,rfl⟩
set_option maxHeartbeats 4000000 in
theorem all_mk {l:PySem.W.OpenLaw}{w:World}{K:PySem.W.Frag}{h:Heap}{mg:Str→Option Value}{fa f:Addr}{TS:List Addr}{q0 q1 q2 q3 q4 q5 q6 q7 q8 q9 q10 q11 q12 q13 q14 q15 q16 q17 q18:Addr}{oc:Value}{od an:Option Addr}{osl:Array (Option Value)}{kV doc pm cdv ct:Value} (X:K.In h) (G:h.Ns mainGlobals mg) (hfa:mg "law"=some (.ref fa)) (gl0:PySem.W.nsIn K mainGlobals "LINES"=some (some (.ref q10))) (kz0:KD l.prog w K q10 [(Sum.inr "point",.ref q12),(Sum.inr "arrow",.ref q14),(Sum.inr "same",.ref q16),(Sum.inr "most",.ref q18)]) (T:Tx K mg ⟨q0,q1,q2,q3,q4,q5,q6,q7,q8,q9,q10,q11,q12,q13,q14,q15,q16,q17,q18⟩) (al:PySem.W.nsIn K mainGlobals "law"=some (some (.ref f))) (ll:K.lookup f=some ⟨oc,od,.func (fnN "law" "law" zed kV doc pm an cdv ct),osl⟩) (cl:PySem.W.codeIn K cdv "law"=true) (hnd:([]:List Addr).Nodup) :
  ∃ (fd:FuncData) (ts:List Tab) (sp:Sp),(∀ (s:Shared) (u:Value),BindsTo s fd ⟨[u],[]⟩ [("_law_script",u)])∧(ts.map (·.1)).Nodup∧(∀ t∈ts,t.1∈TS∧(∃ c,PySem.W.codeHdIn K c t.1=true)∧K.lookup t.1=none) ∧
    (∀ (H:Hp) (a:Addr) (ns:List Int),ns.length≤63→zil ts H→SqL K H a (ns.map V.int)→sp [.ref a] H (fun v _=>v=.bl true) fun _ _ _=>False) ∧
    ∀ base:Heap,K.In base→base.Ns mainGlobals mg→zcZ l.prog w K mg base CX0 10 fa fd ["_law_script"] sp:=by
 have e:=hfa.symm.trans (PySem.W.mg_of X G al)
 cases e
 refine⟨_,[],spLaw K,fun s v=>.of_eq rfl,hnd,?_,?_,fun base _ _=>ok_law T kz0 _ _ (zc4 (st:=zed) ll cl)⟩
 ·intro t ht
  cases ht
 ·exact fun H p ns hl hO hS=>⟨p,ns,rfl,hS,hl,fun _=>rfl⟩
theorem walk {l:PySem.W.OpenLaw}{q:Program}{loose:List Str}{XP:(Str→Option Value)→Heap→Prop}{YP:World→Heap→Prop}{d:DefRec}{K:Params→PySem.W.Frag}{TS:List Addr} (hn:l.most=some 63) (hdf:d.params.defaults=[])
  (hY:∀ (w:World) (h:Heap),YP w h→(K w.params).In h∧∀ P∈TS,h.get? P=some (PySem.W.tabObj #[]))
  (F:∀ (w:World) (mg:Str→Option Value) (fa:Addr) (h:Heap),(K w.params).In h→h.Ns mainGlobals mg→mg d.name=some (.ref fa)→∃ (fd:FuncData) (ts:List Tab) (sp:Sp),(∀ (s:Shared) (u:Value),BindsTo s fd ⟨[u],[]⟩ [("_law_script",u)])∧(ts.map (·.1)).Nodup∧(∀ t∈ts,t.1∈TS∧(∃ c,PySem.W.codeHdIn (K w.params) c t.1=true)∧(K w.params).lookup t.1=none) ∧
    (∀ (H:Hp) (a:Addr) (ns:List Int),ns.length≤63→zil ts H→SqL (K w.params) H a (ns.map V.int)→sp [.ref a] H (fun v _=>v=.bl true) fun _ _ _=>False) ∧
    ∀ base:Heap,(K w.params).In base→base.Ns mainGlobals mg→zcZ l.prog w (K w.params) mg base CX0 10 fa fd ["_law_script"] sp) :
  PySem.W.WalkO q loose XP YP l.row.toRowW d [] (fun f vs=>PySem.call f vs):=
 L2.zjr (n:=63) (k:=10) (x:="_law_script") hn (by decide) hdf ⟨by decide,by decide⟩ hY F
end K05
namespace PySem.W.Fast
def tw4936758800104118541:=()
def tw2604142191143263727:=()
def tw630238106356727240:=()
def tw9151073512794576141:=()
def tw5877345187177148306:=()
def tw13923212304247830284:=()
def tw16220106368932627955:=()
def tw14936616985823869419:=()
def tw5046759004138941984:=()
def tw12468027756694944655:=()
def tw7984629859615686093:=()
def tw10731964318912851689:=()
def tw2979151577136038937:=()
def tw6511763613458807630:=()
def tw764118334689696559:=()
def tw14429067685432656568:=()
def tw15981521661241820669:=()
def tw7142754614880667835:=()
def tw5619280343714607252:=()
def tw11469913393555341863:=()
def tw10925484829655648268:=()
def tw11223129510733637889:=()
def tw554288541400457986:=()
def tw6158358459454464941:=()
def tw8631423888283909324:=()
def tw13963445725910479241:=()
def tw613529465084127390:=()
def tw12531301330122041941:=()
def tw14362165231746600125:=()
def tw3382190058161628785:=()
def tw4628205828455564064:=()
def tw13632653648991219668:=()
def tw10101306051752983959:=()
end PySem.W.Fast
open PySem PySem.W PyProof.Rows
set_option maxRecDepth 100000 in
set_option maxHeartbeats 0 in
theorem PySem.Challenge.cw_layerdraw_k05_lines_that_write_no_net_holds : PySem.Challenge.rw_layerdraw_k05_lines_that_write_no_net.Holds := by
 w_on;o_law;k_head;(case hw=>w_witness2)
 k_fill
 refine K05.walk (l:=PySem.Challenge.rw_layerdraw_k05_lines_that_write_no_net) (TS:=[]) rfl rfl (fun w h Y=>⟨PySem.W.kIn_of Y,fun _ hP=>nomatch hP⟩) ?F
 case F=>
  intro w mg fa h KX G hmg
  refine' K05.all_mk KX G hmg ?gl0 ?kz0 ?T ?al ?ll ?cl ?hnd
  case gl0=>k_is
  case kz0=>(refine' K05.kd4_mk ?u0 ?u2 ?u3;(case u0=>k_is);(case u2=>first|k_is|kit_is|kernel_rfl|rfl);(case u3=>decide))
  case T=>
   constructor
   any_goals dsimp only
   any_goals first|k_is|kit_is|(refine' PySem.W.mg_of KX G ?_;k_is)|(refine' PySem.W.mg_none_of KX G ?_;k_is)|(refine' L2.int_mk KX G ?_;any_goals first|k_is|kit_is|kernel_rfl|rfl)|(refine' L2.str_mk KX G ?_;any_goals first|k_is|kit_is|kernel_rfl|rfl)|(unfold L2.zbY;k_is)|(refine' K05.ziX ?u0;(case u0=>k_is))|(refine' K05.ziY ?u0;(case u0=>k_is))|(refine' K05.zgT ?u0;(case u0=>k_is))|(refine' K05.zfQ ?u0;(case u0=>k_is))|((first|refine' L2.zf8 ?u0 ?u1 ?u2 ?u3 ?u4 ?u5 .nil ?u7|refine' L2.zf8 ?u0 ?u1 ?u2 ?u3 ?u4 ?u5 L2.vals1i ?u7|refine' L2.zf8 ?u0 ?u1 ?u2 ?u3 ?u4 ?u5 L2.vals2i ?u7);(case u0=>k_is);(case u1=>first|k_is|kit_is|kernel_rfl|rfl);(case u2=>first|k_is|kit_is|kernel_rfl|rfl);(case u3=>first|k_is|kit_is|kernel_rfl|rfl);(case u4=>first|k_is|kit_is|kernel_rfl|rfl);(case u5=>first|k_is|kit_is|kernel_rfl|rfl);(case u7=>intro td s us KI hl;first|(have h9:us.length=2:=(by simpa using hl);clear hl;revert us;exact L2.len2 fun _ _=>PySem.W.binds_K KI rfl td rfl rfl rfl)|(have h9:us.length=3:=(by simpa using hl);clear hl;revert us;exact L2.len3 fun _ _ _=>PySem.W.binds_K KI rfl td rfl rfl rfl)|(have h9:us.length=4:=(by simpa using hl);clear hl;revert us;exact L2.len4 fun _ _ _ _=>PySem.W.binds_K KI rfl td rfl rfl rfl)|(have h9:us.length=5:=(by simpa using hl);clear hl;revert us;exact L2.len5 fun _ _ _ _ _=>PySem.W.binds_K KI rfl td rfl rfl rfl)))|((first|refine' L2.def_mk KX G ?_ ?_ ?_ ?_ ?_|refine' L2.met_mk ?_ ?_ ?_ ?_ ?_ ?_|refine' L2.ini_mk KX G ?_ ?_ ?_ ?_ ?_ ?_ ?_ ?_|refine' L2.zkN KX G ?_ ?_ ?_ ?_ ?_ ?_ ?_ ?_);any_goals (first|k_is|kit_is|kernel_rfl|exact L2.len1 fun _=>rfl|exact L2.len2 fun _ _=>rfl|exact L2.len3 fun _ _ _=>rfl|exact L2.len4 fun _ _ _ _=>rfl);done)|(refine' L2.lam_mk KX G ?u0 ?u1 ?u2 ?u3 ?u4 ?u5 ?u6;(case u0=>first|k_is|kit_is|kernel_rfl|rfl);(case u1=>first|k_is|kit_is|kernel_rfl|rfl);(case u2=>rfl);(case u3=>first|k_is|kit_is|kernel_rfl|rfl);(case u4=>rfl);(case u5=>first|k_is|kit_is|kernel_rfl|rfl);(case u6=>first|k_is|kit_is|kernel_rfl|rfl))|(constructor <;> first|k_is|kit_is|kernel_rfl|rfl)
   any_goals first|(refine' K05.ziX ?u0;(case u0=>k_is))|(refine' K05.ziY ?u0;(case u0=>k_is))|(refine' K05.zgT ?u0;(case u0=>k_is))|(refine' K05.zfQ ?u0;(case u0=>k_is))
  any_goals first|k_is|kit_is|exact List.mem_cons_self|(simp;done)|decide
