import PyProof.Rows.All
import Wide.All
import OpenK.AllK
import Wide.FinOn
import Lean
import PyProof.EqAt
import PyProof.EqKinds
import PyProof.TupleCall
import PyProof.NeKinds
import PySem.Challenge.RW_layerdraw_k21_two_points
set_option Elab.async false
set_option linter.all false
set_option maxRecDepth 100000
set_option genInjectivity false
set_option genSizeOf false
noncomputable section
namespace L2
theorem ex3 {α:Sort _}{a b:α→Prop}{G:Prop} (k:∀ x,a x→b x→G):(∃ x,a x∧b x)→G:=fun⟨x,h1,h2⟩=>k x h1 h2
theorem ex4 {α β:Sort _}{a b:α→β→Prop}{G:Prop} (k:∀ x y,a x y→b x y→G):(∃ x y,a x y∧b x y)→G:=fun⟨x,y,h1,h2⟩=>k x y h1 h2
theorem ex5 {α β:Sort _}{a b c:α→β→Prop}{G:Prop} (k:∀ x y,a x y→b x y→c x y→G):(∃ x y,a x y∧b x y∧c x y)→G:=fun⟨x,y,h1,h2,h3⟩=>k x y h1 h2 h3
end L2
namespace L2
open PySem PySem.Spec PyProof.Rows
theorem zey:entryFor table "proto.unchain"=some Builtin.«proto.unchain»:=entryFor_of_tree (by kernel_rfl)
def nxt (cs:List Addr) (j:Nat):Value:=match cs[j]? with|none=>Value.none|some b=>Value.ref b
def Chn (h:Heap) (cs:List Addr):Prop:=cs.Nodup∧∀ j a,cs[j]?=some a→∃ o vs,h.get? a=some o∧o.data=.fields vs∧vs[2]?=some (nxt cs (j + 1))
def Hd (A:Around) (h:Heap):Prop:=A.handled=none∨∃ a cs,A.handled=some (.ref a)∧Chn h (a::cs)
theorem Hd.keeps {A:Around}{h h':Heap} (x:Hd A h) (k:∀ b o,h.get? b=some o→h'.get? b=some o):Hd A h':=by
 rcases x with e|⟨a,cs,e,nd,c⟩
 ·exact .inl e
 ·refine .inr ⟨a,cs,e,nd,fun j b hb=>?_⟩
  obtain⟨o,vs,ho,r⟩:=c j b hb
  exact⟨o,vs,k b o ho,r⟩
theorem Hd.but {A:Around}{h h':Heap}{it:Addr}{oi:Obj} (x:Hd A h) (hit:h.get? it=some oi) (hno:∀ vs,oi.data=.fields vs→vs.size<3∨vs[2]?≠some Value.none∧∀ b,vs[2]?≠some (.ref b)) (k:∀ b o,b≠it→h.get? b=some o→h'.get? b=some o):Hd A h':=by
 rcases x with e|⟨a,cs,e,nd,c⟩
 ·exact .inl e
 ·refine .inr ⟨a,cs,e,nd,fun j b hb=>?_⟩
  obtain⟨o,vs,ho,hd,h2⟩:=c j b hb
  refine⟨o,vs,k b o (fun z=>?_) ho,hd,h2⟩
  subst z
  rw[hit] at ho
  cases ho
  rcases hno vs hd with q|⟨q1,q2⟩
  ·have:=(Array.getElem?_eq_some_iff.mp h2).1
   omega
  ·unfold nxt at h2
   cases hz:(a::cs)[j + 1]? with
   | none=>rw[hz] at h2;exact q1 h2
   | some y=>rw[hz] at h2;exact q2 y h2
section
variable {prog:Program}{w:World}{A:Around}{E:Value→Shared→Prop}{s:Shared}
theorem zgR {cs:List Addr}{e:Addr}{R:Result→Shared→Prop} (c:Chn s.heap cs) (he:e∉cs) (hR:R (.ok (.ret .none)) s):∀ (n j i:Nat) (o sl:Addr) (tg:Bool),cs.length - j=n→cs[j]?=some o→cs[i]?=some sl→i≤j →
  codeAny (model prog w) A (.builtin "proto.unchain" ⟨[.ref e,.ref o,.ref sl,.bool tg],[]⟩) R s:=by
 intro n
 induction n with
 | zero=>
  intro j i o sl tg hn hj _ _
  have:=(List.getElem?_eq_some_iff.mp hj).1
  omega
 | succ n ih=>
  intro j i o sl tg hn hj hi hij
  obtain⟨oo,vs,ho,hd,h2⟩:=c.2 j o hj
  refine codeAny_builtin zey ?_
  unfold Builtin.«proto.unchain»
  refine wpAny_bind (wpAny_field ho hd h2 ?_)
  cases hz:cs[j + 1]? with
  | none=>
   simp only[nxt,hz]
   rw[if_pos (by rfl)]
   refine wpAny_bind (wpAny_pure (wpAny_pure ?_))
   exact hR
  | some b=>
   simp only[nxt,hz]
   have hb:b∈cs:=List.mem_of_getElem? hz
   have hbe:b≠e:=fun z=>he (z ▸ hb)
   have hbs:b≠sl:=fun z=>by
    subst z
    have e1:=List.getElem?_eq_some_iff.mp hz
    have e2:=List.getElem?_eq_some_iff.mp hi
    have lt:i<j + 1:=by omega
    exact(List.pairwise_iff_getElem.mp c.1) i (j + 1) e2.1 e1.1 lt (e2.2.trans e1.2.symm)
   rw[if_neg (by simp),if_neg (by simpa using hbe),if_neg (by simpa using hbs)]
   have hi1:∃ b',cs[i + 1]?=some b':=by
    have e1:=(List.getElem?_eq_some_iff.mp hz).1
    exact⟨_,List.getElem?_eq_getElem (by omega)⟩
   obtain⟨b',hb'⟩:=hi1
   cases tg with
   | false=>
    rw[if_neg (by simp)]
    refine wpAny_bind (wpAny_pure (wpAny_pure ?_))
    exact(⟨Code.quiet_builtin _ (by decide +kernel),ih (j + 1) i b sl true (by omega) hz hi (by omega)⟩)
   | true=>
    rw[if_pos rfl]
    obtain⟨os,ws,hos,hds,hs2⟩:=c.2 i sl hi
    simp only[nxt,hb'] at hs2
    refine wpAny_bind (wpAny_field hos hds hs2 (wpAny_pure ?_))
    exact(⟨Code.quiet_builtin _ (by decide +kernel),ih (j + 1) (i + 1) b b' false (by omega) hz hb' (by omega)⟩)
theorem zgh {α:Type}{e:Addr}{oe:Obj}{vs:Array Value}{Q:α→Shared→Prop} (hd:A.handled=none∨∃ a cs,A.handled=some (.ref a)∧Chn s.heap (a::cs)∧e∉a::cs) (he:s.heap.get? e=some oe) (hf:oe.data=.fields vs) (h2:2<vs.size)
  (h:∀ h' o' vs',(∀ b o,b≠e→s.heap.get? b=some o→h'.get? b=some o)→h'.get? e=some o'→o'.cls=oe.cls→o'.dict=oe.dict→o'.data=.fields vs'→vs'.size=vs.size→vs'[1]?=vs[1]?→vs'[2]?=(match A.handled with|none=>vs[2]?|some v=>some v)→E (.ref e) { s with heap:=h' }) :
  wpAny (model prog w) A (raiseNew (.ref e):Sem α) Q E s:=by
 unfold raiseNew
 refine wpAny_bind (wpAny_handled ?_)
 rcases hd with hn|⟨a,cs,ha,c,hin⟩
 ·rw[hn]
  exact wpAny_bind (wpAny_pure (wpAny_throw (h s.heap oe vs (fun _ _ _ q=>q) he rfl rfl hf rfl rfl (by rw[hn]))))
 ·rw[ha]
  have hae:a≠e:=fun z=>hin (by simp[z])
  show wpAny _ _ (if (Value.ref a != Value.ref e)=true then _ else _) _ _ s
  rw[if_pos (by simpa using hae)]
  refine wpAny_bind (wpAny_holding (wpAny_runValue (zgR c hin ?_ _ 0 0 a a false rfl rfl rfl (Nat.le_refl _))))
  have up:=Obj.data_mapFields hf (·.setIfInBounds 2 (Value.ref a))
  refine wpAny_bind (show wpAny _ _ (setField (.ref e) 2 (.ref a)) _ _ s from wpAny_setField he hf h2 (wpAny_throw (h _ _ _ (fun b q hb hq=>(Heap.get?_update_other _ _ (Ne.symm hb)).trans hq) (Heap.get?_update_self _ he (Obj.isFreed_of_fields up)) (Obj.cls_mapFields _ _) ?_ up (by simp) ?_ ?_)))
  ·obtain⟨c1,d1,dt,sl⟩:=oe
   cases dt <;> rfl
  ·rw[Array.getElem?_setIfInBounds_ne (by decide)]
  ·rw[ha];simp[h2]
theorem Chn.lt {h:Heap}{cs:List Addr} (c:Chn h cs):∀ b∈cs,b<h.objs.size:=fun b hb=>by
 obtain⟨j,hj⟩:=List.mem_iff_getElem?.mp hb
 obtain⟨o,_,ho,_⟩:=c.2 j b hj
 exact Heap.lt_size ho
theorem Chn.mono {h h':Heap}{cs:List Addr} (c:Chn h cs) (k:∀ b o,b∈cs→h.get? b=some o→h'.get? b=some o):Chn h' cs:=⟨c.1,fun j a hj=>by
 obtain⟨o,vs,ho,r⟩:=c.2 j a hj
 exact⟨o,vs,k a o (List.mem_of_getElem? hj) ho,r⟩⟩
theorem zdh {α:Type}{Q:α→Shared→Prop} (hd:Hd A s.heap)
  (h:∀ h' e,(∀ b o,s.heap.get? b=some o→h'.get? b=some o)→(∃ o',h'.get? e=some o'∧o'.cls=.type "StopIteration")→E (.ref e) { s with heap:=h' }) :
  wpAny (model prog w) A (newExc (.type "StopIteration") [] >>= fun e=>(raiseNew e:Sem α)) Q E s:=by
 refine wpAny_bind ?_
 unfold newExc newTuple
 refine wpAny_bind (wpAny_newObj_type ?_ (by size_fits))
 refine wpAny_bind (m:=firstArgMember _ _) (wpAny_of_eq (a:=Value.none) (by first|rfl|(simp only[firstArgMember];rfl)) (wpAny_newObj_type ?_ (by size_fits)))
 refine zgh ?_ (Heap.get?_push_size _ rfl) rfl (by simp;omega) fun h' o' vs' k' e' c' _ _ _ _ _=>
  h h' _ (fun b o q=>k' b o (Nat.ne_of_lt (by rw[Heap.size_push];exact Nat.lt_succ_of_lt (Heap.lt_size q))) (Heap.get?_push_of_some _ (Heap.get?_push_of_some _ q))) ⟨o',e',c'⟩
 rcases hd with hn|⟨a,cs,ha,c⟩
 ·exact .inl hn
 ·refine .inr ⟨a,cs,ha,c.mono fun b o _ q=>Heap.get?_push_of_some _ (Heap.get?_push_of_some _ q),fun z=>?_⟩
  have:=c.lt _ z
  rw[Heap.size_push] at this
  exact absurd (Nat.lt_of_lt_of_le this (Nat.le_succ _)) (Nat.lt_irrefl _)
theorem zfb {it l:Addr}{i:Nat} {items}{Q:Option Value→Shared→Prop} (hd:Hd A s.heap) (hit:s.heap.IsListIter it l i) (hl:s.heap.IsList l items) (hx:items[i]?=none)
  (hQ:∀ h',Heap.ExtBut it s.heap h'→Q none { s with heap:=h' }):wpAny (model prog w) A (pyNext (.ref it)) Q E s:=by
 obtain⟨o,ho,hc,hdat⟩:=id hit
 obtain⟨ol,hol,_,nl,hdl⟩:=hl
 unfold pyNext
 refine wpAny_bind (wpAny_attempt (wpAny_callSpecial?_slot (name:=Str.ofString "__next__") hit.typeIs slot_listiter_next (wpAny_call_entry slot_listiter_next hit.typeIs entry_listiter_next ?_ (args_listiter_next _))))
 refine(show wpAny _ _ (field (.ref it) 0 >>= _) _ _ s from wpAny_bind (wpAny_field ho hdat (x:=.ref l) rfl ?_))
 refine(show wpAny _ _ (if (Value.ref l == Value.none)=true then _ else _) _ _ s from ?_)
 rw[if_neg (by simp)]
 refine(show wpAny _ _ (field (.ref it) 1 >>= _) _ _ s from wpAny_bind (wpAny_field ho hdat (x:=.int i 0) rfl ?_))
 refine(show wpAny _ _ (seqItems? (.ref l) >>= _) _ _ s from wpAny_bind (wpAny_seqItems hol hdl ?_))
 simp only[Int.toNat_natCast,hx]
 refine wpAny_bind (wpAny_rule (wpAny_bind (wpAny_setField ho hdat (by simp) ?_)))
 have sb:Heap.SameBut it s.heap (s.heap.update it (Obj.mapFields (·.setIfInBounds 0 Value.none))):=Heap.SameBut.update ..
 refine zdh (A:=A.in1) (hd.but ho (fun vs q=>.inl (by rw[hdat] at q;cases q;simp)) sb.extBut) fun h' e k' ⟨o',e',c'⟩=>?_
 exact wpAny_bind (wpAny_isInstance (T:="StopIteration") (b:=true) ⟨o',e',c'⟩ isSubtype_stop (wpAny_pure (hQ h' fun b q hb hq=>k' b q (sb.extBut b q hb hq))))
theorem zgi {it t:Addr}{i:Nat} {items}{Q:Option Value→Shared→Prop} (hd:Hd A s.heap) (hit:s.heap.IsTupleIter it t i) (ht:s.heap.IsTuple t items) (hx:items[i]?=none)
  (hQ:∀ h',Heap.ExtBut it s.heap h'→Q none { s with heap:=h' }):wpAny (model prog w) A (pyNext (.ref it)) Q E s:=by
 obtain⟨o,ho,hc,hdat⟩:=id hit
 obtain⟨ol,hol,_,nl,hdl⟩:=ht
 unfold pyNext
 refine wpAny_bind (wpAny_attempt (wpAny_callSpecial?_slot (name:=Str.ofString "__next__") hit.typeIs F.slot_tuple_iterator_next (wpAny_call_entry F.slot_tuple_iterator_next hit.typeIs F.entry_tuple_iterator_next ?_ (F.args_tuple_iterator_next_1 _))))
 refine(show wpAny _ _ (field (.ref it) 0 >>= _) _ _ s from wpAny_bind (wpAny_field ho hdat (x:=.ref t) rfl ?_))
 refine(show wpAny _ _ (if (Value.ref t == Value.none)=true then _ else _) _ _ s from ?_)
 rw[if_neg (by simp)]
 refine(show wpAny _ _ (field (.ref it) 1 >>= _) _ _ s from wpAny_bind (wpAny_field ho hdat (x:=.int i 0) rfl ?_))
 refine(show wpAny _ _ (seqItems? (.ref t) >>= _) _ _ s from wpAny_bind (wpAny_seqItems hol hdl ?_))
 simp only[Int.toNat_natCast,hx]
 refine wpAny_bind (wpAny_rule (wpAny_bind (wpAny_setField ho hdat (by simp) ?_)))
 have sb:Heap.SameBut it s.heap (s.heap.update it (Obj.mapFields (·.setIfInBounds 0 Value.none))):=Heap.SameBut.update ..
 refine zdh (A:=A.in1) (hd.but ho (fun vs q=>.inl (by rw[hdat] at q;cases q;simp)) sb.extBut) fun h' e k' ⟨o',e',c'⟩=>?_
 exact wpAny_bind (wpAny_isInstance (T:="StopIteration") (b:=true) ⟨o',e',c'⟩ isSubtype_stop (wpAny_pure (hQ h' fun b q hb hq=>k' b q (sb.extBut b q hb hq))))
theorem zeb {it:Addr}{x left step:Int}{Q:Option Value→Shared→Prop} (hd:Hd A s.heap) (hit:IsRangeIter s.heap it x left step) (hleft:left≤0)
  (hQ:∀ h',Heap.ExtBut it s.heap h'→Q none { s with heap:=h' }):wpAny (model prog w) A (pyNext (.ref it)) Q E s:=by
 have hT:s.TypeIs (.ref it) "range_iterator":=⟨_,hit,rfl⟩
 unfold pyNext
 refine wpAny_bind (wpAny_attempt (wpAny_callSpecial?_slot (name:=Str.ofString "__next__") hT F.slot_range_iterator_next (wpAny_call_entry F.slot_range_iterator_next hT F.entry_range_iterator_next ?_ (F.args_range_iterator_next_1 _))))
 refine(show wpAny _ _ (field (.ref it) 0 >>= _) _ _ s from wpAny_bind (wpAny_field hit rfl (x:=rawInt x) rfl ?_))
 refine(show wpAny _ _ (field (.ref it) 1 >>= _) _ _ s from wpAny_bind (wpAny_field hit rfl (x:=rawInt left) rfl ?_))
 refine(show wpAny _ _ (field (.ref it) 2 >>= _) _ _ s from wpAny_bind (wpAny_field hit rfl (x:=rawInt step) rfl ?_))
 refine(show wpAny _ _ (if left≤0 then _ else _) _ _ s from ?_)
 rw[if_pos hleft]
 refine wpAny_bind (wpAny_rule (wpAny_bind ?_))
 refine zdh (A:=A.in1) hd fun h' e k' ⟨o',e',c'⟩=>?_
 exact wpAny_bind (wpAny_isInstance (T:="StopIteration") (b:=true) ⟨o',e',c'⟩ isSubtype_stop (wpAny_pure (hQ h' fun b q _ hq=>k' b q hq)))
theorem zkq {t:Addr}{items:Array Value}{Q:List Value→Shared→Prop} (hd:Hd A s.heap) (ht:IsTup s.heap t items)
  (hQ:∀ h',Heap.ExtBut s.heap.objs.size s.heap h'→Q items.toList { s with heap:=h' }):wpAny (model prog w) A (unpackItems (.ref t) items.size none) Q E s:=by
 have hlt:t≠s.heap.objs.size:=by obtain⟨o,ho,_⟩:=ht;exact Nat.ne_of_lt (Heap.lt_size ho)
 unfold unpackItems
 refine wpAny_bind ?_
 unfold notIterableAtAll
 refine wpAny_bind (wpAny_specialOf ht.typeIs slot_tuple_iter.lookup (wpAny_pure ?_))
 simp only[Bool.false_eq_true,if_false]
 refine wpAny_bind (wpAny_holding (iter_tuple ht (wpAny_bind (wpAny_holding (draw_tuple hlt items.size 0 _ _ ⟨_,Heap.get?_push_size _ rfl,rfl,rfl⟩ (ht.push _) (by omega) fun h₁ hit₁ hs₁=>?_)))))
 rw[show List.take items.size (List.drop 0 items.toList)=items.toList by rw[List.drop_zero];exact List.take_of_length_le (by simp)]
 rw[if_neg (by simp)]
 have ht₁:IsTup h₁ t items:=(ht.push _).extBut hs₁.extBut hlt
 have k₁:∀ b o,s.heap.get? b=some o→h₁.get? b=some o:=fun b o e=>hs₁.extBut b o (Nat.ne_of_lt (Heap.lt_size e)) (Heap.get?_push_of_some _ e)
 refine wpAny_bind (wpAny_holding (zgi (hd.keeps k₁) hit₁ (show Heap.IsTuple h₁ t items from ht₁) (by simp) fun h₂ he₂=>?_))
 simp only[Option.isSome_none,Bool.false_eq_true,if_false]
 exact wpAny_pure (hQ h₂ fun b o hb e=>he₂ b o hb (k₁ b o e))
theorem zfX {env:Env}{elts:List Expr} {x1}{pos:Pos}{t:Addr}{items:Array Value}{Q:Unit→Shared→Prop} (hd:Hd A s.heap) (ht:IsTup s.heap t items) (hn:(assignEach elts env).length=items.size) (hstar:(assignEach elts env).findIdx? (·.1)=none)
  (h:∀ h',Heap.ExtBut s.heap.objs.size s.heap h'→wpAny (model prog w) A (assignInOrder ((assignEach elts env).map (·.2)) items.toList) Q E { s with heap:=h' }):wpAny (model prog w) A (assign (.Tuple elts x1 pos) env (.ref t)) Q E s:=by
 rw[assign_Tuple]
 refine wpAny_bind (wpAny_standAt ?_)
 unfold unpack
 rw[hn,hstar]
 exact wpAny_bind (wpAny_holding (zkq hd ht h))
end
end L2
namespace L2
open PySem PySem.Spec PyProof.Rows
abbrev Key:=Sum Int Str
def zfY:Key→Value→Bool
 | .inl k,v=>Value.isInt k v
 | .inr x,v=>Value.isStrOf x v
def keyH (w:World):Key→Int
 | .inl k=>hashInt k
 | .inr x=>hashStr w x
theorem zaV:∀ {k:Key}{v:Value},zfY k v=true→(∃ i t,k=Sum.inl i∧v=Value.int i t)∨(∃ x t,k=Sum.inr x∧v=Value.str x t)
 | .inl i,v,h=>by
  obtain⟨t,e⟩:=Value.isInt_shape (k:=i) (v:=v) h
  exact .inl ⟨i,t,rfl,e⟩
 | .inr x,v,h=>by
  obtain⟨t,e⟩:=Value.isStrOf_shape (x:=x) (v:=v) h
  exact .inr ⟨x,t,rfl,e⟩
theorem zhl (i:Int) (t:Tok):zfY (.inl i) (.int i t)=true:=by simp[zfY,Value.isInt]
theorem zhm (x:Str) (t:Tok):zfY (.inr x) (.str x t)=true:=by simp[zfY,Value.isStrOf]
theorem key_ll (a b:Int):decide ((Sum.inl a:Key)=Sum.inl b)=(a == b):=by
 by_cases e:a=b
 ·subst e;simp
 ·have h:¬ (Sum.inl a:Key)=Sum.inl b:=fun q=>e (Sum.inl.inj q)
  rw[decide_eq_false h]
  exact(beq_eq_false_iff_ne.mpr e).symm
theorem key_rr (a b:Str):decide ((Sum.inr a:Key)=Sum.inr b)=decide (a=b):=by
 by_cases e:a=b
 ·subst e;simp
 ·have h:¬ (Sum.inr a:Key)=Sum.inr b:=fun q=>e (Sum.inr.inj q)
  rw[decide_eq_false h,decide_eq_false e]
theorem key_lr (a:Int) (b:Str):decide ((Sum.inl a:Key)=Sum.inr b)=false:=decide_eq_false (fun q=>nomatch q)
theorem key_rl (a:Str) (b:Int):decide ((Sum.inr a:Key)=Sum.inl b)=false:=decide_eq_false (fun q=>nomatch q)
def zaM (prog:Program) (w:World):PySem.KeyKind prog w Key where
 is:=zfY
 hash:=keyH w
 inj:=fun v a b ha hb=>by
  rcases zaV ha with⟨i,t,rfl,rfl⟩|⟨x,t,rfl,rfl⟩
  ·rcases zaV hb with⟨j,u,rfl,e⟩|⟨y,u,rfl,e⟩
   ·injection e with e1 _;rw[e1]
   ·exact nomatch e
  ·rcases zaV hb with⟨j,u,rfl,e⟩|⟨y,u,rfl,e⟩
   ·exact nomatch e
   ·injection e with e1 _;rw[e1]
 byValue:=fun k v h=>by
  rcases zaV h with⟨i,t,rfl,rfl⟩|⟨x,t,rfl,rfl⟩ <;> rfl
 pyHash:=fun hv h=>by
  rcases zaV hv with⟨i,t,rfl,rfl⟩|⟨x,t,rfl,rfl⟩
  ·exact wpAny_pyHash_int h
  ·exact wpAny_pyHash_str h
 eqBool:=fun hu hv h=>by
  rcases zaV hu with⟨i,t,rfl,rfl⟩|⟨x,t,rfl,rfl⟩
  ·rcases zaV hv with⟨j,u,rfl,rfl⟩|⟨y,u,rfl,rfl⟩
   ·rw[key_ll] at h;exact wpAny_eqBool_int h
   ·rw[key_lr] at h;exact SeqAt.EqAt.int_str i t y u _ _ _ _ h
  ·rcases zaV hv with⟨j,u,rfl,rfl⟩|⟨y,u,rfl,rfl⟩
   ·rw[key_rl] at h;exact SeqAt.EqAt.str_int x t j u _ _ _ _ h
   ·rw[key_rr] at h;exact wpAny_eqBool_str h
 «strs»:=fun k x t v h=>by
  rcases zaV h with⟨i,u,rfl,e⟩|⟨y,u,rfl,e⟩
  ·exact nomatch e
  ·injection e with e1 _
   subst e1
   cases v <;> rfl
theorem zfZ (prog:Program) (w:World) (i:Int) (t:Tok):(zaM prog w).is (.inl i) (.int i t)=true:=zhl i t
theorem zf0 (prog:Program) (w:World) (x:Str) (t:Tok):(zaM prog w).is (.inr x) (.str x t)=true:=zhm x t
end L2
namespace L2
open PySem PySem.Spec PyProof.Rows
set_option genInjectivity true
inductive V where
 | non | bl (b:Bool) | int (i:Int) | str (x:Str) | byt (b:Array UInt8) | flt (b:UInt64) | ref (a:Addr) | ty (n:String)
 deriving DecidableEq
set_option genInjectivity false
def zaQ:V→Value→Prop
 | .non,u=>u=Value.none
 | .bl b,u=>u=Value.bool b
 | .int i,u=>∃ t,u=Value.int i t
 | .str x,u=>∃ t,u=Value.str x t
 | .byt b,u=>∃ t,u=Value.bytes b t
 | .flt b,u=>∃ t,u=Value.float b t
 | .ref a,u=>u=Value.ref a
 | .ty n,u=>u=Value.type n
abbrev zaX:List V→List Value→Prop:=Paired zaQ
theorem zaX.length {xs:List V}{us:List Value} (r:zaX xs us):xs.length=us.length:=Paired.length r
theorem zaX.get:∀ {xs:List V}{us:List Value}{i:Nat}{x:V},zaX xs us→xs[i]?=some x→∃ u,us[i]?=some u∧zaQ x u
 | _,_,_,_,.nil,e=>by simp at e
 | _,_,0,_,.cons r _,e=>by simp at e;subst e;exact⟨_,rfl,r⟩
 | _,_,i + 1,x,.cons _ t,e=>by
  obtain⟨u,h1,h2⟩:=zaX.get (i:=i) (x:=x) t (by simpa using e)
  exact⟨u,by simpa using h1,h2⟩
theorem zaX.set {x:V}{u:Value} (r:zaQ x u):∀ {xs:List V}{us:List Value} (i:Nat),zaX xs us→zaX (xs.set i x) (us.set i u)
 | _,_,_,.nil=>.nil
 | _,_,0,.cons _ t=>.cons r t
 | _,_,i + 1,.cons q t=>.cons q (zaX.set r i t)
theorem zaX.append:∀ {xs ys:List V}{us ws:List Value},zaX xs us→zaX ys ws→zaX (xs++ys) (us++ws)
 | _,_,_,_,.nil,s=>s
 | _,_,_,_,.cons r t,s=>.cons r (zaX.append t s)
theorem zaX.take:∀ {xs:List V}{us:List Value} (n:Nat),zaX xs us→zaX (xs.take n) (us.take n)
 | _,_,0,_=>.nil
 | _,_,_ + 1,.nil=>.nil
 | _,_,n + 1,.cons r t=>.cons r (zaX.take n t)
theorem zaX.drop:∀ {xs:List V}{us:List Value} (n:Nat),zaX xs us→zaX (xs.drop n) (us.drop n)
 | _,_,0,r=>r
 | _,_,_ + 1,.nil=>.nil
 | _,_,n + 1,.cons _ t=>zaX.drop n t
def zec:Option V→Option Value→Prop
 | some v,some u=>zaQ v u
 | none,none=>True
 | _,_=>False
def KV {κ:Type}:List (κ×V)→List (κ×Value)→Prop:=Paired fun(p:κ×V) (q:κ×Value)=>p.1=q.1∧zaQ p.2 q.2
def kV:Key→V
 | .inl i=>.int i
 | .inr x=>.str x
inductive HO where
 | lst (xs:List V)
 | tup (xs:List V)
 | dK (kvs:List (Key×V)) | dT (kvs:List (List Key×V))
 | set (S:Int→Bool) (n:Nat)
 | ins (C dx:Addr) (fs:List (Str×V))
 | own (x:Addr)
 | xd (fs:List (Str×V))
 | met (f x:Addr)
 | rng (lo hi:Int)
 | frz (o:Obj) (u:HO)
 | tbl (pos:Pos) (qual:Str)
 | ext (φ:Heap→Prop)
abbrev Hp:=Addr→Option HO
def upd (H:Hp) (a:Addr) (o:HO):Hp:=fun b=>if b=a then some o else H b
theorem zaa {H:Hp}{a:Addr}{o:HO}:upd H a o a=some o:=by unfold upd;rw[if_pos rfl]
theorem zag {H:Hp}{a b:Addr}{o:HO} (h:b≠a):upd H a o b=H b:=by unfold upd;rw[if_neg h]
theorem zgS {H:Hp}{a b:Addr}{o u:HO} (h:H a=some o) (h':H b=some u) (d:o≠u):a≠b:=by
 intro e;subst e;rw[h] at h';exact d (Option.some.inj h')
theorem zac {H:Hp}{a b:Addr}{o:HO} (h:H a=some o) (h':H b=none):a≠b:=by
 intro e;subst e;rw[h] at h';cases h'
section
variable (P:Program) (w:World)
def zbt (H:Hp) (h:Heap) (a:Addr):HO→Prop
 | .lst xs=>xs.length≤sizeLine∧∃ (its:List Value) (n:Nat),zaX xs its∧h.get? a=some { cls:=.type "list",data:=.seq its.toArray n }
 | .tup xs=>xs.length≤sizeLine∧∃ its:List Value,zaX xs its∧IsTup h a its.toArray
 | .dK kvs=>kvs.length≤sizeLine∧(a == sysModules)=false∧∃ vs,KV kvs vs∧h.DictOf (zaM P w) a vs
 | .dT kvs=>kvs.length≤sizeLine∧(a == sysModules)=false∧∃ xs:List (List Key×Addr×Value),
   Paired (fun(p:List Key×V) (q:List Key×Addr×Value)=>p.1=q.1∧H q.2.1=some (.tup (p.1.map kV))∧zaQ p.2 q.2.2) kvs xs ∧
   ∃ o es ep,h.get? a=some o∧o.ExactDict∧o.data=.dict es ep∧es.toList=xs.map (entryOfKey (tupleKind (zaM P w)))∧(xs.map (·.1)).Nodup
 | .set S n=>h.SetOf (intKind P w) a S n
 | .ins C dx fs=>H dx=some (.own a)∧fs.length≤1000∧dx≠a∧h.get? a=some (PySem.W.instObj C dx) ∧
   ∃ mA,h.Ns1 dx mA∧(∀ f,zec (fs.lookup f) (mA f))∧PySem.Within mA (fs.map (·.1))
 | .own _=>∃ o,h.get? a=some o
 | .xd fs=>∃ mA,h.Ns1 a mA∧∀ f,zec (fs.lookup f) (mA f)
 | .rng lo hi=>∃ t u v,h.get? a=some { cls:=.type "range",data:=.fields #[.int lo t,.int hi u,.int 1 v] }
 | .frz o u=>h.get? a=some o∧zbt H h a u
 | .tbl pos qual=>h.get? a=some { cls:=.none,data:=.fields #[] }∨∃ c oc vs t,H c=some (.frz oc (.own a))∧oc.data=.fields vs∧vs[1]?=some (.str qual t)∧h.get? a=some { cls:=.none,data:=.fields #[rawInt pos.line,rawInt pos.col,.ref c] }
 | .met f x=>h.get? a=some (PySem.W.methodObj (.ref f) (.ref x))
 | .ext φ=>φ h∧(∃ o,h.get? a=some o)∧∀ h1 h2:Heap,φ h1→(∀ o,h1.get? a=some o→h2.get? a=some o)→φ h2
def HOk (H:Hp) (h:Heap):Prop:=∀ a o,H a=some o→zbt P w H h a o
end
section
variable {P:Program}{w:World}{H H':Hp}{h h':Heap}{a:Addr}{o:HO}
theorem zbt.lt (x:zbt P w H h a o):a<h.objs.size:=by
 cases o with
 | lst xs=>obtain⟨_,_,_,_,e⟩:=x;exact Heap.lt_size e
 | tup xs=>obtain⟨_,_,_,p⟩:=x;exact p.lt
 | dK kvs=>obtain⟨_,_,_,_,o,_,_,e,_⟩:=x;exact Heap.lt_size e
 | dT kvs=>obtain⟨_,_,_,_,o,_,_,e,_⟩:=x;exact Heap.lt_size e
 | set S n=>obtain⟨o,_,_,_,e,_⟩:=x;exact Heap.lt_size e
 | ins C dx fs=>obtain⟨_,_,_,e,_⟩:=x;exact Heap.lt_size e
 | own y=>obtain⟨_,e⟩:=x;exact Heap.lt_size e
 | xd fs=>obtain⟨_,⟨_,_,_,e,_⟩,_⟩:=x;exact Heap.lt_size e
 | rng lo hi=>obtain⟨_,_,_,e⟩:=x;exact Heap.lt_size e
 | frz ob u=>obtain⟨e,_⟩:=x;exact Heap.lt_size e
 | tbl pos qual=>
  rcases x with e|⟨_,_,_,_,_,_,_,e⟩
  ·exact Heap.lt_size e
  ·exact Heap.lt_size e
 | met f y=>exact Heap.lt_size (show h.get? a=some _ from x)
 | ext φ=>obtain⟨_,⟨_,e⟩,_⟩:=x;exact Heap.lt_size e
theorem Paired.mapP {α β:Type}{F G:α→β→Prop}:∀ {l₁:List α}{l₂:List β},Paired F l₁ l₂→(∀ a b,F a b→G a b)→Paired G l₁ l₂
 | _,_,.nil,_=>.nil
 | _,_,.cons r t,f=>.cons (f _ _ r) (Paired.mapP t f)
theorem zbt.stay (x:zbt P w H h a o) (k:∀ b u,(b=a∨H b=some (.own a))→h.get? b=some u→h'.get? b=some u)
  (ho:∀ b,H b=some (.own a)→H' b=some (.own a)) (ht:∀ b xs,H b=some (.tup xs)→H' b=some (.tup xs)) (hf:∀ b ob,H b=some (.frz ob (.own a))→H' b=some (.frz ob (.own a)):=by exact fun _ _ q=>q):zbt P w H' h' a o:=by
 induction o with
 | lst xs=>obtain⟨z,its,n,r,e⟩:=x;exact⟨z,its,n,r,k _ _ (.inl rfl) e⟩
 | tup xs=>obtain⟨z,its,r,ob,e,c⟩:=x;exact⟨z,its,r,ob,k _ _ (.inl rfl) e,c⟩
 | dK kvs=>obtain⟨z,y,vs,r,ob,es,ep,e,c⟩:=x;exact⟨z,y,vs,r,ob,es,ep,k _ _ (.inl rfl) e,c⟩
 | dT kvs=>
  obtain⟨z,y,xs,r,ob,es,ep,e,c⟩:=x
  exact⟨z,y,xs,Paired.mapP r fun p q z=>⟨z.1,ht _ _ z.2.1,z.2.2⟩,ob,es,ep,k _ _ (.inl rfl) e,c⟩
 | set S n=>obtain⟨ob,es,ep,t,e,c⟩:=x;exact⟨ob,es,ep,t,k _ _ (.inl rfl) e,c⟩
 | ins C dx fs=>
  obtain⟨d,z,ne,e,mA,⟨od,es,ep,e2,c⟩,r⟩:=x
  exact⟨ho _ d,z,ne,k _ _ (.inl rfl) e,mA,⟨od,es,ep,k _ _ (.inr d) e2,c⟩,r⟩
 | own y=>obtain⟨ob,e⟩:=x;exact⟨ob,k _ _ (.inl rfl) e⟩
 | xd fs=>obtain⟨mA,⟨od,es,ep,e,c⟩,r⟩:=x;exact⟨mA,⟨od,es,ep,k _ _ (.inl rfl) e,c⟩,r⟩
 | rng lo hi=>obtain⟨t,u,v,e⟩:=x;exact⟨t,u,v,k _ _ (.inl rfl) e⟩
 | frz ob u ih=>obtain⟨e,q⟩:=x;exact⟨k _ _ (.inl rfl) e,ih q⟩
 | tbl pos qual=>
  rcases x with e|⟨c,oc,vs,t,e1,e2,e3,e⟩
  ·exact .inl (k a _ (.inl rfl) e)
  ·exact .inr ⟨c,oc,vs,t,hf c oc e1,e2,e3,k a _ (.inl rfl) e⟩
 | met f y=>
  have e:h.get? a=some (PySem.W.methodObj (.ref f) (.ref y)):=x
  show h'.get? a=some (PySem.W.methodObj (.ref f) (.ref y))
  exact k a _ (.inl rfl) e
 | ext φ=>obtain⟨p,⟨o,e⟩,st⟩:=x;exact⟨st _ _ p fun o q=>k _ _ (.inl rfl) q,⟨o,k _ _ (.inl rfl) e⟩,st⟩
theorem HOk.lt (x:HOk P w H h) (e:H a=some o):a<h.objs.size:=(x a o e).lt
theorem HOk.fresh (x:HOk P w H h) (e:h.objs.size≤a):H a=none:=by
 cases q:H a with
 | none=>rfl
 | some u=>exact absurd (Nat.lt_of_lt_of_le (x.lt q) e) (Nat.lt_irrefl _)
theorem HOk.kept (x:HOk P w H h) (k:∀ b u,h.get? b=some u→h'.get? b=some u):HOk P w H h':=fun a o e=>
 (x a o e).stay (fun b u _ q=>k b u q) (fun _ q=>q) fun _ _ q=>q
theorem HOk.laid (x:HOk P w H h) (k:∀ b u,h.get? b=some u→h'.get? b=some u) (hp:h.objs.size≤a) (new:zbt P w (upd H a o) h' a o):HOk P w (upd H a o) h':=fun b u e=>by
 have hn:=x.fresh hp
 by_cases hb:b=a
 ·subst hb;rw[zaa] at e;cases e;exact new
 ·rw[zag hb] at e
  exact(x b u e).stay (fun c v _ q=>k c v q) (fun c q=>by rw[zag (zac q hn)];exact q) (fun c xs q=>by rw[zag (zac q hn)];exact q) fun c ob q=>by rw[zag (zac q hn)];exact q
end
def Rd (H:Hp) (a:Addr) (u:HO):Prop:=H a=some u∨∃ o,H a=some (.frz o u)
theorem Rd.ok {P:Program}{w:World}{H:Hp}{h:Heap}{a:Addr}{u:HO} (r:Rd H a u) (x:HOk P w H h):zbt P w H h a u:=by
 rcases r with r|⟨o,r⟩
 ·exact x a u r
 ·obtain⟨_,q⟩:=x a _ r
  exact q
def Mut:Option HO→Prop
 | some (.lst _)=>True
 | some (.dK _)=>True
 | some (.dT _)=>True
 | some (.set _ _)=>True
 | some (.ins _ _ _)=>True
 | some (.ext _)=>True
 | _=>False
section
variable {P:Program}{w:World}{H:Hp}{h h':Heap}{x e:Addr}{o':HO}
theorem HOk.write (ok:HOk P w H h) (mu:Mut (H x)) (he:e=x∨H e=some (.own x)) (k:∀ b u,b≠e→h.get? b=some u→h'.get? b=some u) (heo:∃ u,h'.get? e=some u)
  (new:zbt P w (upd H x o') h' x o'):HOk P w (upd H x o') h':=fun b u q=>by
 have nown:∀ c y,H c=some (.own y)→c≠x:=fun c y r z=>by subst z;rw[r] at mu;exact mu
 have ntup:∀ c xs,H c=some (.tup xs)→c≠x:=fun c xs r z=>by subst z;rw[r] at mu;exact mu
 by_cases hb:b=x
 ·subst hb;rw[zaa] at q;cases q;exact new
 ·rw[zag hb] at q
  by_cases hbe:b=e
  ·have q':H b=some (.own x):=by
    rcases he with z|z
    ·exact absurd (hbe.trans z) hb
    ·rw[hbe];exact z
   rw[q] at q';cases q'
   obtain⟨v,hv⟩:=heo
   exact⟨v,by rw[hbe];exact hv⟩
  ·refine(ok b u q).stay (fun c v hc r=>k c v ?_ r) (fun c r=>by rw[zag (nown c b r)];exact r) (fun c xs r=>by rw[zag (ntup c xs r)];exact r) fun c ob r=>by rw[zag (fun z=>by subst z;rw[r] at mu;exact mu)];exact r
   rcases hc with rfl|hc
   ·exact hbe
   ·rintro rfl
    rcases he with z|z
    ·exact nown c b hc z
    ·rw[hc] at z;cases z;exact hb rfl
end
structure Un (fs ex:List Addr) (H H':Hp) (h h':Heap):Prop where
 keep:∀ b o,h.get? b=some o→H b=none→b∉fs→b∉ex→h'.get? b=some o
 slot:∀ b o,h.get? b=some o→H b=none→b∈fs→b∉ex→∃ sl,h'.get? b=some { o with slots:=sl }
 free:∀ b o,h.get? b=some o→H b=none→b∉ex→H' b=none
 there:∀ b o,h.get? b=some o→b∉ex→∃ o',h'.get? b=some o'
 tups:∀ b xs,H b=some (.tup xs)→H' b=some (.tup xs)
 frzs:∀ b o u,H b=some (.frz o u)→H' b=some (.frz o u)
 tbls:∀ b p q,H b=some (.tbl p q)→H' b=some (.tbl p q)
section
variable {fs fs' ex ex':List Addr}{H H1 H2:Hp}{h h1 h2 h':Heap}{a x e:Addr}{o:HO}
theorem Un.any (u:Un fs ex H H1 h h1){b:Addr}{ob:Obj} (q:h.get? b=some ob) (n:H b=none) (hx:b∉ex):∃ sl,h1.get? b=some { ob with slots:=sl }:=by
 by_cases hb:b∈fs
 ·exact u.slot b ob q n hb hx
 ·exact⟨ob.slots,u.keep b ob q n hb hx⟩
theorem Un.trans (a:Un fs ex H H1 h h1) (b:Un fs ex H1 H2 h1 h2):Un fs ex H H2 h h2 where
 keep:=fun c ob q n hc hx=>b.keep c ob (a.keep c ob q n hc hx) (a.free c ob q n hx) hc hx
 slot:=fun c ob q n hc hx=>by
  obtain⟨sl,e1⟩:=a.slot c ob q n hc hx
  obtain⟨sl',e2⟩:=b.slot c _ e1 (a.free c ob q n hx) hc hx
  exact⟨sl',e2⟩
 free:=fun c ob q n hx=>by
  obtain⟨o',e1⟩:=a.there c ob q hx
  exact b.free c o' e1 (a.free c ob q n hx) hx
 there:=fun c ob q hx=>by
  obtain⟨o',e1⟩:=a.there c ob q hx
  exact b.there c o' e1 hx
 tups:=fun c xs q=>b.tups c xs (a.tups c xs q)
 frzs:=fun c ob xs q=>b.frzs c ob xs (a.frzs c ob xs q)
 tbls:=fun c p q z=>b.tbls c p q (a.tbls c p q z)
theorem Un.kept (k:∀ b u,h.get? b=some u→h'.get? b=some u):Un fs ex H H h h':=
 ⟨fun b ob q _ _ _=>k b ob q,fun b ob q _ _ _=>⟨ob.slots,k b ob q⟩,fun _ _ _ n _=>n,fun b ob q _=>⟨ob,k b ob q⟩,fun _ _ q=>q,fun _ _ _ q=>q,fun _ _ _ q=>q⟩
theorem Un.refl:Un fs ex H H h h:=Un.kept fun _ _ q=>q
theorem Un.laid (k:∀ b u,h.get? b=some u→h'.get? b=some u) (hp:h.objs.size≤a) (hn:H a=none):Un fs ex H (upd H a o) h h' where
 keep:=fun b u q _ _ _=>k b u q
 slot:=fun b u q _ _ _=>⟨u.slots,k b u q⟩
 free:=fun b u q n _=>by rw[zag (Nat.ne_of_lt (Nat.lt_of_lt_of_le (Heap.lt_size q) hp))];exact n
 there:=fun b u q _=>⟨u,k b u q⟩
 tups:=fun b xs q=>by rw[zag (zac q hn)];exact q
 frzs:=fun b u xs q=>by rw[zag (zac q hn)];exact q
 tbls:=fun b p r q=>by rw[zag (zac q hn)];exact q
theorem Un.write (mu:Mut (H x)) (he:e=x∨H e=some (.own x)) (k:∀ b u,b≠e→h.get? b=some u→h'.get? b=some u) (heo:∃ u,h'.get? e=some u):Un fs ex H (upd H x o) h h':=by
 have hx:∀ b,H b=none→b≠x:=fun b n z=>by subst z;rw[n] at mu;exact mu
 have hb:∀ b,H b=none→b≠e:=fun b n z=>by
  subst z
  rcases he with r|r
  ·exact hx b n r
  ·rw[n] at r;cases r
 have hm:∀ b u,H b=some u→¬ Mut (some u)→b≠x:=fun b u q nm z=>by subst z;rw[q] at mu;exact nm mu
 refine⟨fun b u q n _ _=>k b u (hb b n) q,fun b u q n _ _=>⟨u.slots,k b u (hb b n) q⟩,fun b u q n _=>by rw[zag (hx b n)];exact n,fun b u q _=>?_,
  fun b xs q=>by rw[zag (hm b _ q fun z=>z)];exact q,fun b u xs q=>by rw[zag (hm b _ q fun z=>z)];exact q,fun b p r q=>by rw[zag (hm b _ q fun z=>z)];exact q⟩
 by_cases hbe:b=e
 ·subst hbe;exact heo
 ·exact⟨u,k b u hbe q⟩
end
def trk (h:Heap) (H:Hp):List Addr:=(List.range h.objs.size).filter fun a=>(H a).isSome
def zjS (h:Heap) (H:Hp):Heap:=PySem.W.hideAll h (trk h H)
theorem zhn (h:Heap) (H:Hp):(zjS h H).objs.size=h.objs.size:=PySem.W.hideAll_size _ _
theorem zez {h:Heap}{H:Hp}{b:Addr}{o:Obj} (e:h.get? b=some o) (n:H b=none):(zjS h H).get? b=some o:=
 PySem.W.hideAll_get _ e fun hm=>by
  have q:(H b).isSome=true:=(List.mem_filter.mp hm).2
  rw[n] at q;simp at q
theorem zkr {h:Heap}{H:Hp}{b:Addr}{o:Obj} (e:(zjS h H).get? b=some o):h.get? b=some o∧H b=none:=by
 have e':h.get? b=some o:=PySem.W.of_hideAll (trk h H) e
 refine⟨e',?_⟩
 cases q:H b with
 | none=>rfl
 | some x=>
  have hm:b∈trk h H:=List.mem_filter.mpr ⟨List.mem_range.mpr (Heap.lt_size e'),by simp[q]⟩
  have z:(zjS h H).get? b=none:=PySem.W.hideAll_none (trk h H) hm
  rw[z] at e;cases e
def zks (g h:Heap) (L:Addr):List (Addr×Obj):=(List.range h.objs.size).filterMap fun a=>if a=L∨(g.get? a).isSome=true then none else(h.get? a).map fun o=>(a,o)
def zbe (g h:Heap) (L d:Addr):List (Addr×Obj):=(zks g h L).filter fun p=>decide (p.1≠d)
end L2
namespace L2
open PySem PySem.Spec PyProof.Rows
structure Mod (K:PySem.W.Frag) (mg:Str→Option Value) (base:Heap):Prop where
 kin:K.In base
 glob:base.Ns mainGlobals mg
 blt:∃ mb,base.Ns builtinsNs mb∧∀ x:Str,x≠"__name__"→mb x=bootBuiltins x
 nolimit:base.NoLimit
 bmain:∃ bm ob,mg "__builtins__"=some (.ref bm)∧bm≠builtinsNs∧base.get? bm=some ob∧ob.cls=.type "module"∧ob.dict=some builtinsNs∧ob.data=.plain
structure Cx where
 prog:Program
 w:World
 K:PySem.W.Frag
 mg:Str→Option Value
 base:Heap
 A:Around
 N:List Str
 s₀:Shared
 H₀:Hp
 env:Env
 outer:List Env
 stack:List Env
 ex:List Addr
 fn:Str→Bool
 calm:Bool
 pn:List (Addr×Obj)
 xe:Value→Shared→Prop
def frs (l:List Env):List Addr:=l.filterMap (·.frame)
abbrev Cx.fs (X:Cx):List Addr:=frs X.outer
def Vis (sc:Scope) (x:Str):Prop:=sc.names.lookup x=some .local∨sc.names.lookup x=some .cell∨sc.names.lookup x=some .free
def Loc (sc:Scope) (x:Str):Prop:=sc.names.lookup x=some .local∨sc.names.lookup x=some .cell
def Look (env:Env) (h:Heap) (m:Str→Option Value) (x:Str) (u:Value):Prop:=
 (env.kindOf x=some .local∧m x=some u)∨((env.kindOf x=some .cell∨env.kindOf x=some .free)∧∃ c,env.cells.lookup x=some c∧h.IsCell c (some u))
def zho (H:Hp) (cs:List Addr):Prop:=cs.Nodup∧∀ j a,cs[j]?=some a→∃ o u vs,H a=some (.frz o u)∧o.data=.fields vs∧vs[2]?=some (nxt cs (j + 1))
def zhf (A:Around) (H:Hp):Prop:=A.handled=none∨∃ a cs,A.handled=some (.ref a)∧zho H (a::cs)
structure Cx.Ok (X:Cx):Prop where
 mod:Mod X.K X.mg X.base
 kind:X.env.scope.kind=.function
 glob:X.env.globals=mainGlobals
 blt:X.env.builtins=builtinsNs
 above:X.s₀.heap.objs.size≤X.env.locals
 inj:∀ x y c,X.env.cells.lookup x=some c→X.env.cells.lookup y=some c→x=y
 has:∀ x,(X.env.kindOf x=some .cell∨X.env.kindOf x=some .free)→∃ c,X.env.cells.lookup x=some c
 cab:∀ x c,X.fn x=true→X.env.cells.lookup x=some c→X.s₀.heap.objs.size≤c
 hd:zhf X.A X.H₀
 frames:X.A.frames=some X.stack
 stk:X.stack=X.outer∨(X.stack=X.env::X.outer∧X.env.frame=some X.env.locals)
 exf:∀ b∈X.ex,b≠X.env.locals∧∀ x c,X.env.cells.lookup x=some c→c≠b
 bs:∀ b o,X.base.get? b=some o→X.s₀.heap.get? b=some o∧X.H₀ b=none
 bsz:X.base.objs.size≤X.s₀.heap.objs.size
 noex:∀ b o,X.base.get? b=some o→b∉X.ex
 exfs:∀ b∈X.ex,b∉X.fs
 funs:X.s₀.heap.FunFrames X.base X.outer
 frf:∀ b∈X.fs,X.H₀ b=none
structure Inv (X:Cx) (pins:List (Addr×Obj)) (σ:List (Option V)) (H:Hp) (s:Shared):Prop where
 ok:X.Ok
 os:s.os=X.s₀.os
 bare:AllBare s.gens
 base:Un X.fs X.ex X.H₀ H X.s₀.heap s.heap
 loc:∃ m,s.heap.Ns X.env.locals m∧∀ (i:Nat) (x:Str) (v:V),X.N[i]?=some x→σ[i]?=some (some v)→Vis X.env.scope x→∃ u,zaQ v u∧Look X.env s.heap m x u
 cell:∀ x c,X.env.cells.lookup x=some c→∃ v,s.heap.IsCell c v
 free:H X.env.locals=none
 freeC:∀ x c,X.env.cells.lookup x=some c→H c=none
 pin:∀ p∈X.pn++pins,s.heap.get? p.1=some p.2∧H p.1=none∧p.1≠X.env.locals∧p.1∉X.fs∧∀ v,p.2.data≠.cell v
 hok:HOk X.prog X.w H s.heap
 len:σ.length=X.N.length
section
variable {X:Cx}{pins:List (Addr×Obj)}{σ:List (Option V)}{H H':Hp}{s:Shared}{h':Heap}
theorem Cx.Ok.nofr (ok:X.Ok){b:Addr}{o:Obj} (e:X.base.get? b=some o):b∉X.fs:=fun hb=>by
 have:=(ok.funs.mem hb).1
 rw[e] at this;cases this
theorem Inv.bs (I:Inv X pins σ H s):∀ b o,X.base.get? b=some o→s.heap.get? b=some o∧H b=none:=fun b o e=>
 ⟨I.base.keep b o (I.ok.bs b o e).1 (I.ok.bs b o e).2 (I.ok.nofr e) (I.ok.noex b o e),I.base.free b o (I.ok.bs b o e).1 (I.ok.bs b o e).2 (I.ok.noex b o e)⟩
theorem Inv.bk (I:Inv X pins σ H s):∀ b o,X.base.get? b=some o→s.heap.get? b=some o:=fun b o e=>(I.bs b o e).1
theorem Inv.mod (I:Inv X pins σ H s):Mod X.K X.mg X.base:=I.ok.mod
theorem Inv.kIn (I:Inv X pins σ H s):X.K.In s.heap:=I.ok.mod.kin.keeps I.bk
theorem zho.mono {cs:List Addr} (c:zho H cs) (k:∀ b o u,H b=some (.frz o u)→H' b=some (.frz o u)):zho H' cs:=⟨c.1,fun j a hj=>by
 obtain⟨o,u,vs,h,r⟩:=c.2 j a hj
 exact⟨o,u,vs,k a o u h,r⟩⟩
theorem zho.chn {cs:List Addr}{P:Program}{w:World}{h:Heap} (c:zho H cs) (k:HOk P w H h):Chn h cs:=⟨c.1,fun j a hj=>by
 obtain⟨o,u,vs,q,r⟩:=c.2 j a hj
 obtain⟨z,_⟩:=k a _ q
 exact⟨o,vs,z,r⟩⟩
theorem zho.not_mem {cs:List Addr}{b:Addr} (c:zho H cs) (hb:H b=none):b∉cs:=fun z=>by
 obtain⟨j,hj⟩:=List.mem_iff_getElem?.mp z
 obtain⟨o,u,vs,q,_⟩:=c.2 j b hj
 rw[hb] at q;cases q
theorem zhf.mono {A:Around} (x:zhf A H) (k:∀ b o u,H b=some (.frz o u)→H' b=some (.frz o u)):zhf A H':=by
 rcases x with e|⟨a,cs,e,c⟩
 ·exact .inl e
 ·exact .inr ⟨a,cs,e,c.mono k⟩
theorem Inv.hdAt (I:Inv X pins σ H s):zhf X.A H:=I.ok.hd.mono I.base.frzs
theorem zhf.hd {A:Around}{P:Program}{w:World}{h:Heap} (x:zhf A H) (k:HOk P w H h):Hd A h:=by
 rcases x with e|⟨a,cs,e,c⟩
 ·exact .inl e
 ·exact .inr ⟨a,cs,e,c.chn k⟩
theorem zhf.new {A:Around}{p:Addr}{u:HO} (x:zhf A H) (hn:H p=none):zhf A (upd H p u):=x.mono fun b o v q=>by rw[zag (zac q hn)];exact q
theorem Inv.hd (I:Inv X pins σ H s):Hd X.A s.heap:=I.hdAt.hd I.hok
theorem Inv.lt (I:Inv X pins σ H s):X.env.locals<s.heap.objs.size:=let ⟨_,hn,_⟩:=I.loc;hn.lt
theorem Inv.sz (I:Inv X pins σ H s):X.s₀.heap.objs.size≤s.heap.objs.size:=Nat.le_trans I.ok.above (Nat.le_of_lt I.lt)
theorem Inv.nofs (I:Inv X pins σ H s){a:Addr} (h:s.heap.objs.size≤a):a∉X.fs:=fun hb=>by
 obtain⟨_,o,ho,_⟩:=I.ok.funs.mem hb
 exact absurd (Nat.lt_of_lt_of_le (Heap.lt_size ho) (Nat.le_trans I.sz h)) (Nat.lt_irrefl _)
theorem Inv.cne (I:Inv X pins σ H s):∀ x c,X.env.cells.lookup x=some c→c≠X.env.locals:=fun x c e z=>by
 obtain⟨v,o,ho,hd⟩:=I.cell x c e
 obtain⟨m,⟨o',es,ep,ho',hd',_⟩,_⟩:=I.loc
 rw[z,ho'] at ho;cases ho;rw[hd'] at hd;cases hd
theorem Inv.funs (I:Inv X pins σ H s):s.heap.FunFrames X.base X.outer:=by
 have all:∀ (l:List Env),(∀ b∈frs l,b∈X.fs)→X.s₀.heap.FunFrames X.base l→s.heap.FunFrames X.base l:=by
  intro l
  induction l with
  | nil=>intro _ _;trivial
  | cons env r ih=>
   intro hs hl
   obtain⟨hk,⟨L,o,hf,hn,ho,hd⟩,hr⟩:=hl
   have hL:L∈X.fs:=hs L (by unfold frs;rw[List.filterMap_cons,hf];exact List.mem_cons_self)
   obtain⟨sl,e⟩:=I.base.slot L o ho (I.ok.frf L hL) hL fun z=>I.ok.exfs L z hL
   exact⟨hk,⟨L,_,hf,hn,e,hd⟩,ih (fun b hb=>hs b (by unfold frs;rw[List.filterMap_cons,hf];exact List.mem_cons_of_mem _ hb)) hr⟩
 exact all X.outer (fun _ hb=>hb) I.ok.funs
theorem Inv.stack (I:Inv X pins σ H s):s.heap.FunFrames X.base X.stack:=by
 rcases I.ok.stk with e|⟨e,hf⟩
 ·rw[e];exact I.funs
 ·rw[e]
  obtain⟨m,hn,_⟩:=I.loc
  refine .cons (by rw[I.ok.kind];decide) hf hn ?_ I.funs
  exact Heap.get?_none_of_le (Nat.le_trans I.ok.bsz I.ok.above)
theorem Inv.stkSub (I:Inv X pins σ H s):∀ b∈frs X.stack,b∈X.env.locals::X.fs:=fun b hb=>by
 rcases I.ok.stk with e|⟨e,hf⟩
 ·rw[e] at hb;exact List.mem_cons_of_mem _ hb
 ·rw[e] at hb
  unfold frs at hb
  rw[List.filterMap_cons,hf] at hb
  exact hb
theorem Inv.stkFree (I:Inv X pins σ H s):∀ b∈frs X.stack,H b=none:=fun b hb=>by
 rcases List.mem_cons.mp (I.stkSub b hb) with e|hb
 ·rw[e];exact I.free
 ·obtain⟨_,o,ho,_⟩:=I.ok.funs.mem hb
  exact I.base.free b o ho (I.ok.frf b hb) fun z=>I.ok.exfs b z hb
theorem Inv.step {g':Array GenState}{t':Nat}{d':Drawn}{ch:List Addr} (I:Inv X pins σ H s)
  (hch:∀ b∈ch,(b∈X.ex∨X.s₀.heap.objs.size≤b)∧b≠X.env.locals∧(∀ x c,X.env.cells.lookup x=some c→c≠b)∧∀ p∈X.pn++pins,p.1≠b)
  (keep:∀ b o,b≠X.env.locals→b∉X.fs→b∉ch→s.heap.get? b=some o→H b=none→h'.get? b=some o)
  (slot:∀ b o,b≠X.env.locals→b∈X.fs→b∉ch→s.heap.get? b=some o→H b=none→∃ sl,h'.get? b=some { o with slots:=sl }) (free:∀ b o,b∉ch→s.heap.get? b=some o→H b=none→H' b=none)
  (there:∀ b o,b∉ch→s.heap.get? b=some o→∃ o',h'.get? b=some o')
  (tups:∀ b xs,H b=some (.tup xs)→H' b=some (.tup xs)) (frzs:∀ b o u,H b=some (.frz o u)→H' b=some (.frz o u)) (tbls:∀ b p q,H b=some (.tbl p q)→H' b=some (.tbl p q))
  (ns:∀ m,s.heap.Ns X.env.locals m→h'.Ns X.env.locals m) (hok:HOk X.prog X.w H' h') (hg:AllBare g') :
  Inv X pins σ H' { s with heap:=h',gens:=g',drawn:=d',toks:=t' }:=by
 have neL:∀ b o,X.s₀.heap.get? b=some o→b≠X.env.locals:=fun b o e=>Nat.ne_of_lt (Nat.lt_of_lt_of_le (Heap.lt_size e) I.ok.above)
 have neC:∀ b o,X.s₀.heap.get? b=some o→b∉X.ex→b∉ch:=fun b o e hx hb=>by
  rcases(hch b hb).1 with z|z
  ·exact hx z
  ·exact absurd (Nat.lt_of_lt_of_le (Heap.lt_size e) z) (Nat.lt_irrefl _)
 have cellK:∀ x c,X.env.cells.lookup x=some c→∀ v,s.heap.IsCell c v→h'.IsCell c v:=fun x c e v ⟨o,ho,hd⟩=>by
  have nch:c∉ch:=fun z=>(hch c z).2.2.1 x c e rfl
  by_cases hc:c∈X.fs
  ·obtain⟨sl,q⟩:=slot c o (I.cne x c e) hc nch ho (I.freeC x c e)
   exact⟨_,q,hd⟩
  ·exact⟨o,keep c o (I.cne x c e) hc nch ho (I.freeC x c e),hd⟩
 refine⟨I.ok,I.os,hg,⟨fun b o e n hb hx=>?_,fun b o e n hb hx=>?_,fun b o e n hx=>?_,fun b o e hx=>?_,fun b xs e=>tups b xs (I.base.tups b xs e),fun b o xs e=>frzs b o xs (I.base.frzs b o xs e),fun b p q e=>tbls b p q (I.base.tbls b p q e)⟩,?_,fun x c e=>?_,?_,fun x c e=>?_,fun p hp=>?_,hok,I.len⟩
 ·exact keep b o (neL b o e) hb (neC b o e hx) (I.base.keep b o e n hb hx) (I.base.free b o e n hx)
 ·obtain⟨sl,e1⟩:=I.base.slot b o e n hb hx
  obtain⟨sl',e2⟩:=slot b _ (neL b o e) hb (neC b o e hx) e1 (I.base.free b o e n hx)
  exact⟨sl',e2⟩
 ·obtain⟨o',e1⟩:=I.base.there b o e hx
  exact free b o' (neC b o e hx) e1 (I.base.free b o e n hx)
 ·obtain⟨o',e1⟩:=I.base.there b o e hx
  exact there b o' (neC b o e hx) e1
 ·obtain⟨m,hn,hl⟩:=I.loc
  refine⟨m,ns m hn,fun i x v e1 e2 e3=>?_⟩
  obtain⟨u,r,l⟩:=hl i x v e1 e2 e3
  refine⟨u,r,?_⟩
  rcases l with l|⟨k,c,e,z⟩
  ·exact .inl l
  ·exact .inr ⟨k,c,e,cellK x c e _ z⟩
 ·obtain⟨v,z⟩:=I.cell x c e
  exact⟨v,cellK x c e v z⟩
 ·obtain⟨m,⟨o,_,_,ho,_⟩,_⟩:=I.loc
  exact free _ o (fun z=>(hch _ z).2.1 rfl) ho I.free
 ·obtain⟨v,o,ho,hd⟩:=I.cell x c e
  exact free c o (fun z=>(hch c z).2.2.1 x c e rfl) ho (I.freeC x c e)
 ·obtain⟨e,n,ne,nf,d⟩:=I.pin p hp
  have nch:p.1∉ch:=fun z=>(hch p.1 z).2.2.2 p hp rfl
  exact⟨keep p.1 p.2 ne nf nch e n,free p.1 p.2 nch e n,ne,nf,d⟩
theorem Inv.un {t':Nat} (I:Inv X pins σ H s) (u:Un X.fs [] H H' s.heap h') (hok:HOk X.prog X.w H' h'):Inv X pins σ H' { s with heap:=h',toks:=t' }:=by
 obtain⟨m,⟨o,es,ep,ho,r⟩,_⟩:=id I.loc
 obtain⟨sl,hL⟩:=u.any ho I.free (by simp)
 exact I.step (g':=s.gens) (d':=s.drawn) (ch:=[]) (fun _ z=>nomatch z) (fun b o _ hb _ e n=>u.keep b o e n hb (by simp)) (fun b o _ hb _ e n=>u.slot b o e n hb (by simp)) (fun b o _ e n=>u.free b o e n (by simp)) (fun b o _ e=>u.there b o e (by simp)) u.tups u.frzs u.tbls (fun m' hm=>by
  obtain⟨o',es',ep',ho',r'⟩:=hm
  rw[ho] at ho';cases ho'
  exact⟨_,es',ep',hL,r'⟩) hok I.bare
theorem Inv.call {g':Array GenState}{t':Nat}{d':Drawn}{ch:List Addr} (I:Inv X pins σ H s) (u:Un (frs X.stack) ch H H' s.heap h') (hok:HOk X.prog X.w H' h') (hg:AllBare g')
  (hch:∀ b∈ch,(b∈X.ex∨X.s₀.heap.objs.size≤b)∧b≠X.env.locals∧(∀ x c,X.env.cells.lookup x=some c→c≠b)∧∀ p∈X.pn++pins,p.1≠b) :
  Inv X pins σ H' { s with heap:=h',gens:=g',drawn:=d',toks:=t' }:=by
 obtain⟨m,⟨o,es,ep,ho,r⟩,_⟩:=id I.loc
 obtain⟨sl,hL⟩:=u.any ho I.free fun z=>(hch _ z).2.1 rfl
 exact I.step (ch:=ch) hch (fun b o hL hb hc e n=>u.keep b o e n (fun z=>(List.mem_cons.mp (I.stkSub b z)).elim hL hb) hc) (fun b o _ _ hc e n=>u.any e n hc) (fun b o hc e n=>u.free b o e n hc) (fun b o hc e=>u.there b o e hc) u.tups u.frzs u.tbls (fun m' hm=>by
  obtain⟨o',es',ep',ho',r'⟩:=hm
  rw[ho] at ho';cases ho'
  exact⟨_,es',ep',hL,r'⟩) hok hg
theorem Inv.turned {t':Nat}{it:Addr} (I:Inv X pins σ H s) (k:∀ b o,b≠it→s.heap.get? b=some o→h'.get? b=some o) (hn:H it=none) (hL:it≠X.env.locals)
  (h1:it∈X.ex∨X.s₀.heap.objs.size≤it) (h2:∀ x c,X.env.cells.lookup x=some c→c≠it) (h3:∀ p∈X.pn++pins,p.1≠it):Inv X pins σ H { s with heap:=h',toks:=t' }:=by
 have nit:∀ b u,H b=some u→b≠it:=fun b u e z=>by rw[z,hn] at e;cases e
 refine I.step (g':=s.gens) (d':=s.drawn) (ch:=[it]) (fun b hb=>?_) (fun b o _ _ hc e _=>k b o (fun z=>hc (by simp[z])) e) (fun b o _ _ hc e _=>⟨o.slots,k b o (fun z=>hc (by simp[z])) e⟩) (fun _ _ _ _ n=>n)
  (fun b o hc e=>⟨o,k b o (fun z=>hc (by simp[z])) e⟩) (fun _ _ e=>e) (fun _ _ _ e=>e) (fun _ _ _ e=>e) (fun m hm=>?_) (fun b u e=>?_) I.bare
 ·have e:b=it:=by simpa using hb
  subst e
  exact⟨h1,hL,h2,h3⟩
 ·obtain⟨o,es,ep,ho,r⟩:=hm
  exact⟨o,es,ep,k _ o (Ne.symm hL) ho,r⟩
 ·refine(I.hok b u e).stay (fun c v hc q=>k c v ?_ q) (fun _ q=>q) fun _ _ q=>q
  rcases hc with z|z
  ·rw[z];exact nit b u e
  ·exact nit c _ z
theorem Inv.tok (I:Inv X pins σ H s) (t:Nat):Inv X pins σ H { s with toks:=t }:=I.un (h':=s.heap) (t':=t) Un.refl I.hok
theorem Inv.kept {t':Nat} (I:Inv X pins σ H s) (k:∀ b u,s.heap.get? b=some u→h'.get? b=some u):Inv X pins σ H { s with heap:=h',toks:=t' }:=I.un (Un.kept k) (I.hok.kept k)
theorem Inv.laid {a:Addr}{o:HO}{t':Nat} (I:Inv X pins σ H s) (k:∀ b u,s.heap.get? b=some u→h'.get? b=some u) (hp:s.heap.objs.size≤a) (new:zbt X.prog X.w (upd H a o) h' a o) :
  Inv X pins σ (upd H a o) { s with heap:=h',toks:=t' }:=I.un (Un.laid k hp (I.hok.fresh hp)) (I.hok.laid k hp new)
theorem Inv.write {x e:Addr}{o:HO}{t':Nat} (I:Inv X pins σ H s) (mu:Mut (H x)) (he:e=x∨H e=some (.own x)) (k:∀ b u,b≠e→s.heap.get? b=some u→h'.get? b=some u) (heo:∃ u,h'.get? e=some u)
  (new:zbt X.prog X.w (upd H x o) h' x o):Inv X pins σ (upd H x o) { s with heap:=h',toks:=t' }:=I.un (Un.write mu he k heo) (I.hok.write mu he k heo new)
theorem Inv.pins_of {pins':List (Addr×Obj)} (I:Inv X pins σ H s) (h:∀ p∈pins',s.heap.get? p.1=some p.2∧H p.1=none∧p.1≠X.env.locals∧p.1∉X.fs∧∀ v,p.2.data≠.cell v):Inv X pins' σ H s:=
 ⟨I.ok,I.os,I.bare,I.base,I.loc,I.cell,I.free,I.freeC,fun p hp=>(List.mem_append.mp hp).elim (fun z=>I.pin p (List.mem_append_left _ z)) (h p),I.hok,I.len⟩
theorem zeA {N:List Str} (hN:N.Nodup){i j:Nat}{x:Str} (a:N[i]?=some x) (b:N[j]?=some x):i=j:=by
 obtain⟨h1,e1⟩:=List.getElem?_eq_some_iff.mp a
 obtain⟨h2,e2⟩:=List.getElem?_eq_some_iff.mp b
 exact(List.getElem_inj hN).mp (e1.trans e2.symm)
theorem zfc {M:Model}{A:Around}{E:Value→Shared→Prop}{i:Nat}{x:Str}{v:V}{u:Value}{Q:Unit→Shared→Prop} (I:Inv X pins σ H s) (hN:X.N.Nodup) (hi:X.N[i]?=some x) (hx:Loc X.env.scope x) (r:zaQ v u)
  (h:∀ s',Inv X pins (σ.set i (some v)) H s'→(∃ a,Heap.SameBut a s.heap s'.heap∧(a=X.env.locals∨X.env.cells.lookup x=some a))→Q () s') (hf:X.fn x=true∨X.env.scope.names.lookup x=some .local:=by first|exact .inl rfl|exact .inr rfl|assumption):wpAny M A (storeName X.env x u) Q E s:=by
 obtain⟨m,hn,hl⟩:=id I.loc
 have hcls:(X.env.scope.kind == .class || (X.env.scope.kind == .module && X.env.locals != X.env.globals))=false:=by rw[I.ok.kind];rfl
 have hiσ:i<σ.length:=by rw[I.len];exact(List.getElem?_eq_some_iff.mp hi).1
 have cne:=I.cne
 have tracked:∀ {a:Addr}{h':Heap},(∃ o,s.heap.get? a=some o∧H a=none)→Heap.SameBut a s.heap h'→HOk X.prog X.w H h':=fun {a h'} ha hs b ob e=>by
  obtain⟨_,_,hfree⟩:=ha
  refine(I.hok b ob e).stay (fun c w' hc q=>(hs.2 c ?_).trans q) (fun _ q=>q) fun _ _ q=>q
  rintro rfl
  rcases hc with rfl|hc
  ·rw[hfree] at e;cases e
  ·rw[hfree] at hc;cases hc
 rcases hx with hk|hk
 ·refine wpAny_storeName_local hk hn (fun h' hn' hs=>?_) hcls
  obtain⟨oL,_,_,hoL,_⟩:=id hn
  refine h _ ⟨I.ok,I.os,I.bare,⟨fun b o e n hb hx=>?_,fun b o e n hb hx=>?_,I.base.free,fun b o e hx=>?_,I.base.tups,I.base.frzs,I.base.tbls⟩,⟨_,hn',fun j y v' e1 e2 e3=>?_⟩,fun y c e=>?_,I.free,I.freeC,fun p hp=>?_,tracked ⟨oL,hoL,I.free⟩ hs,by simpa using I.len⟩ ⟨_,hs,.inl rfl⟩
  ·exact(hs.2 b (Nat.ne_of_lt (Nat.lt_of_lt_of_le (Heap.lt_size e) I.ok.above))).trans (I.base.keep b o e n hb hx)
  ·obtain⟨sl,e1⟩:=I.base.slot b o e n hb hx
   exact⟨sl,(hs.2 b (Nat.ne_of_lt (Nat.lt_of_lt_of_le (Heap.lt_size e) I.ok.above))).trans e1⟩
  ·obtain⟨o',e1⟩:=I.base.there b o e hx
   exact⟨o',(hs.2 b (Nat.ne_of_lt (Nat.lt_of_lt_of_le (Heap.lt_size e) I.ok.above))).trans e1⟩
  ·by_cases hj:j=i
   ·subst hj
    rw[hi] at e1;cases e1
    rw[List.getElem?_set_self hiσ] at e2
    cases e2
    exact⟨u,r,.inl ⟨hk,by simp⟩⟩
   ·rw[List.getElem?_set_ne (Ne.symm hj)] at e2
    obtain⟨u',r',q⟩:=hl j y v' e1 e2 e3
    refine⟨u',r',?_⟩
    rcases q with⟨k,e⟩|⟨k,c,e,z⟩
    ·refine .inl ⟨k,?_⟩
     have:y≠x:=fun e=>hj (zeA hN e1 (e ▸ hi))
     simp[this,e]
    ·exact .inr ⟨k,c,e,z.sameBut hs (cne y c e)⟩
  ·obtain⟨w',z⟩:=I.cell y c e
   exact⟨w',z.sameBut hs (cne y c e)⟩
  ·obtain⟨e,n,ne,nf,d⟩:=I.pin p hp
   exact⟨(hs.2 p.1 ne).trans e,n,ne,nf,d⟩
 ·have hfn:X.fn x=true:=by
   rcases hf with z|z
   ·exact z
   ·rw[z] at hk;cases hk
  obtain⟨c,hc⟩:=I.ok.has x (.inl hk)
  obtain⟨w',z⟩:=I.cell x c hc
  refine wpAny_storeName_cell I.ok.kind hk hc z (fun h' hc' hs=>?_)
  obtain⟨oc,hoc,hocd⟩:=id z
  refine h { s with heap:=h' } ⟨I.ok,I.os,I.bare,⟨fun b o e n hb hx=>?_,fun b o e n hb hx=>?_,I.base.free,fun b o e hx=>?_,I.base.tups,I.base.frzs,I.base.tbls⟩,⟨m,hn.sameBut hs (Ne.symm (cne x c hc)),fun j y v' e1 e2 e3=>?_⟩,fun y c' e=>?_,I.free,I.freeC,fun p hp=>?_,tracked ⟨oc,hoc,I.freeC x c hc⟩ hs,by simpa using I.len⟩ ⟨c,hs,.inr hc⟩
  ·exact(hs.2 b (Nat.ne_of_lt (Nat.lt_of_lt_of_le (Heap.lt_size e) (I.ok.cab x c hfn hc)))).trans (I.base.keep b o e n hb hx)
  ·obtain⟨sl,e1⟩:=I.base.slot b o e n hb hx
   exact⟨sl,(hs.2 b (Nat.ne_of_lt (Nat.lt_of_lt_of_le (Heap.lt_size e) (I.ok.cab x c hfn hc)))).trans e1⟩
  ·obtain⟨o',e1⟩:=I.base.there b o e hx
   exact⟨o',(hs.2 b (Nat.ne_of_lt (Nat.lt_of_lt_of_le (Heap.lt_size e) (I.ok.cab x c hfn hc)))).trans e1⟩
  ·by_cases hj:j=i
   ·subst hj
    rw[hi] at e1;cases e1
    rw[List.getElem?_set_self hiσ] at e2
    cases e2
    exact⟨u,r,.inr ⟨.inl hk,c,hc,hc'⟩⟩
   ·rw[List.getElem?_set_ne (Ne.symm hj)] at e2
    obtain⟨u',r',q⟩:=hl j y v' e1 e2 e3
    refine⟨u',r',?_⟩
    rcases q with q|⟨k,c',e,z'⟩
    ·exact .inl q
    ·refine .inr ⟨k,c',e,z'.sameBut hs ?_⟩
     rintro rfl
     exact hj (zeA hN e1 (I.ok.inj _ _ _ e hc ▸ hi))
  ·by_cases hcc:c'=c
   ·subst hcc;exact⟨_,hc'⟩
   ·obtain⟨w2,z2⟩:=I.cell y c' e
    exact⟨w2,z2.sameBut hs hcc⟩
  ·obtain⟨e,n,ne,nf,d⟩:=I.pin p hp
   refine⟨(hs.2 p.1 ?_).trans e,n,ne,nf,d⟩
   intro q
   rw[q,hoc] at e
   have q':oc=p.2:=Option.some.inj e
   exact d w' (by rw[← q'];exact hocd)
theorem zeB {M:Model}{A:Around}{E:Value→Shared→Prop}{i:Nat}{x:Str}{v:V}{u:Value}{Q:Unit→Shared→Prop} (I:Inv X pins σ H s) (hN:X.N.Nodup) (hi:X.N[i]?=some x) (hx:Loc X.env.scope x) (r:zaQ v u)
  (h:∀ s',Inv X pins (σ.set i (some v)) H s'→Q () s') (hf:X.fn x=true∨X.env.scope.names.lookup x=some .local:=by first|exact .inl rfl|exact .inr rfl|assumption):wpAny M A (storeName X.env x u) Q E s:=
 zfc I hN hi hx r (fun s' I' _=>h s' I') hf
theorem Inv.call' {s':Shared}{ch:List Addr} (I:Inv X pins σ H s) (ho:s'.os=s.os) (u:Un (frs X.stack) ch H H' s.heap s'.heap) (hok:HOk X.prog X.w H' s'.heap) (hg:AllBare s'.gens)
  (hch:∀ b∈ch,(b∈X.ex∨X.s₀.heap.objs.size≤b)∧b≠X.env.locals∧(∀ x c,X.env.cells.lookup x=some c→c≠b)∧∀ p∈X.pn++pins,p.1≠b):Inv X pins σ H' s':=by
 obtain⟨h',g',d',t',o'⟩:=s'
 have e:o'=s.os:=ho
 subst e
 exact I.call (g':=g') (t':=t') (d':=d') u hok hg hch
end
abbrev XK:=Value→Option Addr→Hp→Prop
abbrev St:=List (Option V)
abbrev VK:=V→Hp→Prop
abbrev TE:=St→Hp→VK→Prop
abbrev TT:=St→Hp→(Bool→Hp→Prop)→Prop
abbrev TA:=St→Hp→(List V→Hp→Prop)→Prop
structure zfd where
 nx:St→Hp→Prop
 rt:VK
 bk:St→Hp→Prop:=fun _ _=>False
 ct:St→Hp→Prop:=fun _ _=>False
abbrev TS:=zfd→St→Hp→Prop
def EP (X:Cx) (pins:List (Addr×Obj)) (σ:St) (Q:VK) (u:Value) (s':Shared):Prop:=∃ v H',Inv X pins σ H' s'∧zaQ v u∧Q v H'
def TP (X:Cx) (pins:List (Addr×Obj)) (σ:St) (Q:Bool→Hp→Prop) (b:Bool) (s':Shared):Prop:=∃ H',Inv X pins σ H' s'∧Q b H'
def AP (X:Cx) (pins:List (Addr×Obj)) (σ:St) (Q:List V→Hp→Prop) (us:List Value) (s':Shared):Prop:=∃ vs H',Inv X pins σ H' s'∧zaX vs us∧Q vs H'
def SP (X:Cx) (pins:List (Addr×Obj)) (D:zfd) (f:Flow) (s':Shared):Prop:=
 match f with
 | .next=>∃ σ' H',Inv X pins σ' H' s'∧D.nx σ' H'
 | .brk=>∃ σ' H',Inv X pins σ' H' s'∧D.bk σ' H'
 | .cont=>∃ σ' H',Inv X pins σ' H' s'∧D.ct σ' H'
 | .ret u=>∃ v σ' H',Inv X pins σ' H' s'∧zaQ v u∧D.rt v H'
def PE (X:Cx) (e:Expr) (t:TE):Prop:=
 ∀ (pins:List (Addr×Obj)) (s:Shared) (σ:St) (H:Hp) (Q:VK),Inv X pins σ H s→t σ H Q→wpAny (model X.prog X.w) X.A (eval e X.env) (EP X pins σ Q) X.xe s
def PT (X:Cx) (e:Expr) (t:TT):Prop:=
 ∀ (pins:List (Addr×Obj)) (s:Shared) (σ:St) (H:Hp) (Q:Bool→Hp→Prop),Inv X pins σ H s→t σ H Q→wpAny (model X.prog X.w) X.A (isTrue e X.env (eval e X.env)) (TP X pins σ Q) X.xe s
def PW (X:Cx) (e:Expr) (t:TT):Prop:=
 ∀ (whole:Sem Value) (pins:List (Addr×Obj)) (s:Shared) (σ:St) (H:Hp) (Q:Bool→Hp→Prop),Inv X pins σ H s→t σ H Q→wpAny (model X.prog X.w) X.A (isTrue e X.env whole) (TP X pins σ Q) X.xe s
theorem PW.pt {X:Cx}{e:Expr}{t:TT} (h:PW X e t):PT X e t:=h _
def PA (X:Cx) (es:List Expr) (t:TA):Prop:=
 ∀ (pos:Pos) (pins:List (Addr×Obj)) (s:Shared) (σ:St) (H:Hp) (Q:List V→Hp→Prop),Inv X pins σ H s→t σ H Q→wpAny (model X.prog X.w) X.A (spliced (backTo pos (starEach es X.env))) (AP X pins σ Q) X.xe s
def PS (X:Cx) (st:Stmt) (t:TS):Prop:=
 ∀ (pins:List (Addr×Obj)) (s:Shared) (σ:St) (H:Hp) (D:zfd),Inv X pins σ H s→t D σ H→wpAny (model X.prog X.w) X.A (exec st X.env) (SP X pins D) X.xe s
def PSs (X:Cx) (st:List Stmt) (t:TS):Prop:=
 ∀ (pins:List (Addr×Obj)) (s:Shared) (σ:St) (H:Hp) (D:zfd),Inv X pins σ H s→t D σ H→wpAny (model X.prog X.w) X.A (execs st X.env) (SP X pins D) X.xe s
theorem thn {α:Type}{t:Sem α}{Q Q':α→Shared→Prop}{M:Model}{A:Around}{E:Value→Shared→Prop}{s:Shared} (h:wpAny M A t Q E s) (hQ:∀ a s,Q a s→Q' a s):wpAny M A t Q' E s:=wpAny_mono h hQ fun _ _ x=>x
end L2
namespace L2
open PySem PySem.Spec PyProof.Rows
section
variable {X:Cx}
def tVar (i:Nat):TE:=fun σ H Q=>∃ v,σ[i]?=some (some v)∧Q v H
def tC (v:V):TE:=fun _ H Q=>Q v H
theorem pe_var {i:Nat}{x:Str}{pos:Pos} (hN:X.N[i]?=some x) (hv:Vis X.env.scope x) (hd:(x == ("__debug__":Str))=false:=by decide) (hcd:(x == ("__classdict__":Str))=false:=by decide):PE X (.Name x pos) (tVar i):=by
 intro pins s σ H Q I h
 obtain⟨v,e,h⟩:=h
 obtain⟨m,hn,hl⟩:=I.loc
 obtain⟨u,r,l⟩:=hl i x v hN e hv
 have fin:EP X pins σ Q u s:=⟨v,H,I,r,h⟩
 rcases l with⟨hk,hm⟩|⟨hk,c,hc,hcell⟩
 ·exact wpAny_Name (wpAny_loadName_local I.ok.kind hk hn hm fin) hd
 ·rcases hk with hk|hk
  ·exact wpAny_Name (wpAny_loadName_cell I.ok.kind hk hc hcell fin) hd
  ·exact wpAny_Name (wpAny_loadName_free I.ok.kind hk hc hcell fin hcd) hd
theorem zaf {i j pos}:PE X (.Constant (.int i) j pos) (tC (.int i)):=fun _ _ _ H _ I h=>wpAny_Constant_int ⟨.int i,H,I.tok _,⟨_,rfl⟩,h⟩
theorem zdv {b j pos}:PE X (.Constant (.bool b) j pos) (tC (.bl b)):=fun _ _ _ H _ I h=>Constant_bool ⟨.bl b,H,I,rfl,h⟩
theorem zfe {j pos}:PE X (.Constant .none j pos) (tC .non):=fun _ _ _ H _ I h=>Constant_none ⟨.non,H,I,rfl,h⟩
def Gl (X:Cx) (x:Str):Prop:=X.env.kindOf x=some .globalImplicit
theorem zdH {E:Value→Shared→Prop}{pins:List (Addr×Obj)}{s:Shared}{σ:St}{H:Hp}{x:Str}{u:Value}{pos:Pos}{Q:Value→Shared→Prop} (I:Inv X pins σ H s) (hg:Gl X x) (hm:X.mg x=some u) (h:Q u s)
  (hd:(x == ("__debug__":Str))=false:=by decide):wpAny (model X.prog X.w) X.A (eval (.Name x pos) X.env) Q E s:=
 Calls.Name_function_global I.ok.kind hg (Calls.loadGlobal_global (by rw[I.ok.glob];exact I.mod.glob.keeps I.bk) hm h) hd
theorem zcn {E:Value→Shared→Prop}{pins:List (Addr×Obj)}{s:Shared}{σ:St}{H:Hp}{x:Str}{u:Value}{pos:Pos}{Q:Value→Shared→Prop} (I:Inv X pins σ H s) (hg:Gl X x) (hm:X.mg x=none) (hv:bootBuiltins x=some u) (h:Q u s)
  (hn:x≠"__name__":=by decide) (hd:(x == ("__debug__":Str))=false:=by decide):wpAny (model X.prog X.w) X.A (eval (.Name x pos) X.env) Q E s:=by
 obtain⟨mb,h1,h2⟩:=I.mod.blt
 exact Calls.Name_function_global I.ok.kind hg (Calls.loadGlobal_builtin (by rw[I.ok.glob];exact I.mod.glob.keeps I.bk) hm (by rw[I.ok.blt];exact h1.keeps I.bk) ((h2 x hn).trans hv) h) hd
theorem zhp {x:Str}{v:V}{u:Value}{pos:Pos} (hg:Gl X x) (hm:X.mg x=some u) (r:zaQ v u) (hd:(x == ("__debug__":Str))=false:=by decide):PE X (.Name x pos) (tC v):=
 fun _ _ _ H _ I h=>zdH I hg hm ⟨v,H,I,r,h⟩ hd
theorem zkt {x:Str}{v:V}{u:Value}{pos:Pos} (hg:Gl X x) (hm:X.mg x=none) (hv:bootBuiltins x=some u) (r:zaQ v u) (hn:x≠"__name__":=by decide) (hd:(x == ("__debug__":Str))=false:=by decide):PE X (.Name x pos) (tC v):=
 fun _ _ _ H _ I h=>zcn I hg hm hv ⟨v,H,I,r,h⟩ hn hd
variable {a b:Expr}{ta tb:TE}{pos:Pos}
def PC (X:Cx) (op:CmpOp) (a b:Expr) (t:TE):Prop:=
 ∀ (pins:List (Addr×Obj)) (s:Shared) (σ:St) (H:Hp) (Q:VK),Inv X pins σ H s→t σ H Q →
  wpAny (model X.prog X.w) X.A (eval a X.env) (fun v s₁=>wpAny (model X.prog X.w) X.A (eval b X.env) (fun u s₂=>wpAny (model X.prog X.w) X.A (compareOp op v u) (EP X pins σ Q) X.xe s₂) X.xe s₁) X.xe s
theorem zgj (b:Expr){op:CmpOp} (h:op≠.In) (h2:op≠.NotIn):behindInMarks op b=false:=by
 have e1:(op == CmpOp.In)=false:=by cases op <;> first|rfl|exact absurd rfl h
 have e2:(op == CmpOp.NotIn)=false:=by cases op <;> first|rfl|exact absurd rfl h2
 cases b <;> simp[behindInMarks,e1,e2]
def tIsN (ta:TE):TE:=fun σ H Q=>ta σ H fun x H1=>Q (.bl (decide (x=.non))) H1
def tNotN (ta:TE):TE:=fun σ H Q=>ta σ H fun x H1=>Q (.bl (!decide (x=.non))) H1
theorem zaQ.none_iff {x:V}{v:Value} (r:zaQ x v):(v == Value.none)=decide (x=.non):=by
 cases x with
 | non=>cases r;rfl
 | bl _=>cases r;rfl
 | int _=>obtain⟨t,rfl⟩:=r;rfl
 | str _=>obtain⟨t,rfl⟩:=r;rfl
 | byt _=>obtain⟨t,rfl⟩:=r;rfl
 | flt _=>obtain⟨t,rfl⟩:=r;rfl
 | ref _=>cases r;rfl
 | ty _=>cases r;rfl
theorem zhq {j pos'} (ha:PE X a ta):PC X .Is a (.Constant .none j pos') (tIsN ta):=by
 intro pins s σ H Q I h
 refine thn (ha pins s σ H _ I h) fun v s1=>L2.ex5 fun x H1 I1 r1 q1=>?_
 exact Constant_none (is_none_gen ⟨.bl _,H1,I1,by rw[r1.none_iff];rfl,q1⟩)
theorem zcN {j pos'} (ha:PE X a ta):PC X .IsNot a (.Constant .none j pos') (tNotN ta):=by
 intro pins s σ H Q I h
 refine thn (ha pins s σ H _ I h) fun v s1=>L2.ex5 fun x H1 I1 r1 q1=>?_
 exact Constant_none (isnot_none_gen ⟨.bl _,H1,I1,by rw[r1.none_iff];rfl,q1⟩)
def tB (t:TE):TT:=fun σ H Q=>t σ H fun x H1=>∃ c,x=.bl c∧Q c H1
theorem zjT {op:CmpOp}{t:TE} (h:PC X op a b t) (h1:behindInMarks op b=false:=by first|exact zgj _ (by decide) (by decide)|rfl):PE X (.Compare a [op] [b] pos) t:=fun pins s σ H Q I hw=>wpAny_Compare1 (h pins s σ H Q I hw) h1
theorem zco {op:CmpOp}{t:TE} (h:PC X op a b t) (h1:behindInMarks op b=false:=by first|exact zgj _ (by decide) (by decide)|rfl):PT X (.Compare a [op] [b] pos) (tB t):=by
 intro pins s σ H Q I hw
 refine wpAny_isTrue_Compare1 (thn (h pins s σ H _ I hw) fun v s1 h1=>thn h1 fun u s2 h2=>thn h2 fun c s3=>L2.ex5 fun x H1 I1 r1 q1=>?_) h1
 obtain⟨d,rfl,q⟩:=q1
 cases r1
 exact wpAny_truthy_bool ⟨H1,I1,q⟩
theorem zbT {e:Expr}{t:TE} (h:PE X e t) (he:∀ whole,isTrue e X.env whole=(do let v ← whole;standAt e.pos;holding [v] (truthy v)):=by intro _;rfl):PT X e (tB t):=by
 intro pins s σ H Q I hw
 refine isTrue_plain (thn (h pins s σ H _ I hw) fun v s1=>L2.ex5 fun x H1 I1 r1 q1=>?_) (he _)
 obtain⟨d,rfl,q⟩:=q1
 cases r1
 exact wpAny_truthy_bool ⟨H1,I1,q⟩
variable {tA tB':TT}{zbe:List Expr}
def tAnd (t u:TT):TT:=fun σ H Q=>t σ H fun c H1=>if c=true then u σ H1 Q else Q false H1
def tOr (t u:TT):TT:=fun σ H Q=>t σ H fun c H1=>if c=true then Q true H1 else u σ H1 Q
def tNot (t:TT):TT:=fun σ H Q=>t σ H fun c H1=>Q (!c) H1
theorem zbW (ha:PT X a tA):PW X (.BoolOp .And [a] pos) tA:=by
 intro wh pins s σ H Q I h
 refine isTrue_and (thn (ha pins s σ H Q I h) fun c s1 e=>?_)
 cases c with
 | true=>exact isTrue_and_nil e
 | false=>exact e
theorem zcJ (ha:PT X a tA):PW X (.BoolOp .Or [a] pos) tA:=by
 intro wh pins s σ H Q I h
 refine isTrue_or (thn (ha pins s σ H Q I h) fun c s1 e=>?_)
 cases c with
 | false=>exact isTrue_or_nil e
 | true=>exact e
theorem zcp (ha:PT X a tA) (hb:PW X (.BoolOp .And (b::zbe) pos) tB'):PW X (.BoolOp .And (a::b::zbe) pos) (tAnd tA tB'):=by
 intro wh pins s σ H Q I h
 refine isTrue_and (thn (ha pins s σ H _ I h) fun c s1=>L2.ex3 fun H1 I1 q1=>?_)
 cases c with
 | true=>exact hb wh pins s1 σ H1 Q I1 q1
 | false=>exact⟨H1,I1,q1⟩
theorem zcY (ha:PT X a tA) (hb:PW X (.BoolOp .Or (b::zbe) pos) tB'):PW X (.BoolOp .Or (a::b::zbe) pos) (tOr tA tB'):=by
 intro wh pins s σ H Q I h
 refine isTrue_or (thn (ha pins s σ H _ I h) fun c s1=>L2.ex3 fun H1 I1 q1=>?_)
 cases c with
 | true=>exact⟨H1,I1,q1⟩
 | false=>exact hb wh pins s1 σ H1 Q I1 q1
theorem zdI (ha:PT X a tA):PT X (.UnaryOp .Not a pos) (tNot tA):=by
 intro pins s σ H Q I h
 exact isTrue_not (ha pins s σ H (fun c H1=>Q (!c) H1) I h)
def tAndV (ta tb:TE):TE:=fun σ H Q=>ta σ H fun x H1=>∃ c,x=.bl c∧if c=true then tb σ H1 Q else Q (.bl false) H1
def tOrV (ta tb:TE):TE:=fun σ H Q=>ta σ H fun x H1=>∃ c,x=.bl c∧if c=true then Q (.bl true) H1 else tb σ H1 Q
def tNotV (ta:TE):TE:=fun σ H Q=>ta σ H fun x H1=>∃ c,x=.bl c∧Q (.bl (!c)) H1
theorem zed {op}{t:TE} (h:PE X a t):PE X (.BoolOp op [a] pos) t:=fun pins s σ H Q I hw=>BoolOp_one (h pins s σ H Q I hw)
theorem zee (ha:PE X a ta) (hb:PE X (.BoolOp .And (b::zbe) pos) tb):PE X (.BoolOp .And (a::b::zbe) pos) (tAndV ta tb):=by
 intro pins s σ H Q I h
 refine BoolOp_and (thn (ha pins s σ H _ I h) fun v s1=>L2.ex5 fun x H1 I1 r1 q1=>?_)
 obtain⟨c,rfl,q1⟩:=q1
 cases r1
 refine wpAny_truthy_bool ?_
 cases c with
 | true=>exact hb pins s1 σ H1 Q I1 q1
 | false=>exact⟨.bl false,H1,I1,rfl,q1⟩
theorem pe_or (ha:PE X a ta) (hb:PE X (.BoolOp .Or (b::zbe) pos) tb):PE X (.BoolOp .Or (a::b::zbe) pos) (tOrV ta tb):=by
 intro pins s σ H Q I h
 refine BoolOp_or (thn (ha pins s σ H _ I h) fun v s1=>L2.ex5 fun x H1 I1 r1 q1=>?_)
 obtain⟨c,rfl,q1⟩:=q1
 cases r1
 refine wpAny_truthy_bool ?_
 cases c with
 | false=>exact hb pins s1 σ H1 Q I1 q1
 | true=>exact⟨.bl true,H1,I1,rfl,q1⟩
theorem pe_not (ha:PE X a ta):PE X (.UnaryOp .Not a pos) (tNotV ta):=by
 intro pins s σ H Q I h
 refine UnaryOp_ (thn (ha pins s σ H _ I h) fun v s1=>L2.ex5 fun x H1 I1 r1 q1=>?_)
 obtain⟨c,rfl,q1⟩:=q1
 cases r1
 exact not_of (wpAny_truthy_bool ⟨.bl (!c),H1,I1,rfl,q1⟩)
def tIf (t:TT) (ta tb:TE):TE:=fun σ H Q=>t σ H fun c H1=>if c=true then ta σ H1 Q else tb σ H1 Q
theorem zeC {c:Expr} (hc:PT X c tA) (ha:PE X a ta) (hb:PE X b tb):PE X (.IfExp c a b pos) (tIf tA ta tb):=by
 intro pins s σ H Q I h
 refine wpAny_IfExp (thn (hc pins s σ H _ I h) fun d s1=>L2.ex3 fun H1 I1 q1=>?_)
 cases d with
 | true=>exact ha pins s1 σ H1 Q I1 q1
 | false=>exact hb pins s1 σ H1 Q I1 q1
end
end L2
namespace L2
open PySem PySem.Spec PyProof.Rows
def SqL (K:PySem.W.Frag) (H:Hp) (a:Addr) (xs:List V):Prop:=
 Rd H a (.lst xs) ∨
  ∃ (o:Obj) (its:Array Value) (n:Nat),K.lookup a=some o∧o.cls=.type "list"∧o.dict=none∧o.data=.seq its n∧its.size≤sizeLine∧zaX xs its.toList
def SqT (K:PySem.W.Frag) (H:Hp) (a:Addr) (xs:List V):Prop:=
 Rd H a (.tup xs) ∨
  ∃ (o:Obj) (its:Array Value) (n:Nat),K.lookup a=some o∧o.cls=.type "tuple"∧o.data=.seq its n∧its.size≤sizeLine∧zaX xs its.toList
def absV:Value→Option V
 | .none=>some .non
 | .bool b=>some (.bl b)
 | .int i _=>some (.int i)
 | .str x _=>some (.str x)
 | .bytes b _=>some (.byt b)
 | .float b _=>some (.flt b)
 | .ref a=>some (.ref a)
 | .type n=>some (.ty n)
 | _=>none
theorem zaQ.abs {x:V}{u:Value} (r:zaQ x u):absV u=some x:=by
 cases x with
 | non=>cases r;rfl
 | bl _=>cases r;rfl
 | int _=>obtain⟨t,rfl⟩:=r;rfl
 | str _=>obtain⟨t,rfl⟩:=r;rfl
 | byt _=>obtain⟨t,rfl⟩:=r;rfl
 | flt _=>obtain⟨t,rfl⟩:=r;rfl
 | ref _=>cases r;rfl
 | ty _=>cases r;rfl
theorem zaQ.inj {x y:V}{u:Value} (r:zaQ x u) (q:zaQ y u):x=y:=Option.some.inj (r.abs.symm.trans q.abs)
theorem zaX.inj:∀ {xs ys:List V}{us:List Value},zaX xs us→zaX ys us→xs=ys
 | _,_,_,.nil,.nil=>rfl
 | _,_,_,.cons r t,.cons r' t'=>by rw[r.inj r',zaX.inj t t']
section
variable {X:Cx}{pins:List (Addr×Obj)}{σ:St}{H:Hp}{s:Shared}{a:Addr}{xs ys:List V}
theorem SqL.of {K:PySem.W.Frag} (h:H a=some (.lst xs)):SqL K H a xs:=.inl (.inl h)
theorem SqT.of {K:PySem.W.Frag} (h:H a=some (.tup xs)):SqT K H a xs:=.inl (.inl h)
theorem Inv.list (I:Inv X pins σ H s) (h:SqL X.K H a xs):∃ its:List Value,zaX xs its∧PlainL s.heap a its.toArray∧xs.length≤sizeLine:=by
 rcases h with h|⟨o,its,n,hk,hc,hd,hs,hz,r⟩
 ·obtain⟨z,its,n,r,e⟩:=h.ok I.hok
  exact⟨its,r,⟨_,n,e,rfl,rfl,rfl⟩,z⟩
 ·refine⟨its.toList,r,⟨o,n,I.kIn a o hk,hc,hd,by simpa using hs⟩,?_⟩
  have e:=r.length
  simp only[Array.length_toList] at e
  omega
theorem Inv.tuple (I:Inv X pins σ H s) (h:SqT X.K H a xs):∃ its:List Value,zaX xs its∧IsTup s.heap a its.toArray∧xs.length≤sizeLine:=by
 rcases h with h|⟨o,its,n,hk,hc,hs,hz,r⟩
 ·obtain⟨z,its,r,p⟩:=h.ok I.hok
  exact⟨its,r,p,z⟩
 ·refine⟨its.toList,r,⟨o,I.kIn a o hk,hc,n,by simpa using hs⟩,?_⟩
  have e:=r.length
  simp only[Array.length_toList] at e
  omega
theorem Inv.list_inj (I:Inv X pins σ H s) (h:SqL X.K H a xs) (h':SqL X.K H a ys):xs=ys:=by
 obtain⟨its,r,⟨o,n,e,_,_,d⟩,_⟩:=I.list h
 obtain⟨its',r',⟨o',n',e',_,_,d'⟩,_⟩:=I.list h'
 rw[e] at e';cases e'
 rw[d] at d'
 injection d' with d1 _
 have:its=its':=by simpa using congrArg Array.toList d1
 subst this
 exact r.inj r'
theorem Inv.tuple_inj (I:Inv X pins σ H s) (h:SqT X.K H a xs) (h':SqT X.K H a ys):xs=ys:=by
 obtain⟨its,r,⟨o,e,_,n,d⟩,_⟩:=I.tuple h
 obtain⟨its',r',⟨o',e',_,n',d'⟩,_⟩:=I.tuple h'
 rw[e] at e';cases e'
 rw[d] at d'
 injection d' with d1 _
 have:its=its':=by simpa using congrArg Array.toList d1
 subst this
 exact r.inj r'
end
abbrev Cx.wish (X:Cx) (E:Value→Shared→Prop):Cx:={ X with xe:=E }
abbrev Cx.nox (X:Cx):Cx:=X.wish fun _ _=>False
theorem Cx.Ok.wish {X:Cx} (ok:X.Ok) (E:Value→Shared→Prop):(X.wish E).Ok:=
 ⟨ok.mod,ok.kind,ok.glob,ok.blt,ok.above,ok.inj,ok.has,ok.cab,ok.hd,ok.frames,ok.stk,ok.exf,ok.bs,ok.bsz,ok.noex,ok.exfs,ok.funs,ok.frf⟩
theorem Cx.Ok.unwish {X:Cx}{E:Value→Shared→Prop} (ok:(X.wish E).Ok):X.Ok:=
 ⟨ok.mod,ok.kind,ok.glob,ok.blt,ok.above,ok.inj,ok.has,ok.cab,ok.hd,ok.frames,ok.stk,ok.exf,ok.bs,ok.bsz,ok.noex,ok.exfs,ok.funs,ok.frf⟩
section
variable {X:Cx}{pins:List (Addr×Obj)}{σ:St}{H:Hp}{s:Shared}{E:Value→Shared→Prop}
theorem Inv.wish (I:Inv X pins σ H s) (E:Value→Shared→Prop):Inv (X.wish E) pins σ H s:=⟨I.ok.wish E,I.os,I.bare,I.base,I.loc,I.cell,I.free,I.freeC,I.pin,I.hok,I.len⟩
theorem Inv.unwish (I:Inv (X.wish E) pins σ H s):Inv X pins σ H s:=⟨I.ok.unwish,I.os,I.bare,I.base,I.loc,I.cell,I.free,I.freeC,I.pin,I.hok,I.len⟩
theorem SP.unwish {D:zfd}{f:Flow}{s':Shared} (h:SP (X.wish E) pins D f s'):SP X pins D f s':=by
 cases f with
 | next=>obtain⟨σ',H',I,q⟩:=h;exact⟨σ',H',I.unwish,q⟩
 | brk=>obtain⟨σ',H',I,q⟩:=h;exact⟨σ',H',I.unwish,q⟩
 | cont=>obtain⟨σ',H',I,q⟩:=h;exact⟨σ',H',I.unwish,q⟩
 | ret u=>obtain⟨v,σ',H',I,r,q⟩:=h;exact⟨v,σ',H',I.unwish,r,q⟩
theorem PSs.nox {st:List Stmt}{t:TS} (h:PSs X.nox st t):PSs X st t:=fun pins s σ H D I hw=>
 wpAny_mono (h pins s σ H D (I.wish _) hw) (fun _ _ q=>q.unwish) fun _ _ z=>False.elim z
end
section
variable {X:Cx}{st:Stmt}{zbe:List Stmt}{t u:TS}{e:Expr}{te:TE}{pos:Pos}
def tNext:TS:=fun D σ H=>D.nx σ H
def tSeq (t u:TS):TS:=fun D σ H=>t { D with nx:=u D } σ H
theorem zaI:PSs X [] tNext:=fun _ _ σ H _ I h=>wpAny_execs_nil ⟨σ,H,I,h⟩
theorem zad (h1:PS X st t) (h2:PSs X zbe u):PSs X (st::zbe) (tSeq t u):=by
 intro pins s σ H D I h
 refine wpAny_execs_cons (thn (h1 pins s σ H { D with nx:=u D } I h) fun f s1 q=>?_)
 cases f with
 | next=>
  obtain⟨σ',H',I',q⟩:=q
  exact h2 pins s1 σ' H' D I' q
 | ret v=>exact q
 | brk=>exact q
 | cont=>exact q
theorem zai (h1:PS X st t):PSs X [st] t:=by
 intro pins s σ H D I h
 refine wpAny_execs_cons (thn (h1 pins s σ H D I h) fun f s1 q=>?_)
 cases f with
 | next=>exact wpAny_execs_nil q
 | ret v=>exact q
 | brk=>exact q
 | cont=>exact q
theorem Inv.quiet {pins:List (Addr×Obj)}{σ:St}{H:Hp}{s:Shared} (I:Inv X pins σ H s):interactive X.env=false:=by simp[interactive,I.ok.kind]
def tDrop (te:TE):TS:=fun D σ H=>te σ H fun _ H1=>D.nx σ H1
theorem zbX (he:PE X e te) (hs:swapsWith e none pos.line X.env=pure false:=by rfl):PS X (.Expr e pos) (tDrop te):=by
 intro pins s σ H D I h
 exact wpAny_Expr_any (thn (he pins s σ H _ I h) fun v s1=>L2.ex5 fun x H1 I1 r1 q1=>⟨σ,H1,I1,q1⟩) I.quiet hs
def tRet (te:TE):TS:=fun D σ H=>te σ H D.rt
theorem zaH (he:PE X e te):PS X (.Return (some e) pos) (tRet te):=by
 intro pins s σ H D I h
 exact wpAny_Return_some (thn (he pins s σ H _ I h) fun v s1=>L2.ex5 fun x H1 I1 r1 q1=>⟨x,σ,H1,I1,r1,q1⟩)
def tRetN:TS:=fun D _ H=>D.rt .non H
theorem zku:PS X (.Return none pos) tRetN:=fun _ _ σ H _ I h=>wpAny_Return_none ⟨.non,σ,H,I,rfl,h⟩
def tIfS (c:TT) (t u:TS):TS:=fun D σ H=>c σ H fun b H1=>if b=true then t D σ H1 else u D σ H1
theorem zbF {c:Expr}{a b:List Stmt}{tc:TT} (hc:PT X c tc) (ha:PSs X a t) (hb:PSs X b u):PS X (.If c a b pos) (tIfS tc t u):=by
 intro pins s σ H D I h
 refine wpAny_If (thn (hc pins s σ H _ I h) fun d s1=>L2.ex3 fun H1 I1 q1=>?_)
 cases d with
 | true=>exact ha pins s1 σ H1 D I1 q1
 | false=>exact hb pins s1 σ H1 D I1 q1
end
abbrev TG:=V→St→Hp→(St→Hp→Prop)→Prop
abbrev TGs:=List V→St→Hp→(St→Hp→Prop)→Prop
def PG (X:Cx) (target:Expr) (t:TG):Prop:=
 ∀ (pins:List (Addr×Obj)) (s:Shared) (σ:St) (H:Hp) (v:V) (u:Value) (Q:St→Hp→Prop),Inv X pins σ H s→zaQ v u→t v σ H Q →
  wpAny (model X.prog X.w) X.A (assign target X.env u) (fun _ s'=>∃ σ' H',Inv X pins σ' H' s'∧Q σ' H') X.xe s
def PGs (X:Cx) (ts:List Expr) (t:TGs):Prop:=
 ∀ (pins:List (Addr×Obj)) (s:Shared) (σ:St) (H:Hp) (vs:List V) (us:List Value) (Q:St→Hp→Prop),Inv X pins σ H s→zaX vs us→t vs σ H Q →
  wpAny (model X.prog X.w) X.A (assignInOrder ((assignEach ts X.env).map (·.2)) us) (fun _ s'=>∃ σ' H',Inv X pins σ' H' s'∧Q σ' H') X.xe s
abbrev TSet:=V→V→V→Hp→(Hp→Prop)→Prop
def PSet (X:Cx) (t:TSet):Prop:=
 ∀ (pins:List (Addr×Obj)) (s:Shared) (σ:St) (H:Hp) (o i v:V) (ov iv u:Value) (Q:Hp→Prop),Inv X pins σ H s→zaQ o ov→zaQ i iv→zaQ v u→t o i v H Q →
  wpAny (model X.prog X.w) X.A (setItem ov iv u) (fun _ s'=>∃ H',Inv X pins σ H' s'∧Q H') X.xe s
abbrev TIp:=V→V→Hp→VK→Prop
def PIp (X:Cx) (op:Operator) (t:TIp):Prop:=
 ∀ (pins:List (Addr×Obj)) (s:Shared) (σ:St) (H:Hp) (x y:V) (v u:Value) (Q:VK),Inv X pins σ H s→zaQ x v→zaQ y u→t x y H Q →
  wpAny (model X.prog X.w) X.A (inplaceOp op v u) (EP X pins σ Q) X.xe s
section
variable {X:Cx}{pos:Pos}
def zbl (i:Nat):TG:=fun v σ H Q=>Q (σ.set i (some v)) H
theorem zak {i:Nat}{x:Str} (hN:X.N.Nodup) (hi:X.N[i]?=some x) (hx:Loc X.env.scope x) (hf:X.fn x=true∨X.env.scope.names.lookup x=some .local:=by first|exact .inl rfl|exact .inr rfl|assumption):PG X (.Name x pos) (zbl i):=by
 intro pins s σ H v u Q I r h
 exact wpAny_assign_Name (zeB I hN hi hx r (fun s' I'=>⟨_,H,I',h⟩) hf)
def gNil:TGs:=fun vs σ H Q=>vs=[]∧Q σ H
def gCons (t:TG) (u:TGs):TGs:=fun vs σ H Q=>∃ v r,vs=v::r∧t v σ H fun σ' H'=>u r σ' H' Q
theorem zbm:PGs X [] gNil:=by
 intro pins s σ H vs us Q I r h
 obtain⟨e,h⟩:=h
 subst e
 cases r
 exact assignInOrder_nil ⟨σ,H,I,h⟩
theorem zar {e:Expr}{es:List Expr}{t:TG}{u:TGs} (h1:PG X e t) (h2:PGs X es u)
  (hs:(assignEach (e::es) X.env).map (·.2)=assign e X.env::(assignEach es X.env).map (·.2):=by rfl):PGs X (e::es) (gCons t u):=by
 intro pins s σ H vs us Q I r h
 obtain⟨v,vr,e1,h⟩:=h
 subst e1
 cases r with
 | cons r rr=>
  rw[hs]
  refine assignInOrder_cons (thn (h1 pins s σ H _ _ _ I r h) fun _ s1=>L2.ex4 fun σ1 H1 I1 q1=>?_)
  exact h2 pins s1 σ1 H1 _ _ Q I1 rr q1
def gTup (K:PySem.W.Frag) (n:Nat) (t:TGs):TG:=fun v σ H Q=>∃ a xs,v=.ref a∧SqT K H a xs∧xs.length=n∧t xs σ H Q
theorem zcZ {es:List Expr}{k:Nat}{t:TGs}{n:Nat} (hc:X.calm=true) (h:PGs X es t)
  (hn:(assignEach es X.env).length=n:=by rfl) (hst:(assignEach es X.env).findIdx? (·.1)=none:=by rfl):PG X (.Tuple es k pos) (gTup X.K n t):=by
 intro pins s σ H v u Q I r hw
 obtain⟨a,xs,e1,hq,hl,hw⟩:=hw
 subst e1
 cases r
 obtain⟨its,rv,ht,hz⟩:=I.tuple hq
 refine zfX I.hd ht (by simp[hn,← hl,rv.length]) hst fun h' hx=>?_
 have I1:Inv X pins σ H { s with heap:=h' }:=I.kept (t':=s.toks) fun b o e=>hx b o (Nat.ne_of_lt (Heap.lt_size e)) e
 exact h pins _ σ H xs _ Q I1 (by simpa using rv) hw
def tAsg (te:TE) (g:TG):TS:=fun D σ H=>te σ H fun x H1=>g x σ H1 D.nx
theorem zam {i:Nat}{x:Str}{e:Expr}{te:TE}{pos':Pos} (hN:X.N.Nodup) (hi:X.N[i]?=some x) (hx:Loc X.env.scope x) (he:PE X e te) (hs:swapsWith e (some (.Name x pos')) pos.line X.env=pure false:=by rfl) (hf:X.fn x=true∨X.env.scope.names.lookup x=some .local:=by first|exact .inl rfl|exact .inr rfl|assumption) :
  PS X (.Assign [.Name x pos'] e pos) (tAsg te (zbl i)):=by
 intro pins s σ H D I h
 refine wpAny_Assign_Name (thn (he pins s σ H _ I h) fun v s1=>L2.ex5 fun y H1 I1 r1 q1=>?_) hs
 exact zeB I1 hN hi hx r1 (fun s2 I2=>⟨_,H1,I2,q1⟩) hf
def tAugS (to ti te:TE) (tget:V→V→Hp→VK→Prop) (tip:TIp) (tset:TSet):TS:=fun D σ H=>to σ H fun o H1=>ti σ H1 fun i H2=>tget o i H2 fun x H3=>te σ H3 fun y H4=>tip x y H4 fun z H5=>tset o i z H5 fun H6=>D.nx σ H6
def PGet (X:Cx) (t:V→V→Hp→VK→Prop):Prop:=
 ∀ (pins:List (Addr×Obj)) (s:Shared) (σ:St) (H:Hp) (o i:V) (ov iv:Value) (Q:VK),Inv X pins σ H s→zaQ o ov→zaQ i iv→t o i H Q →
  wpAny (model X.prog X.w) X.A (getItem ov iv) (EP X pins σ Q) X.xe s
theorem zcO {o i e:Expr}{to ti te:TE}{tget:V→V→Hp→VK→Prop}{tip:TIp}{tset:TSet}{op:Operator}{tpos:Pos} (ho:PE X o to) (hi:PE X i ti) (hg:PGet X tget) (he:PE X e te) (hp:PIp X op tip) (hs:PSet X tset)
  (ha:∀ ov iv new,augStore i ov iv new=(do holding [new,ov,iv] (setItem ov iv new);release [new,ov,iv] [];pure .next):=by intros;rfl):PS X (.AugAssign (.Subscript o i tpos) op e pos) (tAugS to ti te tget tip tset):=by
 intro pins s σ H D I h
 refine wpAny_AugAssign_SubscriptAny (thn (ho pins s σ H _ I h) fun ov s1=>L2.ex5 fun x1 H1 I1 r1 q1=>?_) ha
 refine thn (hi pins s1 σ H1 _ I1 q1) fun iv s2=>L2.ex5 fun x2 H2 I2 r2 q2=>?_
 refine thn (hg pins s2 σ H2 x1 x2 ov iv _ I2 r1 r2 q2) fun old s3=>L2.ex5 fun x3 H3 I3 r3 q3=>?_
 refine thn (he pins s3 σ H3 _ I3 q3) fun v s4=>L2.ex5 fun x4 H4 I4 r4 q4=>?_
 refine thn (hp pins s4 σ H4 x3 x4 old v _ I4 r3 r4 q4) fun new s5=>L2.ex5 fun x5 H5 I5 r5 q5=>?_
 exact thn (hs pins s5 σ H5 x1 x2 x5 ov iv new _ I5 r1 r2 r5 q5) fun _ s6=>L2.ex3 fun H6 I6 q6=>⟨σ,H6,I6,q6⟩
def ipI (f:Int→Int→Int):TIp:=fun x y H Q=>∃ i j,x=.int i∧y=.int j∧Q (.int (f i j)) H
theorem zff:PIp X .Add (ipI fun i j=>i + j):=by
 intro pins s σ H x y v u Q I r1 r2 h
 obtain⟨i,j,e1,e2,q⟩:=h
 subst e1;subst e2
 obtain⟨t,rfl⟩:=r1
 obtain⟨t',rfl⟩:=r2
 exact iadd_int ⟨.int _,H,I.tok _,⟨_,rfl⟩,q⟩
theorem zjU:PIp X .Sub (ipI fun i j=>i - j):=by
 intro pins s σ H x y v u Q I r1 r2 h
 obtain⟨i,j,e1,e2,q⟩:=h
 subst e1;subst e2
 obtain⟨t,rfl⟩:=r1
 obtain⟨t',rfl⟩:=r2
 exact isub_int ⟨.int _,H,I.tok _,⟨_,rfl⟩,q⟩
end
section
variable {X:Cx}{pos:Pos}
def tWhile (c:TT) (tb:TS):TS:=fun D σ H=>∃ W:Nat→St→Hp→Prop,(∃ m,W m σ H)∧∀ m σ H,W m σ H →
 c σ H fun b H1=>if b=true then ∃ N:St→Hp→Prop,(∀ σ' H',N σ' H'→∃ m',m'<m∧W m' σ' H')∧tb { D with nx:=N,ct:=N,bk:=D.nx } σ H1 else D.nx σ H1
theorem zc0 {c:Expr}{body:List Stmt}{tc:TT}{tb:TS} (hp:PassesOwn (model X.prog X.w) X.A X.env X.xe) (hc:PT X c tc) (hb:PSs X body tb):PS X (.While c body [] pos) (tWhile tc tb):=by
 intro pins s σ H D I h
 obtain⟨W,⟨m0,w0⟩,zbI⟩:=h
 refine wpAny_While (codeAny_whileLoop (fun n s'=>∃ σ' H',Inv X pins σ' H' s'∧W n σ' H') ?_ m0 ⟨σ,H,I,w0⟩)
 rintro n s1 ⟨σ1,H1,I1,w1⟩
 refine wpAny_passesOwn hp (thn (hc pins s1 σ1 H1 _ I1 (zbI n σ1 H1 w1)) fun b s2=>L2.ex3 fun H2 I2 q2=>?_)
 cases b with
 | true=>
  obtain⟨N,hN,q2⟩:=q2
  rw[if_pos rfl]
  refine wpAny_passesOwn hp (thn (hb pins s2 σ1 H2 _ I2 q2) fun f s3 q3=>?_)
  cases f with
  | next=>
   obtain⟨σ3,H3,I3,n3⟩:=q3
   obtain⟨m',hm,w3⟩:=hN σ3 H3 n3
   exact⟨m',hm,σ3,H3,I3,w3⟩
  | cont=>
   obtain⟨σ3,H3,I3,n3⟩:=q3
   obtain⟨m',hm,w3⟩:=hN σ3 H3 n3
   exact⟨m',hm,σ3,H3,I3,w3⟩
  | brk=>exact q3
  | ret v=>exact q3
 | false=>
  rw[if_neg Bool.false_ne_true]
  exact wpAny_execs_nil ⟨σ1,H2,I2,q2⟩
end
structure It where
 go:Nat→Hp→Prop
 yld:Nat→Hp→V→Hp→Prop
 stop:Nat→Hp→Prop
def zcm (X:Cx) (pins:List (Addr×Obj)) (H:Hp) (b:Addr):Prop:=
 H b=none∧b≠X.env.locals∧b∉X.fs∧(b∈X.ex∨X.s₀.heap.objs.size≤b)∧(∀ x c,X.env.cells.lookup x=some c→c≠b)∧∀ p∈X.pn++pins,p.1≠b
theorem Inv.fpOk {X:Cx}{pins:List (Addr×Obj)}{σ:St}{H H':Hp}{s:Shared}{b:Addr} (I:Inv X pins σ H s) (hb:s.heap.objs.size≤b) (hn:H' b=none):zcm X pins H' b:=by
 refine⟨hn,Nat.ne_of_gt (Nat.lt_of_lt_of_le I.lt hb),I.nofs hb,.inr (Nat.le_trans I.sz hb),fun x c e z=>?_,fun p hp z=>?_⟩
 ·obtain⟨v,q⟩:=I.cell x c e
  exact absurd (Nat.lt_of_lt_of_le q.lt (by rw[z];exact hb)) (Nat.lt_irrefl _)
 ·exact absurd (Nat.lt_of_lt_of_le (Heap.lt_size (I.pin p hp).1) (by rw[z];exact hb)) (Nat.lt_irrefl _)
structure zkv (P:Program) (w:World) (K:PySem.W.Frag) (tg:Expr) (J:It) (fp:List Addr) (it:Addr) (tn:Nat→Heap→Prop):Prop where
 mem:it∈fp
 obj:∀ i h,tn i h→∀ b∈fp,∃ o,h.get? b=some o∧∀ v,o.data≠.cell v
 keep:∀ i h h',tn i h→(∀ b∈fp,∀ o,h.get? b=some o→h'.get? b=some o)→tn i h'
 item:∀ (X:Cx),X.prog=P→X.w=w→X.K=K→X.calm=true→∀ (i:Nat) (pins:List (Addr×Obj)) (s:Shared) (σ:St) (H:Hp) (E:Value→Shared→Prop),Inv X pins σ H s→(∀ b∈fp,zcm X pins H b)→tn i s.heap→J.go i H →
  wpAny (model P w) X.A (pyNext (.ref it)) (fun r s1=>∃ u,r=some u ∧
   wpAny (model P w) X.A (letOwnedTupleGo tg (.ref it) u) (fun _ s2=>∃ x H',Inv X pins σ H' s2∧zaQ x u∧J.yld i H x H'∧tn (i + 1) s2.heap∧∀ b∈fp,H' b=none) E s1) E s
 done:∀ (X:Cx),X.prog=P→X.w=w→X.K=K→X.calm=true→∀ (i:Nat) (pins:List (Addr×Obj)) (s:Shared) (σ:St) (H:Hp) (E:Value→Shared→Prop),Inv X pins σ H s→(∀ b∈fp,zcm X pins H b)→tn i s.heap→J.stop i H →
  wpAny (model P w) X.A (pyNext (.ref it)) (fun r s1=>r=none∧Inv X pins σ H s1) E s
 self:∀ (A:Around) (i:Nat) (s:Shared) (Q:Value→Shared→Prop) (E:Value→Shared→Prop),tn i s.heap→Q (.ref it) s→wpAny (model P w) A (pyIter (.ref it)) Q E s
abbrev TI:=St→Hp→(It→Hp→Prop)→Prop
def PIE (X:Cx) (pins:List (Addr×Obj)) (σ:St) (tg:Expr) (R:It→Hp→Prop) (itv:Value) (s2:Shared):Prop:=
 ∃ (it:Addr) (fp:List Addr) (tn:Nat→Heap→Prop) (J:It) (H':Hp),itv=.ref it∧Inv X pins σ H' s2∧zkv X.prog X.w X.K tg J fp it tn∧tn 0 s2.heap∧(∀ b∈fp,zcm X pins H' b)∧R J H'
def PI (X:Cx) (tg iter:Expr) (wi:TI):Prop:=
 ∀ (pins:List (Addr×Obj)) (s:Shared) (σ:St) (H:Hp) (R:It→Hp→Prop),Inv X pins σ H s→wi σ H R →
  wpAny (model X.prog X.w) X.A (eval iter X.env) (fun v s1=>wpAny (model X.prog X.w) X.A (pyIter v) (PIE X pins σ tg R) X.xe s1) X.xe s
theorem go_of {M:Model}{A:Around}{E:Value→Shared→Prop}{s:Shared}{tg:Expr}{it:Addr}{u:Value}{o:Obj}{n:String}{vs:Array Value}{Q:Unit→Shared→Prop} (ho:s.heap.get? it=some o) (hc:o.cls=.type n) (hd:o.data=.fields vs)
    (hn:["enumerate","zip","dict_itemiterator","dict_reverseitemiterator","odict_iterator","itertools.zip_longest","itertools.pairwise"].contains n=false) (hQ:Q () s):wpAny M A (letOwnedTupleGo tg (.ref it) u) Q E s:=by
  unfold letOwnedTupleGo
  cases tg <;> first
    | exact wpAny_pure hQ
    | (cases u <;> first
        | exact wpAny_pure hQ
        | (refine wpAny_bind (wpAny_load ho ?_)
           rw[hc,hd]
           show wpAny M A (if (["enumerate","zip","dict_itemiterator","dict_reverseitemiterator","odict_iterator","itertools.zip_longest","itertools.pairwise"].contains n && vs[0]? == some (rawInt _))=true then _ else _) Q E s
           rw[if_neg (by intro h;rw[hn,Bool.false_and] at h;cases h)]
           exact wpAny_pure hQ))
def Itl (K:PySem.W.Frag) (a:Addr):It:=
 ⟨fun i H=>∃ xs x,SqL K H a xs∧xs[i]?=some x,fun i H x H'=>H'=H∧∀ xs,SqL K H a xs→xs[i]?=some x,fun i H=>∃ xs,SqL K H a xs∧xs.length≤i⟩
def Itr (lo:Int) (n:Nat):It:=⟨fun i _=>i<n,fun i H x H'=>H'=H∧x=.int (lo + i),fun i _=>n≤i⟩
theorem zhr {P:Program}{w:World}{K:PySem.W.Frag}{tg:Expr} (a it:Addr):zkv P w K tg (Itl K a) [it] it (fun i h=>h.IsListIter it a i) where
 mem:=by simp
 obj:=fun i h st b hb=>by
  have e:b=it:=by simpa using hb
  subst e
  obtain⟨o,e,c,d⟩:=st
  exact⟨o,e,fun v z=>by rw[d] at z;cases z⟩
 keep:=fun i h h' st k=>st.at fun o e=>k it (by simp) o e
 item:=by
  intro X hP hw hK hc i pins s σ H E I hf st hg
  subst hP hw hK
  obtain⟨xs,x,hq,hx⟩:=hg
  obtain⟨its,rv,p,hz⟩:=I.list hq
  obtain⟨u,hu,ru⟩:=rv.get hx
  obtain⟨f0,f1,f2,f3,f4,f5⟩:=hf it (by simp)
  refine wpAny_pyNext_list_item st p.isList (x:=u) (by simpa using hu) fun h' st' sb=>?_
  have I1:Inv X pins σ H { s with heap:=h' }:=I.turned (t':=s.toks) (fun b o hb e=>(sb.2 b hb).trans e) f0 f1 f3 f4 f5
  obtain⟨o,e,c,d⟩:=id st'
  exact⟨u,rfl,go_of (s:={ s with heap:=h' }) e c d (by decide) ⟨x,H,I1,ru,⟨rfl,fun ys hy=>by rw[I.list_inj hy hq];exact hx⟩,st',fun b hb=>(hf b hb).1⟩⟩
 done:=by
  intro X hP hw hK hc i pins s σ H E I hf st hg
  subst hP hw hK
  obtain⟨xs,hq,hx⟩:=hg
  obtain⟨its,rv,p,hz⟩:=I.list hq
  obtain⟨f0,f1,f2,f3,f4,f5⟩:=hf it (by simp)
  have hl:=rv.length
  exact zfb I.hd st p.isList (by simp;omega) fun h' eb=>⟨rfl,I.turned (t':=s.toks) (fun b o hb e=>eb b o hb e) f0 f1 f3 f4 f5⟩
 self:=fun _ _ _ _ _ st h=>wpAny_pyIter_listiter st h
theorem zgT {P:Program}{w:World}{K:PySem.W.Frag}{tg:Expr} (it:Addr) (lo:Int) (n:Nat):zkv P w K tg (Itr lo n) [it] it (fun i h=>IsRangeIter h it (lo + (i:Nat) * 1) ((n:Int) - (i:Nat)) 1) where
 mem:=by simp
 obj:=fun i h st b hb=>by
  have e:b=it:=by simpa using hb
  subst e
  exact⟨_,st,fun v z=>by
   have z':Data.fields _=Data.cell v:=z
   cases z'⟩
 keep:=fun i h h' st k=>k it (by simp) _ st
 item:=by
  intro X hP hw hK hc i pins s σ H E I hf st hg
  subst hP hw hK
  obtain⟨f0,f1,f2,f3,f4,f5⟩:=hf it (by simp)
  refine wpAny_pyNext_range_item st (by have:i<n:=hg;omega) fun h' st0 sb=>?_
  have st':IsRangeIter h' it (lo + ((i + 1:Nat):Int) * 1) ((n:Int) - ((i + 1:Nat):Int)) 1:=by
   rw[show lo + ((i + 1:Nat):Int) * 1=lo + (i:Int) * 1 + 1 by omega,show(n:Int) - ((i + 1:Nat):Int)=(n:Int) - (i:Int) - 1 by omega]
   exact st0
  have I1:Inv X pins σ H { s with heap:=h',toks:=s.toks + 1 }:=I.turned (fun b o hb e=>sb.extBut b o hb e) f0 f1 f3 f4 f5
  exact⟨_,rfl,go_of (s:={ s with heap:=h',toks:=s.toks + 1 }) (n:="range_iterator") st' rfl rfl (by decide) ⟨.int (lo + i),H,I1,⟨_,by rw[Int.mul_one]⟩,⟨rfl,rfl⟩,st',fun b hb=>(hf b hb).1⟩⟩
 done:=by
  intro X hP hw hK hc i pins s σ H E I hf st hg
  subst hP hw hK
  obtain⟨f0,f1,f2,f3,f4,f5⟩:=hf it (by simp)
  exact zeb I.hd st (by have:n≤i:=hg;omega) fun h' eb=>⟨rfl,I.turned (t':=s.toks) (fun b o hb e=>eb b o hb e) f0 f1 f3 f4 f5⟩
 self:=fun _ _ _ _ _ st h=>wpAny_pyIter_rangeiter st h
end L2
namespace L2
open PySem PySem.Spec PyProof.Rows
section
variable {X:Cx}{tg:Expr}
def iList (K:PySem.W.Frag) (tl:TE):TI:=fun σ H R=>tl σ H fun x H1=>∃ a,x=.ref a∧(∃ xs,SqL K H1 a xs)∧R (Itl K a) H1
theorem zaF {l:Expr}{tl:TE} (hl:PE X l tl):PI X tg l (iList X.K tl):=by
 intro pins s σ H R I h
 refine thn (hl pins s σ H _ I h) fun v s1=>L2.ex5 fun x H1 I1 r1 q1=>?_
 obtain⟨a,e,⟨xs,hq⟩,q⟩:=q1
 subst e
 cases r1
 obtain⟨its,rv,p,hz⟩:=I1.list hq
 refine wpAny_pyIter_list p.isList ?_
 refine⟨s1.heap.objs.size,[s1.heap.objs.size],_,_,H1,rfl,I1.kept (t':=s1.toks) fun b o e=>Heap.get?_push_of_some _ e,zhr a _,⟨_,Heap.get?_push_size _ rfl,rfl,rfl⟩,fun b hb=>?_,q⟩
 have e:b=s1.heap.objs.size:=by simpa using hb
 subst e
 exact I1.fpOk (Nat.le_refl _) (I1.hok.fresh (Nat.le_refl _))
theorem zi7 {pins:List (Addr×Obj)}{σ:St}{H:Hp}{s:Shared}{R:It→Hp→Prop}{E:Value→Shared→Prop}{lo hi:Int}{t u v:Tok}{tk:Nat} (I:Inv X pins σ H s) (h1:-(2 ^ 62)≤lo) (h2:lo<2 ^ 62) (h3:-(2 ^ 62)≤hi) (h4:hi<2 ^ 62)
  (q:R (Itr lo (hi - lo).toNat) H):wpAny (model X.prog X.w) X.A (pyIter (.ref s.heap.objs.size)) (PIE X pins σ tg R) E { s with heap:=s.heap.push { cls:=.type "range",data:=.fields #[.int lo t,.int hi u,.int 1 v] },toks:=tk }:=by
 refine wpAny_pyIter_range (IsRange.new ..) (small_one h1 h2 h3 h4) ?_
 have I1:Inv X pins σ H { s with heap:=s.heap.push { cls:=.type "range",data:=.fields #[.int lo t,.int hi u,.int 1 v] },toks:=tk }:=I.kept fun b o e=>Heap.get?_push_of_some _ e
 refine⟨(s.heap.push { cls:=.type "range",data:=.fields #[.int lo t,.int hi u,.int 1 v] }).objs.size,[(s.heap.push { cls:=.type "range",data:=.fields #[.int lo t,.int hi u,.int 1 v] }).objs.size],_,_,H,rfl,
  I1.kept (t':=tk) fun b o e=>Heap.get?_push_of_some _ e,zgT _ lo (hi - lo).toNat,?_,fun b hb=>?_,q⟩
 ·have e1:lo + ((0:Nat):Int) * 1=lo:=by simp
  have e2:(((hi - lo).toNat:Nat):Int) - ((0:Nat):Int)=Builtin.Range.rangeSize lo hi 1:=by rw[rangeSize_one];split <;> omega
  show IsRangeIter _ _ (lo + ((0:Nat):Int) * 1) ((((hi - lo).toNat:Nat):Int) - ((0:Nat):Int)) 1
  rw[e1,e2]
  exact Heap.get?_push_size _ rfl
 ·have e:b=(s.heap.push { cls:=.type "range",data:=.fields #[.int lo t,.int hi u,.int 1 v] }).objs.size:=by simpa using hb
  subst e
  exact I1.fpOk (Nat.le_refl _) (I1.hok.fresh (Nat.le_refl _))
def iRng1 (ta:TA):TI:=fun σ H R=>ta σ H fun vs H1=>∃ j:Int,vs=[.int j]∧-(2 ^ 62)≤j∧j<2 ^ 62∧R (Itr 0 j.toNat) H1
theorem zdJ {a:Expr}{ta:TA}{p pos:Pos} (hg:Gl X "range") (hm:X.mg "range"=none) (ha:PA X [a] ta) (hs:starEach [a] X.env=[(false,eval a X.env)]:=by rfl):PI X tg (.Call (.Name "range" p) [a] [] pos) (iRng1 ta):=by
 intro pins s σ H R I h
 refine Call_ (zcn I hg hm boot_range (PyProof.Rows.callWith_type1 (thn (ha pos pins s σ H _ I h) fun us s1=>L2.ex5 fun vs H1 I1 r1 q1=>?_) hs rfl))
 obtain⟨j,e,q1,q2,q⟩:=q1
 subst e
 cases r1 with
 | cons r rr=>
  cases rr
  obtain⟨t,rfl⟩:=r
  exact call_range_1 (zi7 I1 (by omega) (by omega) q1 q2 (by simpa using q))
def tFor (wi:TI) (g:TG) (tb:TS):TS:=fun D σ H=>wi σ H fun J H1=>∃ W:Nat→Nat→St→Hp→Prop,(∃ m,W 0 m σ H1)∧∀ i m σ H,W i m σ H →
 (J.stop i H∧D.nx σ H)∨(J.go i H∧∃ N:St→Hp→Prop,(∀ σ' H',N σ' H'→∃ m',m'<m∧W (i + 1) m' σ' H')∧∀ x H',J.yld i H x H'→g x σ H' fun σ2 H2=>tb { D with nx:=N,ct:=N,bk:=D.nx } σ2 H2)
def zfg (fp:List Addr) (h:Heap):List (Addr×Obj):=fp.filterMap fun b=>(h.get? b).map fun o=>(b,o)
theorem zcB {fp:List Addr}{h:Heap}{b:Addr}{o:Obj} (hb:b∈fp) (e:h.get? b=some o):(b,o)∈zfg fp h:=List.mem_filterMap.mpr ⟨b,hb,by rw[e];rfl⟩
theorem zhs {fp:List Addr}{h:Heap}{p:Addr×Obj} (hp:p∈zfg fp h):p.1∈fp∧h.get? p.1=some p.2:=by
 obtain⟨b,hb,e⟩:=List.mem_filterMap.mp hp
 cases q:h.get? b with
 | none=>rw[q] at e;cases e
 | some o=>
  rw[q] at e
  have e':(b,o)=p:=Option.some.inj e
  subst e'
  exact⟨hb,q⟩
theorem Inv.pinned {pins:List (Addr×Obj)}{σ:St}{H:Hp}{s:Shared}{fp:List Addr} (I:Inv X pins σ H s) (hf:∀ b∈fp,zcm X pins H b) (ho:∀ b∈fp,∃ o,s.heap.get? b=some o∧∀ v,o.data≠.cell v):Inv X (pins++zfg fp s.heap) σ H s:=
 I.pins_of fun p hp=>(List.mem_append.mp hp).elim (fun z=>I.pin p (List.mem_append_right _ z)) fun z=>by
  obtain⟨hb,e⟩:=zhs z
  obtain⟨f0,f1,f2,_⟩:=hf p.1 hb
  obtain⟨o,e',d⟩:=ho p.1 hb
  rw[e] at e';cases e'
  exact⟨e,f0,f1,f2,d⟩
theorem Inv.unpinned {pins pl:List (Addr×Obj)}{σ:St}{H:Hp}{s:Shared} (I:Inv X (pins++pl) σ H s):Inv X pins σ H s:=I.pins_of fun p hp=>I.pin p (List.mem_append_right _ (List.mem_append_left _ hp))
theorem zce {iter:Expr}{body:List Stmt}{wi:TI}{g:TG}{tb:TS}{pos:Pos} (hp:PassesOwn (model X.prog X.w) X.A X.env X.xe) (hc:X.calm=true) (hi:PI X tg iter wi) (hg:PG X tg g) (hb:PSs X body tb)
  (hs:∀ x,foldedSetIterable iter X.env x=pure x:=by intro _;rfl):PS X (.For tg iter body [] pos) (tFor wi g tb):=by
 intro pins s σ H D I h
 refine wpAny_For (thn (hi pins s σ H _ I h) fun v s1 h1=>thn h1 fun itv s2 h2=>?_) hs
 obtain⟨it,fp,tn,J,H2,e,I2,T,st2,f2,W,⟨m0,w0⟩,zbI⟩:=h2
 subst e
 have stat:∀ {H':Hp},(∀ b∈fp,H' b=none)→∀ b∈fp,zcm X pins H' b:=fun hn b hb=>⟨hn b hb,(f2 b hb).2⟩
 refine codeAny_forLoop_any (fun n s'=>∃ i σ' H',Inv X pins σ' H' s'∧tn i s'.heap∧(∀ b∈fp,H' b=none)∧W i n σ' H') ?_ m0 ⟨0,σ,H2,I2,st2,fun b hb=>(f2 b hb).1,w0⟩
 rintro n s3 ⟨i,σ3,H3,I3,st3,fr3,w3⟩
 rcases zbI i n σ3 H3 w3 with⟨stop,qn⟩|⟨go,N,hN,step⟩
 ·refine wpAny_passesOwn hp (thn (T.done X rfl rfl rfl hc i pins s3 σ3 H3 X.xe I3 (stat fr3) st3 stop) fun r s4 ⟨hr,I4⟩=>?_)
  subst hr
  exact wpAny_execs_nil ⟨σ3,H3,I4,qn⟩
 ·refine wpAny_passesOwn hp (thn (T.item X rfl rfl rfl hc i pins s3 σ3 H3 X.xe I3 (stat fr3) st3 go) fun r s4 ⟨u,hr,h4⟩=>?_)
  subst hr
  refine wpAny_passesOwn hp (thn h4 fun _ s5=>L2.ex5 fun x H5 I5 r5 hq_=>?_)
  obtain⟨y5,st5,fr5⟩:=hq_
  have I5':=I5.pinned (stat fr5) (T.obj _ _ st5)
  refine wpAny_passesOwn hp (thn (hg _ s5 σ3 H5 x u _ I5' r5 (step x H5 y5)) fun _ s6=>L2.ex4 fun σ6 H6 I6 q6=>?_)
  refine wpAny_passesOwn hp (thn (hb _ s6 σ6 H6 _ I6 q6) fun f s7 q7=>?_)
  have again:∀ {σ7:St}{H7:Hp},Inv X (pins++zfg fp s5.heap) σ7 H7 s7→N σ7 H7→∃ m,m<n∧∃ i σ' H',Inv X pins σ' H' s7∧tn i s7.heap∧(∀ b∈fp,H' b=none)∧W i m σ' H':=fun {σ7 H7} I7 n7=>by
   obtain⟨m',hm,w7⟩:=hN σ7 H7 n7
   refine⟨m',hm,i + 1,σ7,H7,I7.unpinned,T.keep _ _ _ st5 fun b hb o e=>(I7.pin (b,o) (List.mem_append_right _ (List.mem_append_right _ (zcB hb e)))).1,fun b hb=>?_,w7⟩
   obtain⟨o,e,d⟩:=T.obj _ _ st5 b hb
   exact(I7.pin (b,o) (List.mem_append_right _ (List.mem_append_right _ (zcB hb e)))).2.1
  cases f with
  | next=>obtain⟨σ7,H7,I7,n7⟩:=q7;exact again I7 n7
  | cont=>obtain⟨σ7,H7,I7,n7⟩:=q7;exact again I7 n7
  | brk=>obtain⟨σ7,H7,I7,q7⟩:=q7;exact⟨σ7,H7,I7.unpinned,q7⟩
  | ret v=>obtain⟨x7,σ7,H7,I7,r7,q7⟩:=q7;exact⟨x7,σ7,H7,I7.unpinned,r7,q7⟩
end
theorem zc1 {K:PySem.W.Frag}{a:Addr}{xs:List V}{g:TG}{tb:TS}{D:zfd}{σ:St}{H:Hp} (Pv:Nat→St→Hp→Prop) (h0:Pv 0 σ H) (hl:∀ i σ H,i≤xs.length→Pv i σ H→SqL K H a xs)
  (hs:∀ i x σ H,xs[i]?=some x→Pv i σ H→g x σ H fun σ2 H2=>tb { D with nx:=Pv (i + 1),ct:=Pv (i + 1),bk:=D.nx } σ2 H2) (hd:∀ σ H,Pv xs.length σ H→D.nx σ H) :
  ∃ W:Nat→Nat→St→Hp→Prop,(∃ m,W 0 m σ H)∧∀ i m σ H,W i m σ H →
   ((Itl K a).stop i H∧D.nx σ H)∨((Itl K a).go i H∧∃ N:St→Hp→Prop,(∀ σ' H',N σ' H'→∃ m',m'<m∧W (i + 1) m' σ' H')∧∀ x H',(Itl K a).yld i H x H'→g x σ H' fun σ2 H2=>tb { D with nx:=N,ct:=N,bk:=D.nx } σ2 H2):=by
 refine⟨fun i m σ H=>m=xs.length - i∧i≤xs.length∧Pv i σ H,⟨xs.length,by simp,Nat.zero_le _,h0⟩,?_⟩
 rintro i m σ H ⟨rfl,hi,p⟩
 have q:=hl i σ H hi p
 by_cases hlt:i<xs.length
 ·refine .inr ⟨⟨xs,xs[i],q,by simp[hlt]⟩,Pv (i + 1),fun σ' H' p'=>⟨xs.length - (i + 1),by omega,rfl,hlt,p'⟩,fun x H' y=>?_⟩
  obtain⟨e,y⟩:=y
  subst e
  exact hs i x σ _ (y xs q) p
 ·have e:i=xs.length:=by omega
  subst e
  exact .inl ⟨⟨xs,q,Nat.le_refl _⟩,hd σ H p⟩
theorem zht {lo:Int}{n:Nat}{g:TG}{tb:TS}{D:zfd}{σ:St}{H:Hp} (Pv:Nat→St→Hp→Prop) (h0:Pv 0 σ H)
  (hs:∀ i σ H,i<n→Pv i σ H→g (.int (lo + i)) σ H fun σ2 H2=>tb { D with nx:=Pv (i + 1),ct:=Pv (i + 1),bk:=D.nx } σ2 H2) (hd:∀ σ H,Pv n σ H→D.nx σ H) :
  ∃ W:Nat→Nat→St→Hp→Prop,(∃ m,W 0 m σ H)∧∀ i m σ H,W i m σ H →
   ((Itr lo n).stop i H∧D.nx σ H)∨((Itr lo n).go i H∧∃ N:St→Hp→Prop,(∀ σ' H',N σ' H'→∃ m',m'<m∧W (i + 1) m' σ' H')∧∀ x H',(Itr lo n).yld i H x H'→g x σ H' fun σ2 H2=>tb { D with nx:=N,ct:=N,bk:=D.nx } σ2 H2):=by
 refine⟨fun i m σ H=>m=n - i∧i≤n∧Pv i σ H,⟨n,by simp,Nat.zero_le _,h0⟩,?_⟩
 rintro i m σ H ⟨rfl,hi,p⟩
 by_cases hlt:i<n
 ·refine .inr ⟨hlt,Pv (i + 1),fun σ' H' p'=>⟨n - (i + 1),by omega,rfl,hlt,p'⟩,fun x H' y=>?_⟩
  obtain⟨e,y⟩:=y
  subst e y
  exact hs i σ _ hlt p
 ·have e:i=n:=by omega
  subst e
  exact .inl ⟨Nat.le_refl _,hd σ H p⟩
end L2
namespace L2
open PySem PySem.Spec PyProof.Rows
abbrev R2:=V→V→Hp→VK→Prop
def OpR (X:Cx) (f:Value→Value→Sem Value) (r:R2):Prop:=
 ∀ (pins:List (Addr×Obj)) (s:Shared) (σ:St) (H:Hp) (x y:V) (v u:Value) (Q:VK),Inv X pins σ H s→zaQ x v→zaQ y u→r x y H Q →
  wpAny (model X.prog X.w) X.A (f v u) (EP X pins σ Q) X.xe s
def UnR (X:Cx) (f:Value→Sem Value) (r:V→Hp→VK→Prop):Prop:=
 ∀ (pins:List (Addr×Obj)) (s:Shared) (σ:St) (H:Hp) (x:V) (v:Value) (Q:VK),Inv X pins σ H s→zaQ x v→r x H Q →
  wpAny (model X.prog X.w) X.A (f v) (EP X pins σ Q) X.xe s
def zc2 (X:Cx) (f:Value) (r:List V→Hp→VK→Prop):Prop:=
 ∀ (pins:List (Addr×Obj)) (s:Shared) (σ:St) (H:Hp) (xs:List V) (us:List Value) (Q:VK),Inv X pins σ H s→zaX xs us→r xs H Q →
  wpAny (model X.prog X.w) X.A (call f us) (EP X pins σ Q) X.xe s
def tOp (r:R2) (ta tb:TE):TE:=fun σ H Q=>ta σ H fun x H1=>tb σ H1 fun y H2=>r x y H2 Q
def tUn (r:V→Hp→VK→Prop) (ta:TE):TE:=fun σ H Q=>ta σ H fun x H1=>r x H1 Q
def rI (C:Int→Int→Prop) (g:Int→Int→V):R2:=fun x y H Q=>∃ i j,x=.int i∧y=.int j∧C i j∧Q (g i j) H
def rI0 (g:Int→Int→V):R2:=fun x y H Q=>∃ i j,x=.int i∧y=.int j∧Q (g i j) H
def rU (g:Int→V):V→Hp→VK→Prop:=fun x H Q=>∃ i,x=.int i∧Q (g i) H
section
variable {X:Cx}{a b c:Expr}{ta tb tc:TE}{pos:Pos}
theorem binT (ha:PE X a ta) (hb:PE X b tb){pins:List (Addr×Obj)}{s:Shared}{σ:St}{H:Hp}{R:V→V→Hp→Prop} (I:Inv X pins σ H s)
  (h:ta σ H fun x H1=>tb σ H1 fun y H2=>R x y H2){Q:Value→Shared→Prop}{f:Value→Value→Sem Value}
  (hf:∀ v u s2 x y H2,Inv X pins σ H2 s2→zaQ x v→zaQ y u→R x y H2→wpAny (model X.prog X.w) X.A (f v u) Q X.xe s2) :
  wpAny (model X.prog X.w) X.A (eval a X.env) (fun v s₁=>wpAny (model X.prog X.w) X.A (eval b X.env) (fun u s₂=>wpAny (model X.prog X.w) X.A (f v u) Q X.xe s₂) X.xe s₁) X.xe s:=by
 refine thn (ha pins s σ H _ I h) fun v s1=>L2.ex5 fun x H1 I1 r1 q1=>?_
 refine thn (hb pins s1 σ H1 _ I1 q1) fun u s2=>L2.ex5 fun y H2 I2 r2 q2=>?_
 exact hf v u s2 x y H2 I2 r1 r2 q2
theorem zaC {op:Operator}{r:R2} (ho:OpR X (binaryOp op) r) (ha:PE X a ta) (hb:PE X b tb):PE X (.BinOp a op b pos) (tOp r ta tb):=by
 intro pins s σ H Q I h
 exact wpAny_BinOp (binT ha hb I h fun v u s2 x y H2 I2 rx ry q=>ho pins s2 σ H2 x y v u Q I2 rx ry q)
theorem zkw {op:UnaryOp}{r:V→Hp→VK→Prop} (ho:UnR X (unaryOp op) r) (ha:PE X a ta):PE X (.UnaryOp op a pos) (tUn r ta):=by
 intro pins s σ H Q I h
 exact UnaryOp_ (thn (ha pins s σ H _ I h) fun v s1=>L2.ex5 fun x H1 I1 r1 q1=>ho pins s1 σ H1 x v Q I1 r1 q1)
theorem opI {f:Value→Value→Sem Value}{C:Int→Int→Prop}{g:Int→Int→Int}
  (rule:∀ (i j:Int) (t u:Tok) (s:Shared) (Q:Value→Shared→Prop) (E:Value→Shared→Prop),C i j→Q (.int (g i j) s.toks) { s with toks:=s.toks + 1 }→wpAny (model X.prog X.w) X.A (f (.int i t) (.int j u)) Q E s) :
  OpR X f (rI C fun i j=>.int (g i j)):=by
 intro pins s σ H x y v u Q I rx ry h
 obtain⟨i,j,rfl,rfl,hc,q⟩:=h
 obtain⟨t,rfl⟩:=rx
 obtain⟨t',rfl⟩:=ry
 exact rule i j t t' s _ _ hc ⟨.int (g i j),H,I.tok _,⟨_,rfl⟩,q⟩
theorem opI0 {f:Value→Value→Sem Value}{g:Int→Int→Int}
  (rule:∀ (i j:Int) (t u:Tok) (s:Shared) (Q:Value→Shared→Prop) (E:Value→Shared→Prop),Q (.int (g i j) s.toks) { s with toks:=s.toks + 1 }→wpAny (model X.prog X.w) X.A (f (.int i t) (.int j u)) Q E s) :
  OpR X f (rI0 fun i j=>.int (g i j)):=by
 intro pins s σ H x y v u Q I rx ry h
 obtain⟨i,j,rfl,rfl,q⟩:=h
 obtain⟨t,rfl⟩:=rx
 obtain⟨t',rfl⟩:=ry
 exact rule i j t t' s _ _ ⟨.int (g i j),H,I.tok _,⟨_,rfl⟩,q⟩
theorem opB0 {f:Value→Value→Sem Value}{g:Int→Int→Bool}
  (rule:∀ (i j:Int) (t u:Tok) (s:Shared) (Q:Value→Shared→Prop) (E:Value→Shared→Prop),Q (.bool (g i j)) s→wpAny (model X.prog X.w) X.A (f (.int i t) (.int j u)) Q E s) :
  OpR X f (rI0 fun i j=>.bl (g i j)):=by
 intro pins s σ H x y v u Q I rx ry h
 obtain⟨i,j,rfl,rfl,q⟩:=h
 obtain⟨t,rfl⟩:=rx
 obtain⟨t',rfl⟩:=ry
 exact rule i j t t' s _ _ ⟨.bl (g i j),H,I,rfl,q⟩
def CDiv (i j:Int):Prop:=0<j∧j<1073741824
def CPow (i j:Int):Prop:=0≤j∧j≤1000000∧i.natAbs<2 ^ 64
def CMul (i j:Int):Prop:=(-(2 ^ 64)<i∧i<2 ^ 64)∨(-(2 ^ 64)<j∧j<2 ^ 64)
theorem CMul.ok {i j:Int} (h:CMul i j):IntMulOk i j:=by
 rcases h with⟨h1,h2⟩|⟨h1,h2⟩
 ·exact .of_left (intBits_le_64 h1 h2)
 ·exact .of_right (intBits_le_64 h1 h2)
theorem zef:OpR X (binaryOp .Add) (rI0 fun i j=>.int (i + j)):=opI0 fun _ _ _ _ _ _ _ q=>add_int q
theorem zbC:OpR X (binaryOp .Sub) (rI0 fun i j=>.int (i - j)):=opI0 fun _ _ _ _ _ _ _ q=>sub_int q
theorem zcf:OpR X (binaryOp .Mult) (rI CMul fun i j=>.int (i * j)):=opI fun _ _ _ _ _ _ _ hc q=>mul_int q hc.ok
theorem zhu:OpR X (binaryOp .FloorDiv) (rI CDiv fun i j=>.int (i / j)):=opI fun i j _ _ _ _ _ hc q=>by
 have h1:(0:Int)<j:=hc.1
 have h2:j<1073741824:=hc.2
 exact floordiv_int (by omega) (by rw[Int.fdiv_eq_ediv_of_nonneg i (by omega)];exact q) (.inl (PyProof.noPylong_small (by omega)))
theorem zbL:OpR X (binaryOp .Mod) (rI (fun _ j=>0<j) fun i j=>.int (i % j)):=opI fun i j _ _ _ _ _ hc q=>by
 have h1:(0:Int)<j:=hc
 exact mod_int' (by omega) (by rw[Int.fmod_eq_emod_of_nonneg i (by omega)];exact q)
theorem zjV:OpR X (binaryOp .Pow) (rI CPow fun i j=>.int (i ^ j.toNat)):=opI fun _ _ _ _ _ _ _ hc q=>pow_int_small hc.1 hc.2.1 hc.2.2 q
theorem unI {f:Value→Sem Value}{g:Int→Int}
  (rule:∀ (i:Int) (t:Tok) (s:Shared) (Q:Value→Shared→Prop) (E:Value→Shared→Prop),Q (.int (g i) s.toks) { s with toks:=s.toks + 1 }→wpAny (model X.prog X.w) X.A (f (.int i t)) Q E s) :
  UnR X f (rU fun i=>.int (g i)):=by
 intro pins s σ H x v Q I rx h
 obtain⟨i,rfl,q⟩:=h
 obtain⟨t,rfl⟩:=rx
 exact rule i t s _ _ ⟨.int (g i),H,I.tok _,⟨_,rfl⟩,q⟩
theorem zhv:UnR X (unaryOp .USub) (rU fun i=>.int (-i)):=unI fun _ _ _ _ _ q=>neg_int q
end
def scal:V→V→Bool
 | .non,.non=>true | .non,.int _=>true | .int _,.non=>true | .non,.bl _=>true | .bl _,.non=>true | .non,.str _=>true | .str _,.non=>true
 | .int _,.int _=>true | .bl _,.bl _=>true | .str _,.str _=>true | .byt _,.byt _=>true
 | .int _,.str _=>true | .str _,.int _=>true | .bl _,.str _=>true | .str _,.bl _=>true
 | _,_=>false
def rEq:R2:=fun x y H Q=>scal x y=true∧Q (.bl (decide (x=y))) H
def rNe:R2:=fun x y H Q=>scal x y=true∧Q (.bl (!decide (x=y))) H
theorem zhw {i j:Int}:decide (V.int i=V.int j)=(i == j):=by
 rw[Bool.eq_iff_iff]
 simp
theorem zjW {i j:Bool}:decide (V.bl i=V.bl j)=(i == j):=by
 rw[Bool.eq_iff_iff]
 simp
theorem zhx {i j:Str}:decide (V.str i=V.str j)=(i == j):=by
 rw[Bool.eq_iff_iff]
 simp
theorem zhy {i j:Array UInt8}:decide (V.byt i=V.byt j)=(i.toList == j.toList):=by
 rw[Bool.eq_iff_iff]
 cases i
 cases j
 simp
section
variable {X:Cx}{a b c:Expr}{ta tb tc:TE}{pos:Pos}
theorem zaP {pins:List (Addr×Obj)}{σ:St}{H:Hp}{s:Shared}{Q:VK}{k k':Bool} (I:Inv X pins σ H s) (q:Q (.bl k) H) (e:k=k'):EP X pins σ Q (.bool k') s:=by
 subst e
 exact⟨.bl k,H,I,rfl,q⟩
theorem zc3:OpR X (compareOp .Eq) rEq:=by
 intro pins s σ H x y v u Q I rx ry h
 obtain⟨hs,q⟩:=h
 cases x with
 | non=>
  cases rx
  cases y with
  | non=>cases ry;exact PySem.EqNone.eq_none_none (zaP I q (by simp))
  | bl j=>cases ry;exact PySem.EqNone.eq_none_bool (zaP I q (by simp))
  | int j=>obtain⟨t',rfl⟩:=ry;exact PySem.EqNone.eq_none_int (zaP I q (by simp))
  | str j=>obtain⟨t',rfl⟩:=ry;exact PySem.EqNone.eq_none_str (zaP I q (by simp))
  | _=>exact absurd (show false=true from hs) Bool.false_ne_true
 | bl i=>
  cases rx
  cases y with
  | non=>cases ry;exact PySem.EqNone.eq_bool_none (zaP I q (by simp))
  | bl j=>cases ry;exact eq_bool (zaP I q zjW)
  | str j=>obtain⟨t',rfl⟩:=ry;exact PySem.EqMixed.eq_bool_str (zaP I q (by simp))
  | _=>exact absurd (show false=true from hs) Bool.false_ne_true
 | int i=>
  obtain⟨t,rfl⟩:=rx
  cases y with
  | non=>cases ry;exact PySem.EqNone.eq_int_none (zaP I q (by simp))
  | int j=>obtain⟨t',rfl⟩:=ry;exact eq_int (zaP I q zhw)
  | str j=>obtain⟨t',rfl⟩:=ry;exact PySem.EqMixed.eq_int_str (zaP I q (by simp))
  | _=>exact absurd (show false=true from hs) Bool.false_ne_true
 | str i=>
  obtain⟨t,rfl⟩:=rx
  cases y with
  | non=>cases ry;exact PySem.EqNone.eq_str_none (zaP I q (by simp))
  | bl j=>cases ry;exact PySem.EqMixed.eq_str_bool (zaP I q (by simp))
  | int j=>obtain⟨t',rfl⟩:=ry;exact PySem.EqMixed.eq_str_int (zaP I q (by simp))
  | str j=>obtain⟨t',rfl⟩:=ry;exact eq_str (zaP I q zhx)
  | _=>exact absurd (show false=true from hs) Bool.false_ne_true
 | byt i=>
  obtain⟨t,rfl⟩:=rx
  cases y with
  | byt j=>obtain⟨t',rfl⟩:=ry;exact PySem.W.eq_bytes (zaP I q zhy)
  | _=>exact absurd (show false=true from hs) Bool.false_ne_true
 | _=>cases y <;> exact absurd (show false=true from hs) Bool.false_ne_true
theorem zeD:OpR X (compareOp .NotEq) rNe:=by
 intro pins s σ H x y v u Q I rx ry h
 obtain⟨hs,q⟩:=h
 cases x with
 | non=>
  cases rx
  cases y with
  | non=>cases ry;exact PySem.EqNone.ne_none_none (zaP I q (by simp))
  | bl j=>cases ry;exact PySem.EqNone.ne_none_bool (zaP I q (by simp))
  | int j=>obtain⟨t',rfl⟩:=ry;exact PySem.EqNone.ne_none_int (zaP I q (by simp))
  | str j=>obtain⟨t',rfl⟩:=ry;exact PySem.EqNone.ne_none_str (zaP I q (by simp))
  | _=>exact absurd (show false=true from hs) Bool.false_ne_true
 | bl i=>
  cases rx
  cases y with
  | non=>cases ry;exact PySem.EqNone.ne_bool_none (zaP I q (by simp))
  | bl j=>cases ry;exact ne_bool (zaP I q (congrArg not zjW))
  | str j=>obtain⟨t',rfl⟩:=ry;exact PySem.EqMixed.ne_bool_str (zaP I q (by simp))
  | _=>exact absurd (show false=true from hs) Bool.false_ne_true
 | int i=>
  obtain⟨t,rfl⟩:=rx
  cases y with
  | non=>cases ry;exact PySem.EqNone.ne_int_none (zaP I q (by simp))
  | int j=>obtain⟨t',rfl⟩:=ry;exact ne_int (zaP I q (congrArg not zhw))
  | str j=>obtain⟨t',rfl⟩:=ry;exact PySem.EqMixed.ne_int_str (zaP I q (by simp))
  | _=>exact absurd (show false=true from hs) Bool.false_ne_true
 | str i=>
  obtain⟨t,rfl⟩:=rx
  cases y with
  | non=>cases ry;exact PySem.EqNone.ne_str_none (zaP I q (by simp))
  | bl j=>cases ry;exact PySem.EqMixed.ne_str_bool (zaP I q (by simp))
  | int j=>obtain⟨t',rfl⟩:=ry;exact PySem.EqMixed.ne_str_int (zaP I q (by simp))
  | str j=>obtain⟨t',rfl⟩:=ry;exact ne_str (zaP I q (congrArg not zhx))
  | _=>exact absurd (show false=true from hs) Bool.false_ne_true
 | byt i=>
  obtain⟨t,rfl⟩:=rx
  cases y with
  | byt j=>obtain⟨t',rfl⟩:=ry;exact PySem.W.ne_bytes (zaP I q (congrArg not zhy))
  | _=>exact absurd (show false=true from hs) Bool.false_ne_true
 | _=>cases y <;> exact absurd (show false=true from hs) Bool.false_ne_true
theorem zeE:OpR X (compareOp .Lt) (rI0 fun i j=>.bl (decide (i<j))):=opB0 fun _ _ _ _ _ _ _ q=>lt_int q
theorem op_le:OpR X (compareOp .LtE) (rI0 fun i j=>.bl (decide (i≤j))):=opB0 fun _ _ _ _ _ _ _ q=>le_int q
theorem zc4:OpR X (compareOp .Gt) (rI0 fun i j=>.bl (decide (j<i))):=opB0 fun _ _ _ _ _ _ _ q=>gt_int q
theorem op_ge:OpR X (compareOp .GtE) (rI0 fun i j=>.bl (decide (j≤i))):=opB0 fun _ _ _ _ _ _ _ q=>ge_int q
theorem zau (b:Expr){op:CmpOp} (h:op≠.In:=by decide) (h2:op≠.NotIn:=by decide):behindInMarks op b=false:=by
 have e1:(op == CmpOp.In)=false:=by cases op <;> first|rfl|exact absurd rfl h
 have e2:(op == CmpOp.NotIn)=false:=by cases op <;> first|rfl|exact absurd rfl h2
 cases b <;> simp[behindInMarks,e1,e2]
theorem zbM {op:CmpOp}{r:R2} (ho:OpR X (compareOp op) r) (ha:PE X a ta) (hb:PE X b tb) (hm:behindInMarks op b=false):PE X (.Compare a [op] [b] pos) (tOp r ta tb):=by
 intro pins s σ H Q I h
 exact wpAny_Compare1 (binT ha hb I h fun v u s2 x y H2 I2 rx ry q=>ho pins s2 σ H2 x y v u Q I2 rx ry q) hm
def tTest (t:TE):TT:=fun σ H Q=>t σ H fun x H'=>∃ k,x=.bl k∧Q k H'
theorem zaq {op:CmpOp}{r:R2} (ho:OpR X (compareOp op) r) (ha:PE X a ta) (hb:PE X b tb) (hm:behindInMarks op b=false):PT X (.Compare a [op] [b] pos) (tTest (tOp r ta tb)):=by
 intro pins s σ H Q I h
 refine wpAny_isTrue_Compare1 (thn (ha pins s σ H _ I h) fun v s1=>L2.ex5 fun x H1 I1 r1 q1=>thn (hb pins s1 σ H1 _ I1 q1) fun u s2=>L2.ex5 fun y H2 I2 r2 q2=>
  thn (ho pins s2 σ H2 x y v u _ I2 r1 r2 q2) fun c s3 ⟨z,H3,I3,r3,k,e,q3⟩=>?_) hm
 subst e
 cases r3
 exact wpAny_truthy_bool ⟨H3,I3,q3⟩
theorem zfh:(sizeLine:Nat)<2 ^ 63:=by rw[sizeLine_eq];decide
theorem zdw {x:V}{us:List Value} (r:zaX [x] us):∃ u,us=[u]∧zaQ x u:=by
 cases r with
 | cons r1 r2=>cases r2;exact⟨_,rfl,r1⟩
theorem zhz {x y:V}{us:List Value} (r:zaX [x,y] us):∃ u w',us=[u,w']∧zaQ x u∧zaQ y w':=by
 cases r with
 | cons r1 r2=>
  cases r2 with
  | cons r3 r4=>cases r4;exact⟨_,_,rfl,r1,r3⟩
theorem zi8:zc2 X (.builtin "abs") (fun xs H Q=>∃ i,xs=[.int i]∧Q (.int (if i<0 then -i else i)) H):=by
 intro pins s σ H xs us Q I r h
 obtain⟨i,rfl,q⟩:=h
 obtain⟨u,rfl,t,rfl⟩:=zdw r
 exact call_abs_int fun u tk=>⟨.int (if i<0 then -i else i),H,I.tok _,⟨_,rfl⟩,q⟩
end
end L2
namespace L2
open PySem PySem.Spec PyProof.Rows
structure zkx (h:Heap) (x dx C:Addr) (mA:Str→Option Value):Prop where
 obj:h.get? x=some (PySem.W.instObj C dx)
 ns:h.Ns1 dx mA
 ne:dx≠x
theorem zdK {h:Heap}{dx:Addr}{mA:Str→Option Value} (n:h.Ns1 dx mA):∃ od,h.get? dx=some od∧∀ name,PySem.W.lookIn name od=some (mA name):=by
 obtain⟨o,es,ep,ho,hd,hk,_,hm⟩:=n
 refine⟨o,ho,fun name=>?_⟩
 have e:=hm name
 unfold nsFind findBy at e
 rw[← Array.find?_toList] at e
 unfold PySem.W.lookIn
 rw[hd]
 dsimp only
 split
 ·rename_i y q
  rw[q] at e
  exact congrArg some e
 ·rename_i q
  rw[q] at e
  have a:es.toList.any (·.refKey)=false:=by
   rw[List.any_eq_false]
   intro y hy
   obtain⟨z,t,hkey⟩:=hk y (Array.mem_toList_iff.mp hy)
   simp[DictEntry.refKey,hkey]
  have a':¬ es.toList.any (·.refKey)=true:=by rw[a];exact Bool.false_ne_true
  rw[if_neg a']
  exact congrArg some e
theorem zkx.look {h:Heap}{x dx C:Addr}{mA:Str→Option Value} (I:zkx h x dx C mA):∃ od,PySem.W.InstAt h x (PySem.W.instObj C dx) C (some od)∧∀ name,PySem.W.lookIn name od=some (mA name):=
 let ⟨od,ho,hl⟩:=zdK I.ns
 ⟨od,⟨I.obj,rfl,rfl,ho⟩,hl⟩
section
variable {prog:Program}{w:World}{A:Around}{E:Value→Shared→Prop}{s:Shared}{K:PySem.W.Frag}{x dx C f:Addr}{mA:Str→Option Value}{name:Str}{v:Value}
theorem zky {expr:Bool}{Q:Value→Shared→Prop} (X:K.In s.heap) (I:zkx s.heap x dx C mA) (hg:PySem.W.plainGet K C name=true) (hh:PySem.W.hasDictIn K C=true)
  (ha:PySem.W.findIn K (.ref C) name=some none) (hv:mA name=some v) (hv':PySem.W.handedIn v=true) (h:Q v { s with toks:=s.toks + 1 }) :
  wpAny (model prog w) A (getAttr (.ref x) name expr) Q E s:=by
 obtain⟨od,J,hl⟩:=I.look
 exact PySem.W.get_value X J (PySem.W.plainGet_of hg).1 (PySem.W.findObj_own hh ha rfl (by rw[hl,hv])) hv' h
theorem zi9 {pl:Sem Bool}{Q:Value×List Value→Shared→Prop} (X:K.In s.heap) (I:zkx s.heap x dx C mA) (hg:PySem.W.plainGet K C name=true)
  (hf:PySem.W.findIn K (.ref C) name=some (some (.ref f))) (ht:PySem.W.isFn K (.ref f)=true) (hv:mA name=none) (h:Q (.ref f,[.ref x]) s) :
  wpAny (model prog w) A (getMethod (.ref x) name pl) Q E s:=by
 obtain⟨od,J,hl⟩:=I.look
 exact PySem.W.method_fn X J (PySem.W.plainGet_of hg).1 (PySem.W.plainGet_of hg).2 hf (beq_iff_eq.mp ht) (by show(PySem.W.lookIn name od).map (·.isSome)=some false;rw[hl,hv];rfl) h
theorem zkz {ns:List Str}{Q:Unit→Shared→Prop} (X:K.In s.heap) (I:zkx s.heap x dx C mA)
  (hs:PySem.W.findIn K (.ref C) "__setattr__"=some (some (.builtin "object.__setattr__"))) (hp:PySem.W.plainOver K C=true) (ht:PySem.W.takerIn K C name=some none) (hh:PySem.W.hasDictIn K C=true)
  (hw:PySem.Within mA ns) (hsz:ns.length≤sizeLine)
  (h:∀ h',zkx h' x dx C (fun y=>if y=name then some v else mA y)→Heap.SameBut dx s.heap h'→Q () { s with heap:=h',toks:=s.toks + 2 }) :
  wpAny (model prog w) A (setAttr (.ref x) name v) Q E s:=by
 obtain⟨od,J,hl⟩:=I.look
 refine PySem.W.set_plain X J hs (PySem.W.osa_open (s:={ s with toks:=s.toks + 1 }) (r:=none) X J hp ht fun b=>?_)
 obtain⟨cd,hc,hd'⟩:=PySem.W.any_some hh
 have hx:s.heap.get? x=some ⟨.ref C,some dx,.plain,#[]⟩:=I.obj
 refine wpAny_bind (wpAny_pure (wpAny_bind (wpAny_bind (wpAny_loadPart hx (wpAny_bind (PySem.W.Looks.here (s:={ s with toks:=s.toks + 1 }) (PySem.W.looks_clsIn X hc) ?_))))))
 rw[hd']
 refine wpAny_pure (a:=some dx) (wpAny_bind (wpAny_pure (wpAny_bind ?_)))
 refine wpAny_nsSet1 (s:={ s with toks:=s.toks + 1 }) I.ns fun h' hn2 hs2=>?_
 obtain⟨oD,esD,epD,hoD,hdD,hcD⟩:=hn2.count (PySem.Within.cons name v hw)
 refine wpAny_bind (wpAny_lookBehind hoD (by rw[hdD];exact pastItsLine_dict (Nat.le_trans hcD (by rw[List.length_cons];omega))) ?_)
 exact wpAny_pure (h _ ⟨(hs2.2 _ (Ne.symm I.ne)).trans I.obj,hn2,I.ne⟩ hs2)
theorem zja {R:Result→Shared→Prop}{vs:List Value}{kw:List (Str×Value)} (X:K.In s.heap) (hm:PySem.W.makesIn K C=true)
  (hi:PySem.W.findIn K (.ref C) "__init__"=some (some (.ref f))) (hf:PySem.W.typeIn K (.ref f)=some (.type "function"))
  (h:codeAny (model prog w) (A.under (.builtin "type.__call__" ⟨.ref C::vs,kw⟩)) (.call (.ref f) ⟨.ref (s.heap.objs.size + 1)::vs,kw⟩) (PySem.W.InitBack (s.heap.objs.size + 1) R)
   { s with heap:=(s.heap.push PySem.W.emptyDict).push (PySem.W.instObj C s.heap.objs.size) }) :
  codeAny (model prog w) A (.call (.ref C) ⟨vs,kw⟩) R s:=by
 obtain⟨hh,g,d,t,os⟩:=s
 exact PySem.W.make_core (PySem.W.makes_of X hm) (PySem.W.looks_findIn X hi) (fun self=>PySem.W.bind_fn X self hf) (.inl rfl) h
end
def zcl (f:Str) (v:V):List (Str×V)→List (Str×V)
 | []=>[(f,v)]
 | (g,x)::r=>if g=f then(g,v)::r else(g,x)::zcl f v r
theorem zdL (f g:Str) (v:V):∀ fs:List (Str×V),(zcl f v fs).lookup g=if g=f then some v else fs.lookup g
 | []=>by
  show List.lookup g [(f,v)]=_
  by_cases h:g=f
  ·have hb:(g == f)=true:=beq_iff_eq.mpr h
   simp only[List.lookup,hb,if_pos h]
  ·have hb:(g == f)=false:=beq_eq_false_iff_ne.mpr h
   simp only[List.lookup,hb,if_neg h]
 | (k,x)::r=>by
  have ih:=zdL f g v r
  rw[show zcl f v ((k,x)::r)=(if k=f then(k,v)::r else(k,x)::zcl f v r) from rfl]
  by_cases hk:k=f
  ·rw[if_pos hk]
   by_cases h:g=k
   ·have hb:(g == k)=true:=beq_iff_eq.mpr h
    simp only[List.lookup,hb,if_pos (h.trans hk)]
   ·have hb:(g == k)=false:=beq_eq_false_iff_ne.mpr h
    simp only[List.lookup,hb,if_neg (fun e:g=f=>h (e.trans hk.symm))]
  ·rw[if_neg hk]
   by_cases h:g=k
   ·have hb:(g == k)=true:=beq_iff_eq.mpr h
    simp only[List.lookup,hb,if_neg (fun e:g=f=>hk (h.symm.trans e))]
   ·have hb:(g == k)=false:=beq_eq_false_iff_ne.mpr h
    simp only[List.lookup,hb]
    exact ih
theorem zdM (f:Str) (v:V):∀ fs:List (Str×V),f∈(zcl f v fs).map (·.1)∧∀ g,g∈fs.map (·.1)→g∈(zcl f v fs).map (·.1)
 | []=>⟨by simp[zcl],fun g h=>by simp at h⟩
 | (k,x)::r=>by
  obtain⟨i1,i2⟩:=zdM f v r
  rw[show zcl f v ((k,x)::r)=(if k=f then(k,v)::r else(k,x)::zcl f v r) from rfl]
  by_cases hk:k=f
  ·rw[if_pos hk]
   subst hk
   exact⟨by simp,fun g h=>by simpa using h⟩
  ·rw[if_neg hk]
   refine⟨?_,fun g h=>?_⟩
   ·rw[List.map_cons]
    exact List.mem_cons_of_mem _ i1
   ·rw[List.map_cons] at h ⊢
    rcases List.mem_cons.mp h with e|e
    ·exact List.mem_cons.mpr (.inl e)
    ·exact List.mem_cons_of_mem _ (i2 g e)
theorem zdN (f:Str) (v:V):∀ fs:List (Str×V),(zcl f v fs).length≤fs.length + 1
 | []=>by simp[zcl]
 | (k,x)::r=>by
  have ih:=zdN f v r
  rw[show zcl f v ((k,x)::r)=(if k=f then(k,v)::r else(k,x)::zcl f v r) from rfl]
  by_cases hk:k=f
  ·rw[if_pos hk,List.length_cons,List.length_cons];omega
  ·rw[if_neg hk,List.length_cons,List.length_cons];omega
theorem zec.some_of {v:V}{o:Option Value} (r:zec (some v) o):∃ u,o=some u∧zaQ v u:=by
 cases o with
 | none=>exact(show False from r).elim
 | some u=>exact⟨u,rfl,r⟩
theorem zec.none_of {o:Option Value} (r:zec none o):o=none:=by
 cases o with
 | none=>rfl
 | some u=>exact(show False from r).elim
theorem zfi {v:V}{u:Value} (r:zaQ v u):PySem.W.handedIn u=true:=by
 cases v with
 | non=>cases (show u=Value.none from r);rfl
 | bl b=>cases (show u=Value.bool b from r);rfl
 | int i=>obtain⟨t,e⟩:=(show ∃ t,u=Value.int i t from r);cases e;rfl
 | str x=>obtain⟨t,e⟩:=(show ∃ t,u=Value.str x t from r);cases e;rfl
 | byt b=>obtain⟨t,e⟩:=(show ∃ t,u=Value.bytes b t from r);cases e;rfl
 | flt b=>obtain⟨t,e⟩:=(show ∃ t,u=Value.float b t from r);cases e;rfl
 | ref a=>cases (show u=Value.ref a from r);rfl
 | ty n=>cases (show u=Value.type n from r);rfl
section
variable {P:Program}{w:World}{H H':Hp}{h h':Heap}{a C dx:Addr}{fs fs':List (Str×V)}
theorem zeF (hok:HOk P w H h) (e:H a=some (.ins C dx fs)):∃ mA,zkx h a dx C mA∧(∀ f,zec (fs.lookup f) (mA f))∧PySem.Within mA (fs.map (·.1))∧fs.length≤1000∧H dx=some (.own a):=by
 obtain⟨d,z,ne,ob,mA,n,r,q⟩:=(show zbt P w H h a (.ins C dx fs) from hok a _ e)
 exact⟨mA,⟨ob,n,ne⟩,r,q,z,d⟩
end
structure Cls (K:PySem.W.Frag) (C:Addr):Prop where
 pg:PySem.W.plainGet K C Str.empty=true
 hd:PySem.W.hasDictIn K C=true
 po:PySem.W.plainOver K C=true
 sa:PySem.W.findIn K (.ref C) "__setattr__"=some (some (.builtin "object.__setattr__"))
theorem Cls.get {K:PySem.W.Frag}{C:Addr} (c:Cls K C) (f:Str):PySem.W.plainGet K C f=true:=c.pg
def zbU (K:PySem.W.Frag) (C:Addr) (f:Str):Prop:=PySem.W.findIn K (.ref C) f=some none
theorem zbU.taker {K:PySem.W.Frag}{C:Addr}{f:Str} (n:zbU K C f):PySem.W.takerIn K C f=some none:=by
 unfold PySem.W.takerIn
 rw[show PySem.W.findIn K (.ref C) f=some none from n]
 rfl
structure Con (K:PySem.W.Frag) (C:Addr) (f:Str) (v:V) (u:Value):Prop where
 at_:PySem.W.findIn K (.ref C) f=some (some u)
 rel:zaQ v u
 get:PySem.W.specialIn K u "__get__"=some none
 cp:PySem.W.copiedNames.contains f=false
structure Meth (K:PySem.W.Frag) (C:Addr) (m:Str) (f:Addr):Prop where
 at_:PySem.W.findIn K (.ref C) m=some (some (.ref f))
 fn:PySem.W.isFn K (.ref f)=true
 kp:PySem.W.keepIn K (.ref f)=true
section
variable {X:Cx}{pins:List (Addr×Obj)}{σ:St}{H:Hp}{s:Shared}{a C dx:Addr}{fs:List (Str×V)}{f:Str}{v:V}{A:Around}{E:Value→Shared→Prop}
theorem zgU {b:Bool}{Q:Value→Shared→Prop} (I:Inv X pins σ H s) (e:H a=some (.ins C dx fs)) (c:Cls X.K C) (n:zbU X.K C f) (l:fs.lookup f=some v)
  (h:∀ u s',Inv X pins σ H s'→zaQ v u→Q u s'):wpAny (model X.prog X.w) A (getAttr (.ref a) f b) Q E s:=by
 obtain⟨mA,O,r,_,_,_⟩:=zeF I.hok e
 obtain⟨u,hu,ru⟩:=zec.some_of (v:=v) (o:=mA f) (by rw[← l];exact r f)
 exact zky I.kIn O (c.get f) c.hd n hu (zfi ru) (h u _ (I.tok _) ru)
theorem zgV {m:Str}{g:Addr}{pl:Sem Bool}{Q:Value×List Value→Shared→Prop} (I:Inv X pins σ H s) (e:H a=some (.ins C dx fs)) (c:Cls X.K C) (k:Meth X.K C m g) (l:fs.lookup m=none)
  (h:Q (.ref g,[.ref a]) s):wpAny (model X.prog X.w) A (getMethod (.ref a) m pl) Q E s:=by
 obtain⟨mA,O,r,_,_,_⟩:=zeF I.hok e
 have hn:mA m=none:=zec.none_of (by rw[← l];exact r m)
 exact zi9 I.kIn O (c.get m) k.at_ k.fn hn h
theorem zgW {y:V}{u:Value}{Q:Unit→Shared→Prop} (I:Inv X pins σ H s) (e:H a=some (.ins C dx fs)) (c:Cls X.K C) (n:zbU X.K C f) (hl:fs.length<1000) (ry:zaQ y u)
  (h:∀ s',Inv X pins σ (upd H a (.ins C dx (zcl f y fs))) s'→Q () s'):wpAny (model X.prog X.w) A (setAttr (.ref a) f u) Q E s:=by
 obtain⟨mA,O,r,wi,_,ho⟩:=zeF I.hok e
 have hz:(fs.map (·.1)).length≤sizeLine:=by rw[List.length_map,sizeLine_eq];omega
 refine zkz I.kIn O c.sa c.po n.taker c.hd wi hz fun h' O' sb=>h _ ?_
 have hd:∃ o,h'.get? dx=some o:=let ⟨o,_,_,e',_⟩:=O'.ns;⟨o,e'⟩
 refine I.write (x:=a) (e:=dx) (by rw[e];exact True.intro) (.inr ho) (fun b q hb z=>(sb.2 b hb).trans z) hd ?_
 refine⟨by rw[zag O.ne];exact ho,?_,O.ne,O'.obj,_,O'.ns,fun g=>?_,fun g hg=>?_⟩
 ·have:=zdN f y fs;omega
 ·show zec ((zcl f y fs).lookup g) (if g=f then some u else mA g)
  rw[zdL]
  by_cases q:g=f
  ·rw[if_pos q,if_pos q];exact ry
  ·rw[if_neg q,if_neg q];exact r g
 ·by_cases q:g=f
  ·rw[q];exact(zdM f y fs).1
  ·refine(zdM f y fs).2 g (wi g fun z=>hg ?_)
   show(if g=f then some u else mA g)=none
   rw[if_neg q];exact z
theorem Inv.made (I:Inv X pins σ H s):Inv X pins σ (upd (upd H s.heap.objs.size (.own (s.heap.objs.size + 1))) (s.heap.objs.size + 1) (.ins C s.heap.objs.size []))
  { s with heap:=(s.heap.push PySem.W.emptyDict).push (PySem.W.instObj C s.heap.objs.size) }:=by
 have e1:(s.heap.push PySem.W.emptyDict).get? s.heap.objs.size=some PySem.W.emptyDict:=Heap.get?_push_size s.heap rfl
 have e2:((s.heap.push PySem.W.emptyDict).push (PySem.W.instObj C s.heap.objs.size)).get? (s.heap.objs.size + 1)=some (PySem.W.instObj C s.heap.objs.size):=by
  have:=Heap.get?_push_size (s.heap.push PySem.W.emptyDict) (o:=PySem.W.instObj C s.heap.objs.size) rfl
  rwa [Heap.size_push] at this
 have e3:(s.heap.push PySem.W.emptyDict).Ns s.heap.objs.size (fun _=>none):=⟨PySem.W.emptyDict,#[],_,e1,rfl,(fun e he=>absurd he (by simp)),fun _=>rfl⟩
 have I1:=I.laid (a:=s.heap.objs.size) (o:=.own (s.heap.objs.size + 1)) (h':=s.heap.push PySem.W.emptyDict) (t':=s.toks) (fun b u q=>Heap.get?_push_of_some _ q) (Nat.le_refl _) ⟨_,e1⟩
 refine I1.laid (a:=s.heap.objs.size + 1) (o:=.ins C s.heap.objs.size []) (t':=s.toks) (fun b u q=>Heap.get?_push_of_some _ q) (Nat.le_of_eq (Heap.size_push _ _)) ?_
 have ne:s.heap.objs.size≠s.heap.objs.size + 1:=Nat.ne_of_lt (Nat.lt_succ_self _)
 refine⟨by rw[zag ne,zaa],Nat.zero_le _,ne,e2,fun _=>none,(Heap.Ns1.of_empty e3).at fun o q=>Heap.get?_push_of_some _ q,fun _=>True.intro,fun y hy=>absurd rfl hy⟩
theorem zhA {prog:Program}{w:World}{env:Env}{e:Expr}{f:Str}{pos:Pos}{s:Shared}{Q:Value→Shared→Prop} (hb:attributeBase e f env (eval e env)=eval e env)
  (h:wpAny (model prog w) A (eval e env) (fun o s₁=>wpAny (model prog w) A (getAttr o f true) Q E s₁) E s):wpAny (model prog w) A (eval (.Attribute e f pos) env) Q E s:=
 Attribute_any_ h (by rw[arm_eval_Attribute,hb])
end
def tFld (K:PySem.W.Frag) (ta:TE) (f:Str):TE:=fun σ H Q=>ta σ H fun x H1=>∃ a C dx fs v,x=.ref a∧H1 a=some (.ins C dx fs)∧Cls K C∧zbU K C f∧fs.lookup f=some v∧Q v H1
def sFld (K:PySem.W.Frag) (ta tv:TE) (f:Str):TS:=fun D σ H=>tv σ H fun y H1=>ta σ H1 fun x H2=>∃ a C dx fs,x=.ref a∧H2 a=some (.ins C dx fs)∧Cls K C∧zbU K C f∧fs.length<1000 ∧
 D.nx σ (upd H2 a (.ins C dx (zcl f y fs)))
section
variable {X:Cx}{o e value:Expr}{f:Str}{pos pos' tpos:Pos}{ta tv:TE}
theorem zaJ (he:PE X e ta) (hb:attributeBase e f X.env (eval e X.env)=eval e X.env):PE X (.Attribute e f pos) (tFld X.K ta f):=by
 intro pins s σ H Q I h
 refine zhA hb (thn (he pins s σ H _ I h) fun u s1=>L2.ex5 fun x H1 I1 rx hq_=>?_)
 obtain⟨a,C,dx,fs,v,ex,ea,c,n,l,q⟩:=hq_
 subst ex
 obtain rfl:u=Value.ref a:=rx
 exact zgU I1 ea c n l fun u' s2 I2 ru=>⟨v,H1,I2,ru,q⟩
theorem zcK (ha:PE X o ta) (hv:PE X value tv) (hs:swapsWith value (some (.Attribute o f pos')) pos.line X.env=pure false):PS X (.Assign [.Attribute o f pos'] value pos) (sFld X.K ta tv f):=by
 intro pins s σ H D I h
 refine plainObj_wpAny_Assign_Attribute (thn (hv pins s σ H _ I h) fun u s1=>L2.ex5 fun y H1 I1 ry q=>thn (ha pins s1 σ H1 _ I1 q) fun ov s2=>L2.ex5 fun x H2 I2 rx hq_=>?_) hs
 obtain⟨a,C,dx,fs,ex,ea,c,n,l,q2⟩:=hq_
 subst ex
 obtain rfl:ov=Value.ref a:=rx
 exact zgW I2 ea c n l ry fun s3 I3=>⟨σ,_,I3,q2⟩
end
section
variable {X:Cx}{pins:List (Addr×Obj)}{σ:St}{H:Hp}{s:Shared}{A:Around}{E:Value→Shared→Prop}{Q:Value→Shared→Prop}{c:Value}{b:Bool}
inductive zgk (K:PySem.W.Frag) (H:Hp):V→Value→Prop where
 | non:zgk K H .non (.type "NoneType")
 | bl (x:Bool):zgk K H (.bl x) (.type "bool")
 | int (i:Int):zgk K H (.int i) (.type "int")
 | str (x:Str):zgk K H (.str x) (.type "str")
 | flt (x:UInt64):zgk K H (.flt x) (.type "float")
 | lst {a:Addr}{xs:List V} (e:H a=some (.lst xs)):zgk K H (.ref a) (.type "list")
 | frz {a:Addr}{o:Obj}{xs:List V} (e:H a=some (.frz o (.lst xs))):zgk K H (.ref a) (.type "list")
 | tup {a:Addr}{xs:List V} (e:H a=some (.tup xs)):zgk K H (.ref a) (.type "tuple")
 | dK {a:Addr}{kvs:List (Key×V)} (e:H a=some (.dK kvs)):zgk K H (.ref a) (.type "dict")
 | dT {a:Addr}{kvs:List (List Key×V)} (e:H a=some (.dT kvs)):zgk K H (.ref a) (.type "dict")
 | ins {a C dx:Addr}{fs:List (Str×V)} (e:H a=some (.ins C dx fs)) (cl:Cls K C) (ha:PySem.W.findIn K (.ref C) "__class__"=some (some (.builtin "object.__class__")))
   (hn:PySem.W.specialIn K (.builtin "object.__class__") "__get__"=some (some (.builtin "getset_descriptor.__get__"))) (htk:PySem.W.takesIn K (.builtin "object.__class__")=some true)
   (hm:PySem.W.mroIn K C (.type "object")=some true):zgk K H (.ref a) (.ref C)
theorem zhB {x:V}{u t:Value} (I:Inv X pins σ H s) (rx:zaQ x u) (ty:zgk X.K H x t) (e:PySem.W.kitOne X.K t c=some b) (h:∀ tk,Q (.bool b) { s with toks:=tk }) :
  wpAny (model X.prog X.w) A (call (.builtin "isinstance") [u,c]) Q E s:=by
 cases ty with
 | non=>cases (show u=Value.none from rx);exact PySem.W.kia_one PySem.W.kitx_none I.kIn True.intro e (fun z=>nomatch z) h
 | bl y=>cases (show u=Value.bool y from rx);exact PySem.W.kia_one PySem.W.kitx_bool I.kIn True.intro e (fun z=>nomatch z) h
 | int i=>obtain⟨t,q⟩:=(show ∃ t,u=Value.int i t from rx);cases q;exact PySem.W.kia_one PySem.W.kitx_int I.kIn True.intro e (fun z=>nomatch z) h
 | str y=>obtain⟨t,q⟩:=(show ∃ t,u=Value.str y t from rx);cases q;exact PySem.W.kia_one PySem.W.kitx_str I.kIn True.intro e (fun z=>nomatch z) h
 | flt y=>obtain⟨t,q⟩:=(show ∃ t,u=Value.float y t from rx);cases q;exact PySem.W.kia_one PySem.W.kitx_float I.kIn True.intro e (fun z=>nomatch z) h
 | @lst a xs ea=>
  cases (show u=Value.ref a from rx)
  obtain⟨_,_,n,_,h1⟩:=(show zbt X.prog X.w H s.heap a (.lst xs) from I.hok a _ ea)
  exact PySem.W.kia_one PySem.W.kitx_list I.kIn ⟨_,h1,rfl⟩ e (fun z=>nomatch z) h
 | @frz a ob xs ea=>
  cases (show u=Value.ref a from rx)
  obtain⟨_,_,_,n,_,h1⟩:=(show zbt X.prog X.w H s.heap a (.frz ob (.lst xs)) from I.hok a _ ea)
  exact PySem.W.kia_one PySem.W.kitx_list I.kIn ⟨_,h1,rfl⟩ e (fun z=>nomatch z) h
 | @tup a xs ea=>
  cases (show u=Value.ref a from rx)
  obtain⟨_,_,_,p⟩:=(show zbt X.prog X.w H s.heap a (.tup xs) from I.hok a _ ea)
  obtain⟨o,h1,h2,_⟩:=p
  exact PySem.W.kia_one PySem.W.kitx_tuple I.kIn ⟨o,h1,h2⟩ e (fun z=>nomatch z) h
 | @dK a kvs ea=>
  cases (show u=Value.ref a from rx)
  obtain⟨_,_,vs,_,p⟩:=(show zbt X.prog X.w H s.heap a (.dK kvs) from I.hok a _ ea)
  obtain⟨o,es,ep,h1,h2,_⟩:=p
  exact PySem.W.kia_one PySem.W.kitx_dict I.kIn ⟨o,h1,h2.1⟩ e (fun z=>nomatch z) h
 | @dT a kvs ea=>
  cases (show u=Value.ref a from rx)
  obtain⟨_,_,xs,_,o,es,ep,h1,h2,_⟩:=(show zbt X.prog X.w H s.heap a (.dT kvs) from I.hok a _ ea)
  exact PySem.W.kia_one PySem.W.kitx_dict I.kIn ⟨o,h1,h2.1⟩ e (fun z=>nomatch z) h
 | @ins a C dx fs ea cl ha hn htk hm=>
  cases (show u=Value.ref a from rx)
  obtain⟨mA,O,_⟩:=zeF I.hok ea
  obtain⟨od,J,_⟩:=O.look
  exact PySem.W.kia_one (PySem.W.kitx_own (cl.get _) cl.hd ha hn htk hm) I.kIn J e (fun z=>nomatch z) h
end
end L2
namespace L2
open PySem PySem.Spec PyProof.Rows
structure zb9 (k:Nat) (A:Around):Prop where
 dp:A.depth + 3 * k + 5<recursionLimit
 un:A.units + 16 * k + 200<cLine
theorem zb9.mono {j k:Nat}{A:Around} (r:zb9 k A) (h:j≤k):zb9 j A:=⟨by have:=r.dp;omega,by have:=r.un;omega⟩
theorem zb9.deeper {k:Nat}{A:Around} (r:zb9 (k + 1) A) (env:Env):zb9 k (A.deeper env):=
 ⟨by have:=r.dp;show A.depth + 1 + 3 * k + 5<_;omega,by have:=r.un;show A.units + 3 + 16 * k + 200<_;omega⟩
theorem zb9.in1 {k:Nat}{A:Around} (r:zb9 (k + 1) A):zb9 k A.in1:=
 ⟨by have:=r.dp;show A.depth + 3 * k + 5<_;omega,by have:=r.un;show A.units + 1 + 16 * k + 200<_;omega⟩
theorem zgX {A:Around}{C:Addr}{us:List Value}{kw:List (Str×Value)}:(A.under (.builtin "type.__call__" ⟨.ref C::us,kw⟩)).depth=A.depth + 1:=by
 first|rfl|simp[Around.under,Code.weight,Code.isCreation,Code.isGuard,Code.isCaller,Code.frames,Code.isFrame,guardIds]
theorem zgY {A:Around}{C:Addr}{us:List Value}{kw:List (Str×Value)}:(A.under (.builtin "type.__call__" ⟨.ref C::us,kw⟩)).units=A.units + 1:=by
 first|rfl|simp[Around.under,Code.cUnits,Code.frames,Code.isFrame]
theorem zb9.make {k:Nat}{A:Around} (r:zb9 (k + 1) A) (C:Addr) (us:List Value) (kw:List (Str×Value)):zb9 k (A.under (.builtin "type.__call__" ⟨.ref C::us,kw⟩)):=
 ⟨by have:=r.dp;rw[zgX];omega,by have:=r.un;rw[zgY];omega⟩
theorem zb9.depth {k:Nat}{A:Around} (r:zb9 k A):A.depth<recursionLimit:=by have:=r.dp;omega
theorem zb9.units {k:Nat}{A:Around} (r:zb9 k A):A.units + 64<cLine:=by have:=r.un;omega
def tNil:TA:=fun _ H Q=>Q [] H
def tCons (ta:TE) (tr:TA):TA:=fun σ H Q=>ta σ H fun x H1=>tr σ H1 fun xs H2=>Q (x::xs) H2
section
variable {X:Cx}{e:Expr}{es:List Expr}{te:TE}{t:TA}{pos:Pos}
theorem zah:PA X [] tNil:=fun _ _ _ _ H Q I h=>Calls.spliced_nil ⟨[],H,I,.nil,h⟩
theorem zab (ha:PE X e te) (hr:PA X es t) (hs:starEach (e::es) X.env=(false,eval e X.env)::starEach es X.env:=by rfl):PA X (e::es) (tCons te t):=by
 intro pos pins s σ H Q I h
 rw[hs]
 show wpAny _ _ (spliced ((false,eval e X.env)::backTo pos (starEach es X.env))) _ _ s
 refine Calls.spliced_cons (thn (ha pins s σ H _ I h) fun u s1=>L2.ex5 fun x H1 I1 r1 q1=>?_)
 exact thn (hr pos pins s1 σ H1 _ I1 q1) fun us s2 ⟨xs,H2,I2,r2,q2⟩=>⟨x::xs,H2,I2,.cons r1 r2,q2⟩
def tTup (t:TA):TE:=fun σ H Q=>t σ H fun xs H1=>xs.length≤sizeLine∧∀ p,H1 p=none→Q (.ref p) (upd H1 p (.tup xs))
def tLst (t:TA):TE:=fun σ H Q=>t σ H fun xs H1=>xs.length≤sizeLine∧∀ p,H1 p=none→Q (.ref p) (upd H1 p (.lst xs))
theorem zfj {x1} (h:PA X es t):PE X (.Tuple es x1 pos) (tTup t):=by
 intro pins s σ H Q I hq
 refine wpAny_Tuple_spliced (thn (h pos pins s σ H _ I hq) fun us s1 ⟨xs,H1,I1,r,z,q⟩=>⟨by rw[← r.length];exact z,?_⟩)
 have hf:H1 s1.heap.objs.size=none:=I1.hok.fresh (Nat.le_refl _)
 refine⟨.ref s1.heap.objs.size,upd H1 s1.heap.objs.size (.tup xs),I1.laid (t':=s1.toks) (fun b u e=>Heap.get?_push_of_some _ e) (Nat.le_refl _) ?_,rfl,q _ hf⟩
 exact⟨z,us,r,⟨_,Heap.get?_push_size _ rfl,rfl,_,rfl⟩⟩
theorem zcg (h:PA X es t):PE X (.List es pos) (tLst t):=by
 intro pins s σ H Q I hq
 refine wpAny_List_spliced (thn (h pos pins s σ H _ I hq) fun us s1 ⟨xs,H1,I1,r,z,q⟩=>⟨by rw[← r.length];exact z,?_⟩)
 have hf:H1 s1.heap.objs.size=none:=I1.hok.fresh (Nat.le_refl _)
 refine⟨.ref s1.heap.objs.size,upd H1 s1.heap.objs.size (.lst xs),I1.laid (t':=s1.toks) (fun b u e=>Heap.get?_push_of_some _ e) (Nat.le_refl _) ?_,rfl,q _ hf⟩
 exact⟨z,us,0,r,Heap.get?_push_size _ rfl⟩
end
abbrev Sp:=List V→Hp→VK→XK→Prop
abbrev CXT:=List Env→Hp→Shared→XK→Value→Shared→Prop
structure zkA (P:Program) (w:World) (K:PySem.W.Frag) (mg:Str→Option Value) (base:Heap) (A:Around) (outer:List Env) (s:Shared) (H:Hp):Prop where
 frames:A.frames=some outer
 mod:Mod K mg base
 bs:∀ b o,base.get? b=some o→s.heap.get? b=some o∧H b=none
 bsz:base.objs.size≤s.heap.objs.size
 funs:s.heap.FunFrames base outer
 frf:∀ b∈frs outer,H b=none
 hok:HOk P w H s.heap
 bare:AllBare s.gens
 hd:zhf A H
def CE (outer:List Env) (P:Program) (w:World) (H:Hp) (s:Shared) (Q:VK) (u:Value) (s':Shared):Prop:=
 ∃ v H',s'.os=s.os∧AllBare s'.gens∧Un (frs outer) [] H H' s.heap s'.heap∧HOk P w H' s'.heap∧zaQ v u∧Q v H'
def CR (CX:CXT) (outer:List Env) (P:Program) (w:World) (H:Hp) (s:Shared) (Q:VK) (E:XK) (r:Result) (s':Shared):Prop:=
 match r with
 | .ok (.ret u)=>CE outer P w H s Q u s'
 | .ok _=>False
 | .error e=>CX outer H s E e s'
structure zdx (P:Program) (w:World) (K:PySem.W.Frag) (mg:Str→Option Value) (base:Heap) (CX:CXT) (k:Nat) (f:Addr) (fd:FuncData) (ps:List Str) (sp:Sp):Prop where
 len:∀ vs H Q E,sp vs H Q E→vs.length=ps.length
 run:∀ (A:Around) (outer:List Env) (s:Shared) (H:Hp) (args:Args) (us:List Value) (vs:List V) (Q:VK) (E:XK),zb9 k A→zkA P w K mg base A outer s H→BindsTo s fd args (ps.zip us)→zaX vs us→sp vs H Q E →
  codeAny (model P w) A (.call (.ref f) args) (CR CX outer P w H s Q E) s
theorem zkA.make {P:Program}{w:World}{K:PySem.W.Frag}{mg:Str→Option Value}{base:Heap}{A:Around}{outer:List Env}{s:Shared}{H:Hp} (e:zkA P w K mg base A outer s H) (C:Addr) (us:List Value) (kw:List (Str×Value)) :
  zkA P w K mg base (A.under (.builtin "type.__call__" ⟨.ref C::us,kw⟩)) outer s H:=⟨by first|exact e.frames|(simpa [Around.under,Code.envs,Code.isFrame,pushEnvs] using e.frames),e.mod,e.bs,e.bsz,e.funs,e.frf,e.hok,e.bare,e.hd⟩
section
variable {X:Cx}{pins:List (Addr×Obj)}{σ:St}{H:Hp}{s s':Shared}
theorem Inv.env0 (I:Inv X pins σ H s):zkA X.prog X.w X.K X.mg X.base X.A X.stack s H:=
 ⟨I.ok.frames,I.ok.mod,I.bs,Nat.le_trans I.ok.bsz I.sz,I.stack,I.stkFree,I.hok,I.bare,I.hdAt⟩
theorem Inv.after {Q:VK}{u:Value} (I:Inv X pins σ H s) (h:CE X.stack X.prog X.w H s Q u s'):EP X pins σ Q u s':=by
 obtain⟨v,H',os,bare,un,hok,r,q⟩:=h
 obtain⟨hh,g,d,t,os'⟩:=s'
 obtain rfl:os'=s.os:=os
 exact⟨v,H',I.call (h':=hh) (g':=g) (d':=d) (t':=t) (ch:=[]) un hok bare (fun b z=>absurd z (by simp)),r,q⟩
end
def tCall (sp:Sp) (dvs:List V) (E:XK) (t:TA):TE:=fun σ H Q=>t σ H fun vs H1=>sp (vs++dvs) H1 Q E
def tMeth (C:Addr) (m:Str) (sp:Sp) (dvs:List V) (E:XK) (ta:TE) (t:TA):TE:=fun σ H Q=>ta σ H fun x H1=>∃ a dx fs,x=.ref a∧H1 a=some (.ins C dx fs)∧fs.lookup m=none ∧
 t σ H1 fun vs H2=>sp (x::(vs++dvs)) H2 Q E
def tMake (C:Addr) (sp:Sp) (dvs:List V) (E:XK) (t:TA):TE:=fun σ H Q=>t σ H fun vs H1=>∀ x dx,H1 x=none→H1 dx=none→dx≠x →
 sp (.ref x::(vs++dvs)) (upd (upd H1 dx (.own x)) x (.ins C dx [])) (fun v H2=>v=.non∧Q (.ref x) H2) E
def zcq (K:PySem.W.Frag) (fd:FuncData) (ps:List Str) (ds:List Value):Prop:=
 ∀ (s:Shared) (us:List Value),K.In s.heap→(us++ds).length=ps.length→BindsTo s fd ⟨us,[]⟩ (ps.zip (us++ds))
theorem zcq.all {K:PySem.W.Frag}{fd:FuncData}{ps:List Str} (h:∀ us:List Value,us.length=ps.length→bindArgs fd ⟨us,[]⟩=pure (ps.zip us)):zcq K fd ps []:=fun s us _ hl=>by
 rw[List.append_nil] at hl ⊢
 exact .of_eq (h us hl)
def zdO (CX:CXT) (X:Cx) (E:XK):Prop:=∀ (pins:List (Addr×Obj)) (σ:St) (H:Hp) (s:Shared) (e:Value) (s':Shared),Inv X pins σ H s→CX X.stack H s E e s'→X.xe e s'
section
variable {X:Cx}{CX:CXT}{k:Nat}{f C:Addr}{fd:FuncData}{ps:List Str}{sp:Sp}{dvs:List V}{ds:List Value}{E:XK}{x m:Str}{p pos apos:Pos}{e o:Expr}{es:List Expr}{ta:TE}{t:TA}
theorem zjX {pins:List (Addr×Obj)}{σ:St}{H:Hp}{s:Shared}{Q:VK}{us:List Value}{vs:List V} (F:zdx X.prog X.w X.K X.mg X.base CX k f fd ps sp) (hr:zb9 k X.A) (hb:zcq X.K fd ps ds) (hd:zaX dvs ds) (hx:zdO CX X E)
  (I:Inv X pins σ H s) (r:zaX vs us) (h:sp (vs++dvs) H Q E):wpAny (model X.prog X.w) X.A (call (.ref f) us) (EP X pins σ Q) X.xe s:=by
 have r2:zaX (vs++dvs) (us++ds):=r.append hd
 have hl:(us++ds).length=ps.length:=by rw[← r2.length];exact F.len _ _ _ _ h
 refine wpAny_call (codeAny_mono (F.run X.A X.stack s H ⟨us,[]⟩ (us++ds) (vs++dvs) Q E hr I.env0 (hb s us I.kIn hl) r2 h) fun r s' hq=>?_)
 cases r with
 | error e=>exact hx pins σ H s e s' I hq
 | ok fl=>
  cases fl with
  | ret u=>exact I.after hq
  | next=>exact False.elim hq
  | brk=>exact False.elim hq
  | cont=>exact False.elim hq
theorem zkB (F:zdx X.prog X.w X.K X.mg X.base CX k f fd ps sp) (hr:zb9 k X.A) (hg:Gl X x) (hm:X.mg x=some (.ref f)) (hk:PySem.W.keepIn X.K (.ref f)=true) (hb:zcq X.K fd ps ds) (hd:zaX dvs ds) (hx:zdO CX X E)
  (ha:PA X (e::es) t) (hdb:(x == ("__debug__":Str))=false:=by decide) (he:starEach (e::es) X.env=(false,eval e X.env)::starEach es X.env:=by rfl) (hpl:(backTo pos (starEach es X.env)).any (·.1)=false:=by rfl) :
  PE X (.Call (.Name x p) (e::es) [] pos) (tCall sp dvs E t):=by
 intro pins s σ H Q I h
 refine wpAny_Call_Name_kw (zdH I hg hm ?_ hdb)
 refine PySem.W.callWith_K (h₀:=X.base) I.ok.mod.kin hk (thn (ha pos pins s σ H _ I h) fun us s1=>L2.ex5 fun vs H1 I1 r q=>⟨I1.kIn,?_⟩) he hpl
 exact zjX F hr hb hd hx I1 r q
theorem zkC {pl:Sem Bool} (he:PE X o ta) (c:Cls X.K C) (hm:Meth X.K C m f) (F:zdx X.prog X.w X.K X.mg X.base CX k f fd ps sp) (hr:zb9 k X.A) (hb:zcq X.K fd ps ds) (hd:zaX dvs ds) (hx:zdO CX X E) (ha:PA X (e::es) t)
  (hst:starEach (e::es) X.env=(false,eval e X.env)::starEach es X.env:=by rfl) (hpl:(backTo pos (starEach es X.env)).any (·.1)=false:=by rfl)
  (ht:eval (.Call (.Attribute o m apos) (e::es) [] pos) X.env=(do
   let ov ← eval o X.env
   standAt apos.atName
   let (f,first) ← holding [ov] (getMethod ov m pl)
   callWith pos f first (backTo pos (starEach (e::es) X.env)) (backToKw pos (keywordEach [] X.env))):=by rfl) :
  PE X (.Call (.Attribute o m apos) (e::es) [] pos) (tMeth C m sp dvs E ta t):=by
 intro pins s σ H Q I h
 refine PySem.W.methodCall_KW (pl:=pl) (thn (he pins s σ H _ I h) fun u s1=>L2.ex5 fun x H1 I1 rx hq_=>?_) ht
 obtain⟨a,dx,fs,ex,ea,l,q⟩:=hq_
 subst ex
 obtain rfl:u=Value.ref a:=rx
 refine zgV I1 ea c hm l ?_
 refine PySem.W.callWith_K (first:=[.ref a]) (h₀:=X.base) I.ok.mod.kin hm.kp (thn (ha pos pins s1 σ H1 _ I1 q) fun us s2=>L2.ex5 fun vs H2 I2 r q2=>⟨I2.kIn,?_⟩) hst hpl
 exact zjX (us:=.ref a::us) (vs:=.ref a::vs) F hr hb hd hx I2 (.cons rfl r) q2
structure Mk (K:PySem.W.Frag) (C f:Addr):Prop where
 makes:PySem.W.makesIn K C=true
 init:PySem.W.findIn K (.ref C) "__init__"=some (some (.ref f))
 fn:PySem.W.isFn K (.ref f)=true
 kp:PySem.W.keepIn K (.ref C)=true
theorem zjb {pins:List (Addr×Obj)}{σ:St}{H:Hp}{s:Shared}{Q:VK}{us:List Value}{vs:List V} (M:Mk X.K C f) (F:zdx X.prog X.w X.K X.mg X.base CX k f fd ps sp) (hr:zb9 (k + 1) X.A) (hb:zcq X.K fd ps ds) (hd:zaX dvs ds)
  (hx:zdO CX X E) (I:Inv X pins σ H s) (r:zaX vs us)
  (h:∀ x dx,H x=none→H dx=none→dx≠x→sp (.ref x::(vs++dvs)) (upd (upd H dx (.own x)) x (.ins C dx [])) (fun v H2=>v=.non∧Q (.ref x) H2) E) :
  wpAny (model X.prog X.w) X.A (call (.ref C) us) (EP X pins σ Q) X.xe s:=by
 have hq:=h (s.heap.objs.size + 1) s.heap.objs.size (I.hok.fresh (Nat.le_succ _)) (I.hok.fresh (Nat.le_refl _)) (Nat.ne_of_lt (Nat.lt_succ_self _))
 have I2:=Inv.made (C:=C) I
 have r2:zaX (V.ref (s.heap.objs.size + 1)::(vs++dvs)) (Value.ref (s.heap.objs.size + 1)::(us++ds)):=.cons rfl (r.append hd)
 have hl:(Value.ref (s.heap.objs.size + 1)::us++ds).length=ps.length:=by
  have e:=r2.length
  rw[F.len _ _ _ _ hq] at e
  exact e.symm
 refine wpAny_call (zja (f:=f) I.kIn M.makes M.init (beq_iff_eq.mp M.fn) (codeAny_mono (F.run _ X.stack _ _ ⟨Value.ref (s.heap.objs.size + 1)::us,[]⟩ (Value.ref (s.heap.objs.size + 1)::(us++ds)) _ _ E (hr.make C us [])
  (I2.env0.make C us []) (hb _ (Value.ref (s.heap.objs.size + 1)::us) I2.kIn hl) r2 hq) fun r s' hq'=>?_))
 cases r with
 | error e=>exact hx pins σ _ _ e s' I2 hq'
 | ok fl=>
  cases fl with
  | ret u=>
   obtain⟨v,H',I3,rv,ev,q3⟩:=I2.after hq'
   subst ev
   exact⟨rv,⟨V.ref (s.heap.objs.size + 1),H',I3,rfl,q3⟩⟩
  | next=>exact False.elim hq'
  | brk=>exact False.elim hq'
  | cont=>exact False.elim hq'
theorem zkD (M:Mk X.K C f) (F:zdx X.prog X.w X.K X.mg X.base CX k f fd ps sp) (hr:zb9 (k + 1) X.A) (hg:Gl X x) (hm:X.mg x=some (.ref C)) (hb:zcq X.K fd ps ds) (hd:zaX dvs ds) (hx:zdO CX X E)
  (ha:PA X (e::es) t) (hdb:(x == ("__debug__":Str))=false:=by decide) (he:starEach (e::es) X.env=(false,eval e X.env)::starEach es X.env:=by rfl) (hpl:(backTo pos (starEach es X.env)).any (·.1)=false:=by rfl) :
  PE X (.Call (.Name x p) (e::es) [] pos) (tMake C sp dvs E t):=by
 intro pins s σ H Q I h
 refine wpAny_Call_Name_kw (zdH I hg hm ?_ hdb)
 refine PySem.W.callWith_K (h₀:=X.base) I.ok.mod.kin M.kp (thn (ha pos pins s σ H _ I h) fun us s1=>L2.ex5 fun vs H1 I1 r q=>⟨I1.kIn,?_⟩) he hpl
 exact zjb M F hr hb hd hx I1 r q
end
section
variable {X:Cx}{CX:CXT}{k:Nat}{f C:Addr}{fd:FuncData}{ps ks:List Str}{sp:Sp}{E:XK}{x m:Str}{p pos apos kpos:Pos}{e o:Expr}{es:List Expr}{kws:List Keyword}{te ta:TE}{t tk:TA}{nm:Option Str}
structure KBinds (K:PySem.W.Frag) (fd:FuncData) (ps ks:List Str) (g:List Value→List Value→List Value) (gV:List V→List V→List V):Prop where
 to:∀ (s:Shared) (us ws:List Value),K.In s.heap→(g us ws).length=ps.length→BindsTo s fd ⟨us,ks.zip ws⟩ (ps.zip (g us ws))
 rel:∀ {vs:List V}{us:List Value}{zs:List V}{ws:List Value},zaX vs us→zaX zs ws→zaX (gV vs zs) (g us ws)
variable {g:List Value→List Value→List Value}{gV:List V→List V→List V}
end
structure zay (N P:List Str) (sc:Scope):Prop where
 kind:sc.kind=.function
 co:sc.isCoroutine=false
 gen:sc.isGenerator=false
 nd:N.Nodup
 pre:N.take P.length=P
 par:∀ x∈P,sc.names.lookup x=some .local∨sc.names.lookup x=some .cell
 nofree:∀ y∈sc.names,y.2≠.free
theorem zfk {kindOf:Str→Option NameKind}{x:Str}:∀ {binds:List (Str×Value)}{m:Str→Option Value},(∀ v,(x,v)∉binds)→bindL kindOf binds m x=m x
 | [],_,_=>rfl
 | (n,v)::r,m,h=>by
  unfold bindL
  rw[zfk fun w hw=>h w (List.mem_cons_of_mem _ hw)]
  split
  ·have:x≠n:=by rintro rfl;exact h v List.mem_cons_self
   simp[this]
  ·rfl
theorem zfl {kindOf:Str→Option NameKind}{x:Str}:∀ {binds:List (Str×Value)}{m:Str→Option Value},(∀ v,(x,v)∉binds)→bindC kindOf binds m x=m x
 | [],_,_=>rfl
 | (n,v)::r,m,h=>by
  unfold bindC
  rw[zfl fun w hw=>h w (List.mem_cons_of_mem _ hw)]
  split
  ·rfl
  ·have:x≠n:=by rintro rfl;exact h v List.mem_cons_self
   simp[this]
theorem zfm {kindOf:Str→Option NameKind}{x:Str}{v:Value}:∀ {P:List Str}{vs:List Value}{i:Nat}{m:Str→Option Value},P.Nodup→P[i]?=some x→vs[i]?=some v→kindOf x=some .local →
  bindL kindOf (P.zip vs) m x=some v
 | [],_,_,_,_,h,_,_=>by simp at h
 | _::_,[],_,_,_,_,h,_=>by simp at h
 | p::P,w::vs,0,m,nd,h1,h2,hk=>by
  simp at h1 h2;subst h1;subst h2
  show bindL kindOf ((p,w)::P.zip vs) m p=_
  unfold bindL
  rw[zfk fun v hv=>(List.nodup_cons.mp nd).1 (List.of_mem_zip hv).1,if_pos hk]
  simp
 | p::P,w::vs,i + 1,m,nd,h1,h2,hk=>by
  show bindL kindOf ((p,w)::P.zip vs) m x=_
  unfold bindL
  exact zfm (i:=i) (List.nodup_cons.mp nd).2 (by simpa using h1) (by simpa using h2) hk
theorem zfn {kindOf:Str→Option NameKind}{x:Str}{v:Value}:∀ {P:List Str}{vs:List Value}{i:Nat}{m:Str→Option Value},P.Nodup→P[i]?=some x→vs[i]?=some v→kindOf x≠some .local →
  bindC kindOf (P.zip vs) m x=some v
 | [],_,_,_,_,h,_,_=>by simp at h
 | _::_,[],_,_,_,_,h,_=>by simp at h
 | p::P,w::vs,0,m,nd,h1,h2,hk=>by
  simp at h1 h2;subst h1;subst h2
  show bindC kindOf ((p,w)::P.zip vs) m p=_
  unfold bindC
  rw[zfl fun v hv=>(List.nodup_cons.mp nd).1 (List.of_mem_zip hv).1,if_neg hk]
  simp
 | p::P,w::vs,i + 1,m,nd,h1,h2,hk=>by
  show bindC kindOf ((p,w)::P.zip vs) m x=_
  unfold bindC
  exact zfn (i:=i) (List.nodup_cons.mp nd).2 (by simpa using h1) (by simpa using h2) hk
def start (N:List Str) (vs:List V):St:=vs.map some++List.replicate (N.length - vs.length) none
def zhC (CX:CXT) (P:Program) (w:World) (K:PySem.W.Frag) (mg:Str→Option Value) (base:Heap) (N:List Str) (qual:Str) (scope:Scope) (f:Addr) (cd:Value) (A:Around) (outer:List Env) (s:Shared) (H:Hp) (E:XK):Cx where
 prog:=P
 w:=w
 K:=K
 mg:=mg
 base:=base
 A:=A.deeper (envOfC qual scope s.heap.objs.size f cd)
 N:=N
 s₀:=s
 H₀:=H
 env:=envOfC qual scope s.heap.objs.size f cd
 outer:=outer
 stack:=envOfC qual scope s.heap.objs.size f cd::outer
 ex:=[]
 calm:=true
 fn:=fun _=>true
 pn:=[]
 xe:=fun e s'=>wpAny (model P w) (A.deeper (envOfC qual scope s.heap.objs.size f cd)) (leaving (envOfC qual scope s.heap.objs.size f cd) e) (fun _ s''=>CX outer H s E e s'') (fun e' s''=>CX outer H s E e' s'') s'
theorem zgl {sc:Scope}{n:Nat}{x:Str} (h:sc.names.lookup x=some .cell):∃ c,(cellsFrom n sc.names []).lookup x=some c:=by
 have q:=PySem.W.cellsFrom_some sc.names n [] (.inl h)
 exact Option.isSome_iff_exists.mp q
theorem zhD {CX:CXT}{P:Program}{w:World}{K:PySem.W.Frag}{mg:Str→Option Value}{base:Heap}{N ps:List Str}{qual:Str}{scope:Scope}{f:Addr}{cd:Value}{A:Around}{outer:List Env}{s s1:Shared}{H:Hp}{E:XK}{us:List Value}{vs:List V}
  (S:zay N ps scope) (e0:zkA P w K mg base A outer s H) (hl:vs.length=ps.length) (r:zaX vs us)
  (x:InCallC s s.heap.objs.size (bindL (envOfC qual scope s.heap.objs.size f cd).kindOf (ps.zip us) fun _=>none) (cellsFrom (s.heap.objs.size + 1) scope.names []) (bindC (envOfC qual scope s.heap.objs.size f cd).kindOf (ps.zip us) fun _=>none) s1) :
  Inv (zhC CX P w K mg base N qual scope f cd A outer s H E) [] (start N vs) H s1:=by
 have hpl:ps.length≤N.length:=by have:=congrArg List.length S.pre;rw[List.length_take] at this;omega
 obtain⟨h1,tk,rfl,hk⟩:=x.done
 have noA:∀ b:Addr,b∉(zhC CX P w K mg base N qual scope f cd A outer s H E).ex:=fun b z=>absurd (show b∈([]:List Addr) from z) (by simp)
 refine⟨⟨e0.mod,S.kind,rfl,rfl,Nat.le_refl _,fun y z c h1 h2=>?_,fun y hy=>?_,fun y c _ h=>?_,e0.hd,Around.frames_deeper e0.frames,.inr ⟨rfl,rfl⟩,fun b z=>absurd z (noA b),e0.bs,e0.bsz,fun b _ _=>noA b,fun b z=>absurd z (noA b),e0.funs,e0.frf⟩,
  rfl,e0.bare,Un.kept hk,⟨_,x.toInCall.ns,fun i y v h1 h2 h3=>?_⟩,fun y c h=>⟨_,x.cell y c h⟩,e0.hok.fresh (Nat.le_refl _),fun y c h=>?_,fun p hp=>absurd (show p∈([]:List (Addr×Obj)) from hp) (by simp),e0.hok.kept hk,?_⟩
 ·exact name_of_addr x.apart (PySem.mem_of_lookup h1) (PySem.mem_of_lookup h2)
 ·have hy:scope.names.lookup y=some .cell∨scope.names.lookup y=some .free:=hy
  rcases hy with hy|hy
  ·exact zgl hy
  ·exact absurd rfl (S.nofree _ (PySem.mem_of_lookup hy))
 ·exact Nat.le_of_lt (x.above y c (PySem.mem_of_lookup h))
 ·have hi:i<vs.length:=by
   unfold start at h2
   by_cases hi:i<vs.length
   ·exact hi
   ·rw[List.getElem?_append_right (by simpa using hi)] at h2
    rw[List.getElem?_replicate] at h2
    split at h2 <;> cases h2
  have ha:vs[i]?=some v:=by
   unfold start at h2
   rw[List.getElem?_append_left (by simpa using hi),List.getElem?_map] at h2
   cases e:vs[i]? with
   | none=>rw[e] at h2;cases h2
   | some a=>rw[e] at h2;cases h2;rfl
  obtain⟨u,hu,rv⟩:=r.get ha
  have hp:ps[i]?=some y:=by
   rw[← S.pre,List.getElem?_take_of_lt (by omega)];exact h1
  have ndP:ps.Nodup:=by rw[← S.pre];exact S.nd.sublist (List.take_sublist _ _)
  refine⟨u,rv,?_⟩
  rcases S.par y (List.mem_of_getElem? hp) with k|k
  ·exact .inl ⟨k,zfm ndP hp hu k⟩
  ·obtain⟨c,e⟩:=zgl (n:=s.heap.objs.size + 1) k
   refine .inr ⟨.inl k,c,e,?_⟩
   have q:=x.cell y c e
   rw[zfn ndP hp hu (by show scope.names.lookup y≠_;rw[k];decide)] at q
   exact q
 ·exact e0.hok.fresh (Nat.le_of_lt (x.above y c (PySem.mem_of_lookup h)))
 ·unfold start
  show _=N.length
  rw[List.length_append,List.length_map,List.length_replicate]
  omega
theorem zkE {CX:CXT}{P:Program}{w:World}{K:PySem.W.Frag}{mg:Str→Option Value}{base:Heap}{k:Nat}{f:Addr}{name qual:Str}{params:Arguments}{body:List Stmt}{scope:Scope}{dV kV doc pm cdv ct oc:Value}{an od:Option Addr}
  {osl:Array (Option Value)}{N ps:List Str}{sp:Sp} (lk:K.lookup f=some ⟨oc,od,.func (PySem.W.fnOf name qual params body scope dV kV doc pm an cdv ct),osl⟩) (hcd:PySem.W.codeIn K cdv qual=true) (S:zay N ps scope)
  (len:∀ vs H Q E,sp vs H Q E→vs.length=ps.length)
  (hbody:∀ (A:Around) (outer:List Env) (s:Shared) (H:Hp) (vs:List V) (Q:VK) (E:XK),zb9 k (A.deeper (envOfC qual scope s.heap.objs.size f cdv))→sp vs H Q E →
   ∃ t,PSs (zhC CX P w K mg base N qual scope f cdv A outer s H E) body t∧t { nx:=fun _ H'=>Q .non H',rt:=Q } (start N vs) H) :
  zdx P w K mg base CX (k + 1) f (PySem.W.fnOf name qual params body scope dV kV doc pm an cdv ct) ps sp:=by
 refine⟨len,fun A outer s H args us vs Q E hr e0 hb r hsp=>?_⟩
 have hl:=len _ _ _ _ hsp
 have KX:K.In s.heap:=e0.mod.kin.keeps fun b o e=>(e0.bs b o e).1
 have lim:s.heap.NoLimit:=e0.mod.nolimit.keeps fun b o e=>(e0.bs b o e).1
 have hkind:∀ y∈ps.zip us,scope.names.lookup y.1=some .local∨(scope.names.lookup y.1=some .cell∧((cellsFrom (s.heap.objs.size + 1) scope.names []).lookup y.1).isSome=true):=fun⟨n,v⟩ hy=>by
  rcases S.par n (List.of_mem_zip hy).1 with q|q
  ·exact .inl q
  ·exact .inr ⟨q,PySem.W.cellsFrom_some _ _ _ (.inl q)⟩
 refine codeAny_call_function hr.depth (KX _ _ lk) rfl S.co S.gen rfl (PySem.W.codeRec_of KX hcd) (hb _ _ _ _ ?_)
 refine wpAny_newFunctionEnv_cells S.kind hkind fun env he s1 x=>?_
 subst he
 refine⟨lim.keeps x.toInCall.keep,codeAny_func ?_⟩
 obtain⟨t,ht,hq⟩:=hbody A outer s H vs Q E (hr.deeper _) hsp
 have I:Inv (zhC CX P w K mg base N qual scope f cdv A outer s H E) [] (start N vs) H s1:=zhD S e0 hl r x
 refine wpAny_mono (ht [] s1 (start N vs) H _ I hq) (fun fl s' hs=>?_) fun e s' hs=>hs
 have fin:∀ {σ':St}{H':Hp}{v:V}{u:Value},Inv (zhC CX P w K mg base N qual scope f cdv A outer s H E) [] σ' H' s'→zaQ v u→Q v H'→CE outer P w H s Q u s':=
  fun {σ' H' v u} J rv q=>⟨v,H',J.os,J.bare,J.base,J.hok,rv,q⟩
 cases fl with
 | ret u=>
  obtain⟨v,σ',H',J,rv,q⟩:=hs
  exact fin J rv q
 | next=>
  obtain⟨σ',H',J,q⟩:=hs
  exact fin (v:=V.non) (u:=Value.none) J rfl q
 | brk=>
  obtain⟨_,_,_,q⟩:=hs
  exact False.elim q
 | cont=>
  obtain⟨_,_,_,q⟩:=hs
  exact False.elim q
end L2
namespace L2
open PySem PySem.Spec PyProof.Rows
section
variable {X:Cx}{x:Str}{p pos:Pos}{e:Expr}{es:List Expr}{t:TA}{id T:String}{r:List V→Hp→VK→Prop}
def tCB (r:List V→Hp→VK→Prop) (t:TA):TE:=fun σ H Q=>t σ H fun vs H1=>r vs H1 Q
theorem zao (hc:zc2 X (.builtin id) r) (hg:Gl X x) (hm:X.mg x=none) (hv:bootBuiltins x=some (.builtin id)) (ha:PA X (e::es) t) (hn:x≠"__name__":=by decide) (hdb:(x == ("__debug__":Str))=false:=by decide)
  (he:starEach (e::es) X.env=(false,eval e X.env)::starEach es X.env:=by rfl) (hpl:(backTo pos (starEach es X.env)).any (·.1)=false:=by rfl):PE X (.Call (.Name x p) (e::es) [] pos) (tCB r t):=by
 intro pins s σ H Q I h
 refine wpAny_Call_Name_kw (zcn I hg hm hv ?_ hn hdb)
 exact PyProof.Rows.callWith_builtin1 (thn (ha pos pins s σ H _ I h) fun us s1=>L2.ex5 fun vs H1 I1 r1 q1=>hc pins s1 σ H1 vs us Q I1 r1 q1) he hpl
theorem zfo (hc:zc2 X (.type T) r) (hg:Gl X x) (hm:X.mg x=none) (hv:bootBuiltins x=some (.type T)) (ha:PA X (e::es) t) (hn:x≠"__name__":=by decide) (hdb:(x == ("__debug__":Str))=false:=by decide)
  (he:starEach (e::es) X.env=(false,eval e X.env)::starEach es X.env:=by rfl) (hpl:(backTo pos (starEach es X.env)).any (·.1)=false:=by rfl):PE X (.Call (.Name x p) (e::es) [] pos) (tCB r t):=by
 intro pins s σ H Q I h
 refine wpAny_Call_Name_kw (zcn I hg hm hv ?_ hn hdb)
 exact PyProof.Rows.callWith_type1 (thn (ha pos pins s σ H _ I h) fun us s1=>L2.ex5 fun vs H1 I1 r1 q1=>hc pins s1 σ H1 vs us Q I1 r1 q1) he hpl
end
end L2
namespace HT
open PySem PyProof.Rows
section
open PySem.SeqAt
open PySem.AutoSeq1 (wpAny_loadPart')
open PySem.MeetsSeq PySem.MeetsSeq2 PySem.MeetsSeq3
end
section
variable {prog:Program}{w:World}{A:Around}{E:Value→Shared→Prop}{s:Shared}
def sIx (n d:Nat):Option Int→Nat
 | none=>d
 | some v=>if v<0 then(v + (n:Int)).toNat else min v.toNat n
end
end HT
namespace L2
open PySem PySem.Spec PyProof.Rows
abbrev TO:=St→Hp→(Option Int→Hp→Prop)→Prop
def PO (X:Cx) (e:Option Expr) (t:TO):Prop:=
 ∀ (pins:List (Addr×Obj)) (s:Shared) (σ:St) (H:Hp) (Q:Option Int→Hp→Prop),Inv X pins σ H s→t σ H Q →
  wpAny (model X.prog X.w) X.A (evalPart e X.env) (fun u s'=>∃ o H',Inv X pins σ H' s'∧IsPart u o∧Q o H') X.xe s
def tPart (t:TE):TO:=fun σ H Q=>t σ H fun x H1=>∃ i,x=.int i∧Q (some i) H1
section
variable {X:Cx}{e:Expr}{te:TE}{lo hi:Option Expr}{tl th:TO}{pos p2:Pos}
theorem zhE (h:PE X e te):PO X (some e) (tPart te):=by
 intro pins s σ H Q I hw
 rw[evalPart_some]
 refine thn (h pins s σ H _ I hw) fun u s1=>L2.ex5 fun x H1 I1 r1 q1=>?_
 obtain⟨i,rfl,q⟩:=q1
 obtain⟨t,rfl⟩:=r1
 exact⟨some i,H1,I1,.int i t,q⟩
def SlR (X:Cx) (r:V→Option Int→Option Int→Hp→VK→Prop):Prop:=
 ∀ (pins:List (Addr×Obj)) (s:Shared) (σ:St) (H:Hp) (x:V) (v vl vu:Value) (lo hi:Option Int) (sl:Addr) (Q:VK),Inv X pins σ H s→zaQ x v→s.heap.IsSliceOf sl vl vu .none→IsPart vl lo→IsPart vu hi→r x lo hi H Q →
  ∃ T id,typeLookup (.type T) "__getitem__"=pure (some (.builtin id))∧s.TypeIs v T∧wpAny (model X.prog X.w) X.A (getItem v (.ref sl)) (EP X pins σ Q) X.xe s
def tSl (r:V→Option Int→Option Int→Hp→VK→Prop) (te:TE) (tl th:TO):TE:=fun σ H Q=>te σ H fun x H1=>tl σ H1 fun l H2=>th σ H2 fun u H3=>r x l u H3 Q
theorem zjc {r:V→Option Int→Option Int→Hp→VK→Prop} (hr:SlR X r) (he:PE X e te) (hl:PO X lo tl) (hu:PO X hi th):PE X (.Subscript e (.Slice lo hi none p2) pos) (tSl r te tl th):=by
 intro pins s σ H Q I h
 refine Subscript_ (thn (he pins s σ H _ I h) fun v s1=>L2.ex5 fun x H1 I1 r1 q1=>?_)
 refine wpAny_Slice (thn (hl pins s1 σ H1 _ I1 q1) fun vl s2 ⟨l,H2,I2,pl,q2⟩=>thn (hu pins s2 σ H2 _ I2 q2) fun vu s3=>L2.ex5 fun u H3 I3 pu q3=>?_)
 rw[evalPart_none]
 refine wpAny_pure ?_
 have I4:Inv X pins σ H3 { s3 with heap:=s3.heap.push { cls:=.type "slice",data:=.fields #[vl,vu,.none] } }:=I3.kept (t':=s3.toks) fun b ob q=>Heap.get?_push_of_some _ q
 obtain⟨T,id,hT,ht,hg⟩:=hr pins { s3 with heap:=s3.heap.push { cls:=.type "slice",data:=.fields #[vl,vu,.none] } } σ H3 x v vl vu l u s3.heap.objs.size Q I4 r1 (Heap.IsSliceOf.new ..) pl pu q3
 show wpAny (model X.prog X.w) X.A (subscriptTail e (.Slice lo hi none p2) v (.ref s3.heap.objs.size)) (EP X pins σ Q) X.xe { s3 with heap:=s3.heap.push { cls:=.type "slice",data:=.fields #[vl,vu,.none] } }
 exact tail_any (ops:=[.ref s3.heap.objs.size,v]) ht hT hg (by with_unfolding_all rfl)
def zjd (xs:List V) (lo hi:Option Int):List V:=(xs.drop (HT.sIx xs.length 0 lo)).take (HT.sIx xs.length xs.length hi - HT.sIx xs.length 0 lo)
theorem zf1 (xs:List V) (lo hi:Option Int):(zjd xs lo hi).length≤xs.length:=by
 unfold zjd
 rw[List.length_take,List.length_drop]
 omega
end
end L2
namespace L2
open PySem PySem.Spec PyProof.Rows
def ixN (n:Nat) (i:Int):Option Nat:=if 0≤i then(if i<n then some i.toNat else none) else if -(n:Int)≤i then some (i + n).toNat else none
def atI {α:Type} (xs:List α) (i:Int):Option α:=(ixN xs.length i).bind fun j=>xs[j]?
theorem zhF {n:Nat}{i:Int}{j:Nat} (h:ixN n i=some j):seqIndex? i n=some j∧j<n∧-(n:Int)≤i∧i<n:=by
 unfold ixN at h
 by_cases h0:0≤i
 ·rw[if_pos h0] at h
  by_cases h1:i<n
  ·rw[if_pos h1] at h
   have e:i.toNat=j:=Option.some.inj h
   exact⟨by rw[seqIndex_of h0 h1,e],by omega,by omega,h1⟩
  ·rw[if_neg h1] at h;cases h
 ·rw[if_neg h0] at h
  by_cases h1:-(n:Int)≤i
  ·rw[if_pos h1] at h
   have e:(i + n).toNat=j:=Option.some.inj h
   exact⟨by rw[seqIndex_neg (by omega) h1,e],by omega,h1,by omega⟩
  ·rw[if_neg h1] at h;cases h
theorem zhG {α:Type}{xs:List α}{i:Int}{v:α} (h:atI xs i=some v):∃ j,seqIndex? i xs.length=some j∧xs[j]?=some v∧j<xs.length∧-(xs.length:Int)≤i∧i<xs.length:=by
 unfold atI at h
 cases e:ixN xs.length i with
 | none=>rw[e] at h;cases h
 | some j=>
  rw[e] at h
  obtain⟨h1,h2,h3,h4⟩:=zhF e
  exact⟨j,h1,h,h2,h3,h4⟩
def zkF (b:Expr):Prop:=∀ o i,subscripted b false o i=operate [o,i] (getItem o i)
def IxR (X:Cx) (r:R2):Prop:=
 ∀ (value slice:Expr) (pins:List (Addr×Obj)) (s:Shared) (σ:St) (H:Hp) (x y:V) (v u:Value) (Q:VK),Inv X pins σ H s→zaQ x v→zaQ y u→r x y H Q →
  subscripted slice false v u=operate [v,u] (getItem v u)→wpAny (model X.prog X.w) X.A (subscriptTail value slice v u) (EP X pins σ Q) X.xe s
def MtR (X:Cx) (id:String) (r:V→List V→Hp→VK→Prop):Prop:=
 ∀ (pins:List (Addr×Obj)) (s:Shared) (σ:St) (H:Hp) (x:V) (xs:List V) (v:Value) (us:List Value) (Q:VK),Inv X pins σ H s→zaQ x v→zaX xs us→r x xs H Q →
  wpAny (model X.prog X.w) X.A (call (.builtin id) (v::us)) (EP X pins σ Q) X.xe s
section
variable {X:Cx}{a b:Expr}{ta tb:TE}{pos:Pos}
theorem zas {r:R2} (hr:IxR X r) (ha:PE X a ta) (hb:PE X b tb) (hs:zkF b):PE X (.Subscript a b pos) (tOp r ta tb):=by
 intro pins s σ H Q I h
 exact Subscript_ (binT ha hb I h fun v u s2 x y H2 I2 rx ry q=>hr a b pins s2 σ H2 x y v u Q I2 rx ry q (hs _ _))
def rIxL (K:PySem.W.Frag):R2:=fun x y H Q=>∃ p xs i v,x=.ref p∧y=.int i∧SqL K H p xs∧atI xs i=some v∧Q v H
def rIxT (K:PySem.W.Frag):R2:=fun x y H Q=>∃ p xs i v,x=.ref p∧y=.int i∧SqT K H p xs∧atI xs i=some v∧Q v H
theorem zav:IxR X (rIxL X.K):=by
 intro value slice pins s σ H x y v u Q I rx ry h hs
 obtain⟨p,xs,i,z,rfl,rfl,hq,he,q⟩:=h
 cases rx
 obtain⟨t,rfl⟩:=ry
 obtain⟨its,r,pl,hz⟩:=I.list hq
 obtain⟨j,h1,h2,h3,h4,h5⟩:=zhG he
 obtain⟨w,ew,rw'⟩:=r.get h2
 have hl:=r.length
 have hn:=zfh
 have fin:EP X pins σ Q w s:=⟨z,H,I,rw',q⟩
 by_cases h0:0≤i
 ·have hj:i.toNat=j:=by
   rw[seqIndex_of h0 h5] at h1
   exact Option.some.inj h1
  exact item_listR pl.isList h0 (by omega) (by rw[hj];simpa using ew) fin hs
 ·have hj:(i + (its.toArray.size:Int)).toNat=j:=by
   rw[seqIndex_neg (by omega) h4] at h1
   rw[List.size_toArray,← hl]
   exact Option.some.inj h1
  exact subscriptTail_builtinR (x:=w) pl.isList.typeIs slot_list_getitem.lookup
   (wpAny_getItem_list_neg (Q:=fun r s'=>r=w∧EP X pins σ Q r s') pl.isList (by omega) (by rw[List.size_toArray] <;> omega) (by omega) (by rw[hj];simpa using ew) ⟨rfl,fin⟩) hs
theorem zbn:IxR X (rIxT X.K):=by
 intro value slice pins s σ H x y v u Q I rx ry h hs
 obtain⟨p,xs,i,z,rfl,rfl,hq,he,q⟩:=h
 cases rx
 obtain⟨t,rfl⟩:=ry
 obtain⟨its,r,pl,hz⟩:=I.tuple hq
 obtain⟨j,h1,h2,h3,h4,h5⟩:=zhG he
 obtain⟨w,ew,rw'⟩:=r.get h2
 have hl:=r.length
 have hn:=zfh
 have fin:EP X pins σ Q w s:=⟨z,H,I,rw',q⟩
 exact subscriptTail_builtinR (x:=w) pl.typeIs slot_tuple_getitem.lookup
  (getItem_tuple (j:=j) (Q:=fun r s'=>r=w∧EP X pins σ Q r s') pl (by omega) (by omega) (by rw[List.size_toArray,← hl];exact h1) (by simpa using ew) ⟨rfl,fin⟩) hs
theorem zgZ (its:List Value) (n j:Nat) (u:Value):Obj.mapSeq (·.setIfInBounds j u) { cls:=.type "list",data:=.seq its.toArray n }={ cls:=.type "list",data:=.seq (its.set j u).toArray n }:=by
 simp[Obj.mapSeq]
theorem Inv.lst {pins:List (Addr×Obj)}{σ:St}{H:Hp}{s:Shared}{p:Addr}{xs:List V} (I:Inv X pins σ H s) (h:H p=some (.lst xs)) :
  ∃ (its:List Value) (n:Nat),zaX xs its∧s.heap.get? p=some { cls:=.type "list",data:=.seq its.toArray n }∧xs.length≤sizeLine:=by
 obtain⟨z,its,n,r,e⟩:=I.hok p _ h
 exact⟨its,n,r,e,z⟩
theorem Inv.lstUpd {pins:List (Addr×Obj)}{σ:St}{H:Hp}{s:Shared}{p:Addr}{xs ys:List V}{its its':List Value}{n n':Nat}{f:Obj→Obj} (I:Inv X pins σ H s) (h:H p=some (.lst xs))
  (ho:s.heap.get? p=some { cls:=.type "list",data:=.seq its.toArray n }) (hf:f { cls:=.type "list",data:=.seq its.toArray n }={ cls:=.type "list",data:=.seq its'.toArray n' }) (r:zaX ys its') (hz:ys.length≤sizeLine) (t:Nat) :
  Inv X pins σ (upd H p (.lst ys)) { s with heap:=s.heap.update p f,toks:=t }:=by
 have e:(s.heap.update p f).get? p=some { cls:=.type "list",data:=.seq its'.toArray n' }:=by
  rw[Heap.get?_update_self f ho (by rw[hf] <;> rfl),hf]
 refine I.write (x:=p) (e:=p) (by rw[h];trivial) (.inl rfl) (fun b u hb q=>(Heap.get?_update_other _ _ (Ne.symm hb)).trans q) ⟨_,e⟩ ?_
 exact⟨hz,its',n',r,e⟩
def rSetL:V→V→V→Hp→(Hp→Prop)→Prop:=fun o i v H Q=>∃ p xs k j,o=.ref p∧i=.int k∧H p=some (.lst xs)∧ixN xs.length k=some j∧Q (upd H p (.lst (xs.set j v)))
theorem zca:PSet X rSetL:=by
 intro pins s σ H o i v ov iv u Q I ro ri rv h
 obtain⟨p,xs,k,j,rfl,rfl,hp,hj,q⟩:=h
 cases ro
 obtain⟨t,rfl⟩:=ri
 obtain⟨its,n,r,ho,hz⟩:=I.lst hp
 obtain⟨h1,h2,h3,h4⟩:=zhF hj
 have hl:=r.length
 have hn:=zfh
 have I':Inv X pins σ (upd H p (.lst (xs.set j v))) { s with heap:=s.heap.update p (Obj.mapSeq (·.setIfInBounds j u)) }:=
  I.lstUpd hp ho (zgZ its n j u) (r.set rv j) (by rw[List.length_set];exact hz) s.toks
 by_cases h0:0≤k
 ·have hk:k.toNat=j:=by
   rw[seqIndex_of h0 h4] at h1
   exact Option.some.inj h1
  exact PySem.W.ki_setAt ho h0 (by omega) (by rw[List.size_toArray,← hl];exact h4) (by rw[hk];exact⟨_,I',q⟩)
 ·have hk:(k + (its.toArray.size:Int)).toNat=j:=by
   rw[seqIndex_neg (by omega) h3] at h1
   rw[List.size_toArray,← hl]
   exact Option.some.inj h1
  exact PySem.W.ki_setBack ho (by omega) (by rw[List.size_toArray,← hl];exact h3) (by omega) (by rw[hk];exact⟨_,I',q⟩)
theorem zfp (lo hi:Option Int) (n:Nat):(sliceBounds lo hi none n).1=((HT.sIx n 0 lo:Nat):Int)∧(sliceBounds lo hi none n).2.1=((HT.sIx n n hi:Nat):Int)∧(sliceBounds lo hi none n).2.2=1:=by
 refine⟨?_,?_,rfl⟩
 ·cases lo with
  | none=>simp[sliceBounds,HT.sIx]
  | some i=>
   simp only[sliceBounds,HT.sIx,Option.getD_none,show(1:Int) > 0 by decide,if_true]
   by_cases h:i<0
   ·simp only[h,if_true] <;> omega
   ·simp only[h,if_false] <;> omega
 ·cases hi with
  | none=>simp[sliceBounds,HT.sIx]
  | some i=>
   simp only[sliceBounds,HT.sIx,Option.getD_none,show(1:Int) > 0 by decide,if_true]
   by_cases h:i<0
   ·simp only[h,if_true] <;> omega
   ·simp only[h,if_false] <;> omega
theorem zeG (its:List Value) (lo hi:Option Int):slicePick its.toArray lo hi none=((its.drop (HT.sIx its.length 0 lo)).take (HT.sIx its.length its.length hi - HT.sIx its.length 0 lo)).toArray:=by
 obtain⟨h1,h2,h3⟩:=zfp lo hi its.toArray.size
 unfold slicePick
 rw[h1,h2,h3]
 simp only[sliceRange_one,pick_run,List.size_toArray] <;> rfl
def rSlL (K:PySem.W.Frag):V→Option Int→Option Int→Hp→VK→Prop:=fun x lo hi H Q=>∃ a xs,x=.ref a∧SqL K H a xs∧∀ p,H p=none→Q (.ref p) (upd H p (.lst (zjd xs lo hi)))
theorem zkG:SlR X (rSlL X.K):=by
 intro pins s σ H x v vl vu lo hi sl Q I rx hs pl pu h
 obtain⟨a,xs,rfl,hx,q⟩:=h
 cases rx
 obtain⟨its,r,ht,hz⟩:=I.list hx
 have hlen:=r.length
 refine⟨"list",_,slot_list_getitem.lookup,ht.isList.typeIs,?_⟩
 refine wpAny_getItem_list_slice ht.isList hs pl pu .none (by simp) ?_ (by rw[List.size_toArray] <;> omega)
 rw[zeG,← hlen]
 refine⟨.ref s.heap.objs.size,_,I.laid (t':=s.toks) (o:=.lst (zjd xs lo hi)) (fun b ob q=>Heap.get?_push_of_some _ q) (Nat.le_refl _) ?_,rfl,q _ (I.hok.fresh (Nat.le_refl _))⟩
 exact⟨Nat.le_trans (zf1 xs lo hi) hz,_,0,(r.drop (HT.sIx xs.length 0 lo)).take (HT.sIx xs.length xs.length hi - HT.sIx xs.length 0 lo),Heap.get?_push_size _ rfl⟩
def flatV:V→Bool
 | .non=>true
 | .bl _=>true
 | .int _=>true
 | .str _=>true
 | _=>false
def eqV:V→V→Bool
 | .non,.non=>true
 | .bl a,.bl b=>a == b
 | .bl a,.int b=>(if a then 1 else 0) == b
 | .int a,.bl b=>a == (if b then 1 else 0)
 | .int a,.int b=>a == b
 | .str a,.str b=>a == b
 | _,_=>false
theorem zbD {A:Around}{s:Shared}{y x:V}{u v:Value} (ry:zaQ y u) (rx:zaQ x v) (fy:flatV y=true) (fx:flatV x=true):SeqAt.EqAt A s u v (eqV y x):=by
 cases y with
 | non=>
  cases ry
  cases x with
  | non=>cases rx;exact SeqAt.EqAt.same _
  | bl b=>cases rx;exact SeqAt.EqAt.none_bool b
  | int b=>obtain⟨t,rfl⟩:=rx;exact SeqAt.EqAt.none_int b t
  | str b=>obtain⟨t,rfl⟩:=rx;exact SeqAt.EqAt.none_str b t
  | _=>exact absurd (show false=true from fx) Bool.false_ne_true
 | bl a=>
  cases ry
  cases x with
  | non=>cases rx;exact SeqAt.EqAt.bool_none a
  | bl b=>cases rx;exact SeqAt.EqAt.bool_bool a b
  | int b=>obtain⟨t,rfl⟩:=rx;exact SeqAt.EqAt.bool_int a b t
  | str b=>obtain⟨t,rfl⟩:=rx;exact SeqAt.EqAt.bool_str a b t
  | _=>exact absurd (show false=true from fx) Bool.false_ne_true
 | int a=>
  obtain⟨t',rfl⟩:=ry
  cases x with
  | non=>cases rx;exact SeqAt.EqAt.int_none a t'
  | bl b=>cases rx;exact SeqAt.EqAt.int_bool a t' b
  | int b=>obtain⟨t,rfl⟩:=rx;exact SeqAt.EqAt.int_int a t' b t
  | str b=>obtain⟨t,rfl⟩:=rx;exact SeqAt.EqAt.int_str a t' b t
  | _=>exact absurd (show false=true from fx) Bool.false_ne_true
 | str a=>
  obtain⟨t',rfl⟩:=ry
  cases x with
  | non=>cases rx;exact SeqAt.EqAt.str_none a t'
  | bl b=>cases rx;exact SeqAt.EqAt.str_bool a t' b
  | int b=>obtain⟨t,rfl⟩:=rx;exact SeqAt.EqAt.str_int a t' b t
  | str b=>obtain⟨t,rfl⟩:=rx;exact SeqAt.EqAt.str_str a t' b t
  | _=>exact absurd (show false=true from fx) Bool.false_ne_true
 | _=>exact absurd (show false=true from fy) Bool.false_ne_true
theorem zaS:zc2 X (.builtin "len") (fun xs H Q=>∃ p ys,xs=[.ref p]∧(SqL X.K H p ys∨SqT X.K H p ys)∧Q (.int ys.length) H):=by
 intro pins s σ H xs us Q I r h
 obtain⟨p,ys,rfl,hq,q⟩:=h
 obtain⟨u,rfl,rx⟩:=zdw r
 cases rx
 have hn:=zfh
 rcases hq with hq|hq
 ·obtain⟨its,r',pl,hz⟩:=I.list hq
  have hlen:=r'.length
  exact Calls.call_len_list pl.isList (by simp only[List.size_toArray] <;> omega) ⟨.int ys.length,H,I.tok _,⟨s.toks + 1,by rw[List.size_toArray,hlen]⟩,q⟩
 ·obtain⟨its,r',pl,hz⟩:=I.tuple hq
  have hlen:=r'.length
  exact len_tuple pl (by simp only[List.size_toArray] <;> omega) ⟨.int ys.length,H,I.tok _,⟨s.toks + 1,by rw[List.size_toArray,hlen]⟩,q⟩
theorem zdp:zc2 X (.type "list") (fun xs H Q=>∃ p ys,xs=[.ref p]∧(SqL X.K H p ys∨SqT X.K H p ys)∧∀ l,H l=none→Q (.ref l) (upd H l (.lst ys))):=by
 intro pins s σ H xs us Q I r h
 obtain⟨p,ys,rfl,hq,q⟩:=h
 obtain⟨u,rfl,rx⟩:=zdw r
 cases rx
 have fin:∀ (its:List Value),zaX ys its→ys.length≤sizeLine→∀ (h':Heap) (c':Nat),(∀ b o',s.heap.get? b=some o'→h'.get? b=some o') →
   h'.get? s.heap.objs.size=some { cls:=.type "list",dict:=none,data:=.seq its.toArray c',slots:=#[] }→EP X pins σ Q (.ref s.heap.objs.size) { s with heap:=h' }:=fun its r' hz h' c' kp e=>
  ⟨.ref s.heap.objs.size,_,I.laid (t':=s.toks) kp (Nat.le_refl _) (show zbt X.prog X.w _ h' _ (.lst ys) from⟨hz,its,c',r',e⟩),rfl,q _ (I.hok.fresh (Nat.le_refl _))⟩
 rcases hq with hq|hq
 ·obtain⟨its,r',pl,hz⟩:=I.list hq
  have hlen:=r'.length
  obtain⟨o,ho,hc,n,hd⟩:=pl.isList
  exact call_list_seq p (.inl rfl) ho hc hd (fun h' c' kp e=>fin its r' hz h' c' kp e) (by simp only[List.size_toArray] <;> omega)
 ·obtain⟨its,r',pl,hz⟩:=I.tuple hq
  have hlen:=r'.length
  obtain⟨o,ho,hc,n,hd⟩:=pl
  exact call_list_seq p (.inr rfl) ho hc hd (fun h' c' kp e=>fin its r' hz h' c' kp e) (by simp only[List.size_toArray] <;> omega)
def tyV (K:PySem.W.Frag) (T:String) (x:V) (H:Hp):Prop:=match x with
 | .str _=>T="str"
 | .int _=>T="int"
 | .ref p=>(T="list"∧∃ xs,SqL K H p xs)∨(T="tuple"∧∃ o,K.lookup p=some o∧o.cls=.type "tuple"∧o.dict=none) ∨
   (T="dict"∧((∃ kvs,H p=some (.dK kvs))∨∃ kvs,H p=some (.dT kvs)))∨(T="set"∧∃ S n,H p=some (.set S n))
 | _=>False
theorem zjY {pins:List (Addr×Obj)}{σ:St}{H:Hp}{s:Shared}{T:String}{x:V}{v:Value} (I:Inv X pins σ H s) (r:zaQ x v) (ty:tyV X.K T x H) :
  s.TypeIs v T∧∀ a,v=.ref a→∃ ob,s.heap.get? a=some ob∧ob.dict=none:=by
 cases x with
 | str z=>
  obtain⟨t,rfl⟩:=r
  cases (show T="str" from ty)
  exact⟨typeIs_str s z t,fun _ e=>nomatch e⟩
 | int i=>
  obtain⟨t,rfl⟩:=r
  cases (show T="int" from ty)
  exact⟨typeIs_int s i t,fun _ e=>nomatch e⟩
 | ref p=>
  cases r
  rcases ty with⟨rfl,xs,hq⟩|⟨rfl,o,hk,hc,hd⟩|⟨rfl,hk⟩|⟨rfl,S,n,hk⟩
  ·obtain⟨its,_,pl,_⟩:=I.list hq
   refine⟨pl.isList.typeIs,fun a e=>?_⟩
   cases e
   obtain⟨o,n,e,c,hd,_⟩:=pl
   exact⟨o,e,hd⟩
  ·refine⟨⟨o,I.kIn p o hk,hc⟩,fun a e=>?_⟩
   cases e
   exact⟨o,I.kIn _ o hk,hd⟩
  ·have z:∃ o,s.heap.get? p=some o∧o.ExactDict:=by
    rcases hk with⟨kvs,hk⟩|⟨kvs,hk⟩
    ·obtain⟨_,_,_,_,o,_,_,e,ex,_⟩:=I.hok p _ hk
     exact⟨o,e,ex⟩
    ·obtain⟨_,_,_,_,o,_,_,e,ex,_⟩:=I.hok p _ hk
     exact⟨o,e,ex⟩
   obtain⟨o,e,ex⟩:=z
   refine⟨⟨o,e,ex.1⟩,fun a e2=>?_⟩
   cases e2
   exact⟨o,e,ex.2.1⟩
  ·obtain⟨o,_,_,_,e,ex,_⟩:=I.hok p _ hk
   refine⟨⟨o,e,ex.1⟩,fun a e2=>?_⟩
   cases e2
   exact⟨o,e,ex.2.1⟩
 | _=>exact False.elim ty
def tBM0 (K:PySem.W.Frag) (T:String) (r:V→List V→Hp→VK→Prop) (to:TE):TE:=fun σ H Q=>to σ H fun x H1=>tyV K T x H1∧r x [] H1 Q
def tBM (K:PySem.W.Frag) (T:String) (r:V→List V→Hp→VK→Prop) (to:TE) (t:TA):TE:=fun σ H Q=>to σ H fun x H1=>tyV K T x H1∧t σ H1 fun xs H2=>r x xs H2 Q
variable {o e:Expr}{es:List Expr}{to:TE}{t:TA}{name:Str}{apos cpos:Pos}{T id:String}{r:V→List V→Hp→VK→Prop}
theorem pe_bm0 (pa:PlainAttrs T) (slot:Slot T name id) (hty:typeOf (.builtin id)=pure (.type "method_descriptor")) (hm:MtR X id r) (ho:PE X o to)
  (hbase:attributeBase o name X.env (eval o X.env)=eval o X.env:=by rfl) (hline:(apos.endLine == cpos.line)=true:=by rfl):PE X (.Call (.Attribute o name apos) [] [] cpos) (tBM0 X.K T r to):=by
 intro pins s σ H Q I h
 refine wpAny_Call_method0_late hbase hline (thn (ho pins s σ H _ I h) fun v s1=>L2.ex5 fun x H1 I1 r1 hq_=>?_)
 obtain⟨ty,q1⟩:=hq_
 obtain⟨h1,h2⟩:=zjY I1 r1 ty
 exact⟨T,id,pa,slot,hty,h1,h2,Calls.callWith_builtin rfl (PySem.evalArgs_none (hm pins s1 σ H1 x [] v [] Q I1 r1 .nil q1))⟩
theorem zg0 (pa:PlainAttrs T) (slot:Slot T name id) (hty:typeOf (.builtin id)=pure (.type "method_descriptor")) (hm:MtR X id r) (ho:PE X o to) (ha:PA X (e::es) t)
  (hbase:attributeBase o name X.env (eval o X.env)=eval o X.env:=by rfl)
  (hfew:((backTo cpos (starEach (e::es) X.env)).all (fun x=>!x.1) && (backToKw cpos (keywordEach [] X.env)).all (fun x=>x.1.isSome)
   && decide ((e::es).length + ([]:List Keyword).length + (if ([]:List Keyword).isEmpty then 0 else 1)<30))=true:=by rfl)
  (hline:(apos.endLine == cpos.line)=true:=by rfl) (hs:starEach (e::es) X.env=(false,eval e X.env)::starEach es X.env:=by rfl) (hplain:(backTo cpos (starEach es X.env)).any (·.1)=false:=by rfl) :
  PE X (.Call (.Attribute o name apos) (e::es) [] cpos) (tBM X.K T r to t):=by
 intro pins s σ H Q I h
 refine wpAny_Call_method_late hbase hfew hline rfl (thn (ho pins s σ H _ I h) fun v s1=>L2.ex5 fun x H1 I1 r1 hq_=>?_)
 obtain⟨ty,q1⟩:=hq_
 obtain⟨h1,h2⟩:=zjY I1 r1 ty
 refine⟨T,id,pa,slot,hty,h1,h2,?_⟩
 have hA:=ha cpos pins s1 σ H1 _ I1 q1
 rw[hs] at hA ⊢
 refine Calls.callWith_builtin (by show(false || (backTo cpos (starEach es X.env)).any (·.1))=false;rw[hplain] <;> rfl) (Calls.evalArgs_plain ?_)
 exact thn hA fun us s2=>L2.ex5 fun vs H2 I2 r2 q2=>hm pins s2 σ H2 x vs v us Q I2 r1 r2 q2
end
end L2
namespace L2
open PySem PySem.Spec PyProof.Rows
def MtM (X:Cx) (id:String) (r:V→List V→Hp→VK→Prop):Prop:=
 ∀ (pins:List (Addr×Obj)) (s:Shared) (σ:St) (H:Hp) (x:V) (xs:List V) (v:Value) (us:List Value) (Q:VK),Inv X pins σ H s→zaQ x v→zaX xs us→r x xs H Q →
  wpAny (model X.prog X.w) X.A (call (.builtin id) (v::us)) (EP X pins σ Q) X.xe s
theorem zaX.one:∀ {x:V}{us:List Value},zaX [x] us→∃ u,us=[u]∧zaQ x u
 | _,_,.cons r .nil=>⟨_,rfl,r⟩
theorem zaX.rep {xs:List V}{us:List Value} (h:zaX xs us):∀ k:Nat,zaX (List.replicate k xs).flatten (List.replicate k us).flatten
 | 0=>.nil
 | k + 1=>by
  rw[List.replicate_succ,List.replicate_succ,List.flatten_cons,List.flatten_cons]
  exact zaX.append h (zaX.rep h k)
theorem zfq (its:List Value):∀ (k:Nat) (acc:List Value),
  List.foldl (fun x1 x2=>x1++x2) acc.toArray (List.replicate k its.toArray)=(acc++(List.replicate k its).flatten).toArray
 | 0,acc=>by simp
 | k + 1,acc=>by
  have e:acc.toArray++its.toArray=(acc++its).toArray:=by simp
  have e2:(acc++its)++(List.replicate k its).flatten=acc++(List.replicate (k + 1) its).flatten:=by
   rw[List.replicate_succ,List.flatten_cons,List.append_assoc]
  rw[← e2,← zfq its k (acc++its),← e,List.replicate_succ,List.foldl_cons]
section
variable {X:Cx}{pins:List (Addr×Obj)}{σ:St}{H:Hp}{s:Shared}{l b:Addr}{xs ys zs:List V}
theorem Inv.lset {its its':List Value}{n:Nat}{f:Array Value→Array Value}{t':Nat} (I:Inv X pins σ H s) (hH:H l=some (.lst xs))
  (e:s.heap.get? l=some { cls:=.type "list",data:=.seq its.toArray n }) (hf:f its.toArray=its'.toArray) (hv:zaX ys its') (hz:ys.length≤sizeLine) :
  Inv X pins σ (upd H l (.lst ys)) { s with heap:=s.heap.update l (Obj.mapSeq f),toks:=t' }:=by
 have q:=PySem.IsL.update e f
 rw[hf] at q
 refine I.write (x:=l) (e:=l) (by rw[hH];exact trivial) (.inl rfl) (fun b' u hb hu=>(Heap.get?_update_other s.heap (Obj.mapSeq f) (Ne.symm hb)).trans hu) ⟨_,q⟩ ?_
 exact⟨hz,its',_,hv,q⟩
theorem Inv.lnew {its:List Value}{t':Nat} (I:Inv X pins σ H s) (hv:zaX ys its) (hz:ys.length≤sizeLine) :
  Inv X pins σ (upd H s.heap.objs.size (.lst ys)) { s with heap:=s.heap.push { cls:=.type "list",data:=.seq its.toArray },toks:=t' }:=
 I.laid (fun _ _ q=>Heap.get?_push_of_some _ q) (Nat.le_refl _) ⟨hz,its,0,hv,Heap.get?_push_size _ rfl⟩
theorem Inv.fresh (I:Inv X pins σ H s):H s.heap.objs.size=none:=I.hok.fresh (Nat.le_refl _)
theorem Inv.lstM (I:Inv X pins σ H s) (hH:H l=some (.lst xs)):xs.length≤sizeLine∧∃ (its:List Value) (n:Nat),zaX xs its∧xs.length=its.length∧s.heap.get? l=some { cls:=.type "list",data:=.seq its.toArray n }:=by
 obtain⟨z,its,n,r,e⟩:=I.hok l _ hH
 exact⟨z,its,n,r,r.length,e⟩
theorem zgm {n:Nat} (h:n≤sizeLine):Builtin.List.listTooLong n=false:=by
 unfold Builtin.List.listTooLong
 exact decide_eq_false (by omega)
end
section
variable {X:Cx}
def zkH:V→List V→Hp→VK→Prop:=fun x vs H Q=>∃ l xs y,x=.ref l∧vs=[y]∧H l=some (.lst xs)∧xs.length<sizeLine∧Q .non (upd H l (.lst (xs++[y])))
theorem zc5:MtM X "list.append" zkH:=by
 intro pins s σ H x vs v us Q I rx rv h
 obtain⟨l,xs,y,rfl,rfl,hH,hz,q⟩:=h
 cases rx
 obtain⟨u,rfl,ru⟩:=rv.one
 obtain⟨z,its,n,r,hl,e⟩:=I.lstM hH
 refine call_meets F.slot_list_append ⟨_,e,rfl⟩ F.entry_list_append (F.args_list_append_2 _ _) (PySem.list_append l its.toArray n u (by rw[List.size_toArray];omega)) ⟨e,?_⟩
 refine⟨.non,_,I.lset (its':=its++[u]) hH e (by simp) (r.append (.cons ru .nil)) ?_,rfl,q⟩
 rw[List.length_append,List.length_singleton]
 omega
def zkI:V→List V→Hp→VK→Prop:=fun x vs H Q=>∃ l b xs zs,x=.ref l∧vs=[.ref b]∧H l=some (.lst xs)∧H b=some (.lst zs)∧xs.length + zs.length≤sizeLine∧Q .non (upd H l (.lst (xs++zs)))
theorem zhH:MtM X "list.extend" zkI:=by
 intro pins s σ H x vs v us Q I rx rv h
 obtain⟨l,b,xs,zs,rfl,rfl,hH,hB,hz,q⟩:=h
 cases rx
 obtain⟨u,rfl,ru⟩:=rv.one
 cases ru
 obtain⟨z,its,n,r,hl,e⟩:=I.lstM hH
 obtain⟨z2,its2,n2,r2,hl2,e2⟩:=I.lstM hB
 have hsz:its.toArray.size + its2.toArray.size≤sizeLine:=by rw[List.size_toArray,List.size_toArray];omega
 have hlong:¬ (!its.toArray.isEmpty && Builtin.List.listTooLong (its.toArray.size + its2.toArray.size))=true:=by
  rw[zgm hsz,Bool.and_false]
  exact Bool.false_ne_true
 refine call_meets F.slot_list_extend ⟨_,e,rfl⟩ F.entry_list_extend (F.args_list_extend_2 _ _)
  (AutoSeq1.list_extend_list_list_0 l its.toArray n b its2.toArray n2 hlong (by rw[List.size_toArray];omega) (by omega)) ⟨e,e2,?_⟩
 refine⟨.non,_,I.lset (its':=its++its2) hH e (by simp) (r.append r2) ?_,rfl,q⟩
 rw[List.length_append]
 omega
def rCat:R2:=fun x y H Q=>∃ l b xs zs,x=.ref l∧y=.ref b∧H l=some (.lst xs)∧H b=some (.lst zs)∧xs.length + zs.length≤sizeLine∧∀ p,H p=none→Q (.ref p) (upd H p (.lst (xs++zs)))
theorem zjZ:OpR X (binaryOp .Add) rCat:=by
 intro pins s σ H x y v u Q I rx ry h
 obtain⟨l,b,xs,zs,rfl,rfl,hH,hB,hz,q⟩:=h
 cases rx
 cases ry
 obtain⟨z,its,n,r,hl,e⟩:=I.lstM hH
 obtain⟨z2,its2,n2,r2,hl2,e2⟩:=I.lstM hB
 refine PySem.P.add_list e e2 ?_ (by rw[List.size_toArray,List.size_toArray];omega)
 have ea:its.toArray++its2.toArray=(its++its2).toArray:=by simp
 rw[ea]
 exact⟨.ref _,_,I.lnew (t':=s.toks) (r.append r2) (by rw[List.length_append];omega),rfl,q _ I.fresh⟩
def rRep:R2:=fun x y H Q=>∃ l k xs,x=.ref l∧y=.int k∧H l=some (.lst xs)∧-(2 ^ 63)≤k∧k<2 ^ 63∧xs.length * k.toNat≤sizeLine ∧
 ∀ p,H p=none→Q (.ref p) (upd H p (.lst (List.replicate k.toNat xs).flatten))
theorem zkJ {α:Type} (xs:List α) (k:Nat):(List.replicate k xs).flatten.length=k * xs.length:=by
 induction k with
 | zero=>simp
 | succ k ih=>rw[List.replicate_succ,List.flatten_cons,List.length_append,ih,Nat.succ_mul,Nat.add_comm]
theorem zgn:OpR X (binaryOp .Mult) rRep:=by
 intro pins s σ H x y v u Q I rx ry h
 obtain⟨l,k,xs,rfl,rfl,hH,h1,h2,hz,q⟩:=h
 cases rx
 obtain⟨t,rfl⟩:=ry
 obtain⟨z,its,n,r,hl,e⟩:=I.lstM hH
 have hlen:its.toArray.size * k.toNat≤sizeLine:=by rw[List.size_toArray,← hl];exact hz
 have hcap:¬ its.toArray.size * k.toNat > (2 ^ 63 - 1) / 8:=by
  have:(sizeLine:Nat)≤(2 ^ 63 - 1) / 8:=by decide
  omega
 have hfit:¬ (!Builtin.List.listFitsIndex k)=true:=by
  rw[fitsIndex_both h1 h2]
  exact Bool.false_ne_true
 have hlong:¬ Builtin.List.listTooLong (its.toArray.size * k.toNat)=true:=by
  rw[zgm hlen]
  exact Bool.false_ne_true
 have hnew:List.foldl (fun x1 x2=>x1++x2) #[] (List.replicate (if its.toArray.isEmpty=true then 0 else k.toNat) its.toArray)=(List.replicate k.toNat its).flatten.toArray:=by
  have f0:∀ m:Nat,List.foldl (fun x1 x2=>x1++x2) #[] (List.replicate m its.toArray)=(List.replicate m its).flatten.toArray:=fun m=>by
   have:=zfq its m []
   rw[List.nil_append] at this
   exact this
  rw[f0]
  cases its with
  | nil=>simp
  | cons a r'=>rw[if_neg (by simp)]
 refine wpAny_binaryOp_repeat_ref (T:="list") (U:="int") (by decide) ⟨_,e,rfl⟩ (fun s'=>typeIs_int s' k t) noFill_list_mul F.fills_int_mul F.slot_int_rmul repeat_list F.slot_int_index.lookup
  (call_meets F.slot_int_rmul (typeIs_int s k t) F.entry_int_rmul (F.args_int_rmul_2 _ _) (int___rmul___int_list k t l its.toArray n)
   ⟨e,rfl,⟨_,e,rfl⟩,call_meets F.slot_list_mul ⟨_,e,rfl⟩ F.entry_list_mul (F.args_list_mul_2 _ _) (AutoListH.list___mul___list_int_3 l its.toArray n k t hfit hcap hlong) ⟨e,?_⟩⟩)
 rw[hnew]
 exact⟨.ref _,_,I.lnew (t':=s.toks) (r.rep k.toNat) (by rw[zkJ,Nat.mul_comm];exact hz),rfl,q _ I.fresh⟩
end
section
variable {prog:Program}{w:World}{A:Around}{E:Value→Shared→Prop}{s:Shared}
end
section
variable {X:Cx}
end
end L2
namespace L2
open PySem PySem.Spec PyProof.Rows
section
variable {κ:Type} [DecidableEq κ]
def zcP (kvs:List (κ×V)) (k:κ):Option V:=(kvs.find? fun kv=>decide (kv.1=k)).map (·.2)
def zbu (kvs:List (κ×V)) (k:κ) (v:V):List (κ×V):=
 if (kvs.any fun kv=>decide (kv.1=k))=true then kvs.map (fun kv=>if kv.1=k then(kv.1,v) else kv) else kvs++[(k,v)]
def zbY (kvs:List (κ×V)) (k:κ):List (κ×V):=kvs.filter fun kv=>decide (kv.1≠k)
theorem za5 {p:κ×V}{r:List (κ×V)}{k:κ} (e:p.1=k):zcP (p::r) k=some p.2:=by simp[zcP,List.find?_cons,e]
theorem zaY {p:κ×V}{r:List (κ×V)}{k:κ} (e:¬ p.1=k):zcP (p::r) k=zcP r k:=by simp[zcP,List.find?_cons,e]
theorem zc6 (k:κ):∀ kvs:List (κ×V),(kvs.any fun kv=>decide (kv.1=k))=(zcP kvs k).isSome
 | []=>rfl
 | p::r=>by
  rw[List.any_cons]
  by_cases e:p.1=k
  ·simp only[za5 e,decide_eq_true e,Bool.true_or,Option.isSome_some]
  ·rw[zaY e,decide_eq_false e,Bool.false_or];exact zc6 k r
theorem zgo (k j:κ) (y:V):∀ kvs:List (κ×V),zcP (kvs.map fun kv=>if kv.1=k then(kv.1,y) else kv) j=(zcP kvs j).map fun x=>if j=k then y else x
 | []=>rfl
 | p::r=>by
  have ih:=zgo k j y r
  rw[List.map_cons]
  by_cases h:p.1=k
  ·rw[if_pos h]
   by_cases e:p.1=j
   ·rw[za5 (p:=(p.1,y)) e,za5 e,Option.map_some,if_pos (e.symm.trans h)]
   ·rw[zaY (p:=(p.1,y)) e,zaY e,ih]
  ·rw[if_neg h]
   by_cases e:p.1=j
   ·rw[za5 (p:=p) e,za5 e,Option.map_some,if_neg (fun z=>h (e.trans z))]
   ·rw[zaY (p:=p) e,zaY e,ih]
theorem zfr (k j:κ) (y:V):∀ kvs:List (κ×V),zcP kvs k=none→zcP (kvs++[(k,y)]) j=if j=k then some y else zcP kvs j
 | [],_=>by
  by_cases e:k=j
  ·rw[if_pos e.symm];exact za5 (p:=(k,y)) e
  ·rw[if_neg (fun z=>e z.symm)];exact zaY (p:=(k,y)) e
 | p::r,hn=>by
  rw[List.cons_append]
  have hk:¬ p.1=k:=fun z=>by rw[za5 z] at hn;cases hn
  rw[zaY hk] at hn
  have ih:=zfr k j y r hn
  by_cases e:p.1=j
  ·rw[za5 e,za5 e,if_neg (fun z=>hk (e.trans z))]
  ·rw[zaY e,zaY e,ih]
theorem zgp (kvs:List (κ×V)) (k j:κ) (y:V):zcP (zbu kvs k y) j=if j=k then some y else zcP kvs j:=by
 unfold zbu
 by_cases a:(kvs.any fun kv=>decide (kv.1=k))=true
 ·rw[if_pos a,zgo]
  rw[zc6] at a
  by_cases e:j=k
  ·obtain⟨x,hx⟩:=Option.isSome_iff_exists.mp a
   rw[if_pos e,e,hx,Option.map_some,if_pos rfl]
  ·rw[if_neg e]
   cases zcP kvs j with
   | none=>rfl
   | some x=>rw[Option.map_some,if_neg e]
 ·rw[if_neg a]
  refine zfr k j y kvs ?_
  rw[zc6] at a
  cases q:zcP kvs k with
  | none=>rfl
  | some x=>rw[q] at a;exact(a rfl).elim
theorem zdP (kvs:List (κ×V)) (k:κ) (v:V):(zbu kvs k v).length≤kvs.length + 1:=by
 unfold zbu
 split
 ·rw[List.length_map];omega
 ·rw[List.length_append,List.length_cons,List.length_nil];omega
theorem zec.isSome_eq {o:Option V}{u:Option Value} (r:zec o u):o.isSome=u.isSome:=by
 cases o with
 | none=>cases u with
  | none=>rfl
  | some _=>exact(show False from r).elim
 | some _=>cases u with
  | none=>exact(show False from r).elim
  | some _=>rfl
theorem zec.getD {o:Option V}{u:Option Value}{d:V}{d':Value} (r:zec o u) (rd:zaQ d d'):zaQ (o.getD d) (u.getD d'):=by
 cases o with
 | none=>cases u with
  | none=>exact rd
  | some _=>exact(show False from r).elim
 | some _=>cases u with
  | none=>exact(show False from r).elim
  | some _=>exact r
theorem KV.val {kvs:List (κ×V)}{vs:List (κ×Value)} (r:KV kvs vs) (k:κ):zec (zcP kvs k) (valueAt vs k):=by
 unfold KV at r
 induction r with
 | nil=>exact True.intro
 | @cons p q ps qs h t ih=>
  obtain⟨h1,h2⟩:=h
  by_cases e:p.1=k
  ·have e':q.1=k:=h1.symm.trans e
   have b:valueAt (q::qs) k=some q.2:=by simp[valueAt,List.find?_cons,e']
   rw[za5 e,b];exact h2
  ·have e':¬ q.1=k:=fun z=>e (h1.trans z)
   have b:valueAt (q::qs) k=valueAt qs k:=by simp[valueAt,List.find?_cons,e']
   rw[zaY e,b];exact ih
theorem KV.any {kvs:List (κ×V)}{vs:List (κ×Value)} (r:KV kvs vs) (k:κ):(kvs.any fun kv=>decide (kv.1=k))=vs.any fun kv=>decide (kv.1=k):=by
 unfold KV at r
 induction r with
 | nil=>rfl
 | cons h t ih=>rw[List.any_cons,List.any_cons,ih,h.1]
theorem KV.repl {kvs:List (κ×V)}{vs:List (κ×Value)} (r:KV kvs vs) (k:κ){y:V}{u:Value} (ry:zaQ y u) :
  KV (kvs.map fun kv=>if kv.1=k then(kv.1,y) else kv) (vs.map fun kv=>if kv.1=k then(kv.1,u) else kv):=by
 unfold KV at r ⊢
 induction r with
 | nil=>exact .nil
 | @cons p q ps qs h t ih=>
  rw[List.map_cons,List.map_cons]
  refine .cons ?_ ih
  obtain⟨h1,h2⟩:=h
  by_cases e:p.1=k
  ·rw[if_pos e,if_pos (h1.symm.trans e)];exact⟨h1,ry⟩
  ·rw[if_neg e,if_neg (fun z=>e (h1.trans z))];exact⟨h1,h2⟩
theorem KV.put {kvs:List (κ×V)}{vs:List (κ×Value)} (r:KV kvs vs) (k:κ){y:V}{u:Value} (ry:zaQ y u):KV (zbu kvs k y) (stored vs k u):=by
 unfold zbu stored
 rw[r.any k]
 by_cases e:(vs.any fun kv=>decide (kv.1=k))=true
 ·rw[if_pos e,if_pos e];exact r.repl k ry
 ·rw[if_neg e,if_neg e];exact Paired.snoc r ⟨rfl,ry⟩
theorem KV.drop {kvs:List (κ×V)}{vs:List (κ×Value)} (r:KV kvs vs) (k:κ):KV (zbY kvs k) (without vs k):=by
 unfold KV at r ⊢
 unfold zbY without
 induction r with
 | nil=>exact .nil
 | @cons p q ps qs h t ih=>
  obtain⟨h1,h2⟩:=h
  rw[List.filter_cons,List.filter_cons]
  by_cases e:p.1=k
  ·have a:¬ decide (p.1≠k)=true:=by simp[e]
   have b:¬ decide (q.1≠k)=true:=by simp[h1.symm.trans e]
   rw[if_neg a,if_neg b];exact ih
  ·have e':¬ q.1=k:=fun z=>e (h1.trans z)
   have a:decide (p.1≠k)=true:=by simp[e]
   have b:decide (q.1≠k)=true:=by simp[e']
   rw[if_pos a,if_pos b];exact .cons ⟨h1,h2⟩ ih
theorem KV.length {kvs:List (κ×V)}{vs:List (κ×Value)} (r:KV kvs vs):kvs.length=vs.length:=Paired.length r
theorem zje (kvs:List (κ×V)) (k:κ):(zbY kvs k).length≤kvs.length:=List.length_filter_le _ _
end
theorem zf2 {P:Program}{w:World}{k:Key}{u:Value} (r:zaQ (kV k) u):(zaM P w).is k u=true:=by
 cases k with
 | inl i=>obtain⟨t,e⟩:=(show ∃ t,u=Value.int i t from r);subst e;exact zfZ P w i t
 | inr x=>obtain⟨t,e⟩:=(show ∃ t,u=Value.str x t from r);subst e;exact zf0 P w x t
theorem zfs {P:Program}{w:World}:∀ {ks:List Key}{us:List Value},zaX (ks.map kV) us→ItemsAre (zaM P w) ks us
 | [],_,r=>by rw[List.map_nil] at r;cases r;exact .nil
 | k::ks,_,r=>by
  rw[List.map_cons] at r
  cases r with
  | cons h t=>exact .cons (zf2 h) (zfs t)
abbrev KT (H:Hp):List (List Key×V)→List (List Key×Addr×Value)→Prop:=Paired fun p q=>p.1=q.1∧H q.2.1=some (.tup (p.1.map kV))∧zaQ p.2 q.2.2
theorem KT.val {H:Hp}{kvs:List (List Key×V)}{xs:List (List Key×Addr×Value)} (r:KT H kvs xs) (k:List Key):zec (zcP kvs k) ((atKey xs k).map (·.2)):=by
 induction r with
 | nil=>exact True.intro
 | @cons p q ps qs h t ih=>
  obtain⟨h1,_,h2⟩:=h
  by_cases e:p.1=k
  ·have e':q.1=k:=h1.symm.trans e
   have b:atKey (q::qs) k=some q.2:=by simp[atKey,List.find?_cons,e']
   rw[za5 e,b];exact h2
  ·have e':¬ q.1=k:=fun z=>e (h1.trans z)
   have b:atKey (q::qs) k=atKey qs k:=by simp[atKey,List.find?_cons,e']
   rw[zaY e,b];exact ih
theorem KT.repl {H:Hp}{kvs:List (List Key×V)}{xs:List (List Key×Addr×Value)} (r:KT H kvs xs) (k:List Key){y:V}{u:Value} (ry:zaQ y u) :
  KT H (kvs.map fun kv=>if kv.1=k then(kv.1,y) else kv) (xs.map (putAt k u)):=by
 induction r with
 | nil=>exact .nil
 | @cons p q ps qs h t ih=>
  rw[List.map_cons,List.map_cons]
  refine .cons ?_ ih
  obtain⟨h1,h2,h3⟩:=h
  unfold putAt
  by_cases e:p.1=k
  ·rw[if_pos e,if_pos (h1.symm.trans e)];exact⟨h1,h2,ry⟩
  ·rw[if_neg e,if_neg (fun z=>e (h1.trans z))];exact⟨h1,h2,h3⟩
theorem KT.put {H:Hp}{kvs:List (List Key×V)}{xs:List (List Key×Addr×Value)} (r:KT H kvs xs) (k:List Key){b:Addr}{y:V}{u:Value} (hb:H b=some (.tup (k.map kV))) (ry:zaQ y u) :
  KT H (zbu kvs k y) (storedH xs k b u):=by
 have e:(kvs.any fun kv=>decide (kv.1=k))=(atKey xs k).isSome:=by
  rw[zc6,(r.val k).isSome_eq,Option.isSome_map]
 unfold zbu storedH
 rw[e]
 by_cases q:(atKey xs k).isSome=true
 ·rw[if_pos q,if_pos q];exact r.repl k ry
 ·rw[if_neg q,if_neg q];exact Paired.snoc r ⟨rfl,hb,ry⟩
theorem KT.keeps {H H':Hp}{kvs:List (List Key×V)}{xs:List (List Key×Addr×Value)} (r:KT H kvs xs) (ht:∀ b ys,H b=some (.tup ys)→H' b=some (.tup ys)):KT H' kvs xs:=
 Paired.mapP r fun _ _ z=>⟨z.1,ht _ _ z.2.1,z.2.2⟩
section
variable {P:Program}{w:World}{H:Hp}{h:Heap}{a:Addr}
theorem rd_of {u:HO} (ok:HOk P w H h) (e:Rd H a u):zbt P w H h a u:=e.ok ok
theorem zf3 {kvs:List (Key×V)} (ok:HOk P w H h) (e:Rd H a (.dK kvs)):kvs.length≤sizeLine∧(a == sysModules)=false∧∃ vs,KV kvs vs∧h.DictOf (zaM P w) a vs:=
 show zbt P w H h a (.dK kvs) from rd_of ok e
theorem zhI {kvs:List (Key×V)} (ok:HOk P w H h) (e:H a=some (.dK kvs)):kvs.length≤sizeLine∧(a == sysModules)=false∧∃ vs,KV kvs vs∧h.DictOf (zaM P w) a vs:=zf3 ok (.inl e)
theorem zeg {ks:List Key} (ok:HOk P w H h) (e:H a=some (.tup (ks.map kV))):(tupleKind (zaM P w)).is h ks a:=by
 obtain⟨_,its,r,o,h1,h2,n,h3⟩:=(show zbt P w H h a (.tup (ks.map kV)) from ok a _ e)
 exact⟨o,its.toArray,n,h1,h2,h3,by simpa using zfs r⟩
theorem zf4 {kvs:List (List Key×V)} (ok:HOk P w H h) (e:Rd H a (.dT kvs)):kvs.length≤sizeLine∧(a == sysModules)=false ∧
  ∃ xs,KT H kvs xs∧h.DictOfH (tupleKind (zaM P w)) a xs:=by
 obtain⟨z,y,xs,r,o,es,ep,h1,h2,h3,h4,h5⟩:=(show zbt P w H h a (.dT kvs) from rd_of ok e)
 refine⟨z,y,xs,r,o,es,ep,h1,h2,h3,h4,fun x hx=>?_,h5⟩
 have all:∀ {l:List (List Key×V)}{m:List (List Key×Addr×Value)},KT H l m→∀ x∈m,(tupleKind (zaM P w)).is h x.1 x.2.1:=by
  intro l m q
  induction q with
  | nil=>intro x hx;exact nomatch hx
  | @cons p q ps qs hq t ih=>
   intro x hx
   rcases List.mem_cons.mp hx with e|hx
   ·subst e
    exact zeg ok (by rw[← hq.1];exact hq.2.1)
   ·exact ih x hx
 exact all r x hx
theorem dt_of {kvs:List (List Key×V)} (ok:HOk P w H h) (e:H a=some (.dT kvs)):kvs.length≤sizeLine∧(a == sysModules)=false ∧
  ∃ xs,KT H kvs xs∧h.DictOfH (tupleKind (zaM P w)) a xs:=zf4 ok (.inl e)
end
def zhg (H:Hp) (a:Addr) (y:V) (r:Option V):Prop:=
 (∃ kvs k,Rd H a (.dK kvs)∧y=kV k∧r=zcP kvs k)∨∃ kvs k b,Rd H a (.dT kvs)∧y=.ref b∧H b=some (.tup (k.map kV))∧r=zcP kvs k
def DPut (H:Hp) (a:Addr) (y v:V) (H':Hp):Prop:=
 (∃ kvs k,H a=some (.dK kvs)∧y=kV k∧kvs.length<sizeLine∧H'=upd H a (.dK (zbu kvs k v))) ∨
 ∃ kvs k b,H a=some (.dT kvs)∧y=.ref b∧H b=some (.tup (k.map kV))∧kvs.length<sizeLine∧H'=upd H a (.dT (zbu kvs k v))
section
variable {X:Cx}{pins:List (Addr×Obj)}{σ:St}{H:Hp}{s:Shared}{a:Addr}{y v:V}{u r:Value}{o:Option V}{A:Around}{E:Value→Shared→Prop}
theorem Inv.big (I:Inv X pins σ H s):sysModules<s.heap.objs.size:=by
 have h:mainGlobals<s.heap.objs.size:=(I.mod.glob.keeps I.bk).lt
 exact Nat.lt_trans (by decide) h
theorem zhJ {Q:Value→Shared→Prop} (hu:A.units + 1<cLine) (I:Inv X pins σ H s) (g:zhg H a y (some v)) (ry:zaQ y u) (h:∀ w' s',Inv X pins σ H s'→zaQ v w'→Q w' s') :
  wpAny (model X.prog X.w) A (getItem (.ref a) u) Q E s:=by
 rcases g with⟨kvs,k,e,ey,l⟩|⟨kvs,k,b,e,ey,eb,l⟩
 ·subst ey
  obtain⟨z,hd,vs,rel,dd⟩:=zf3 I.hok e
  obtain⟨w',hw,rw'⟩:=zec.some_of (v:=v) (o:=valueAt vs k) (by rw[l];exact rel.val k)
  exact wpAny_getItem_of (zf2 ry) dd.mapOf hw (h w' _ (I.tok _) rw')
 ·subst ey
  cases (show u=Value.ref b from ry)
  obtain⟨z,hd,xs,rel,dd⟩:=zf4 I.hok e
  obtain⟨w',hw,rw'⟩:=zec.some_of (v:=v) (o:=(atKey xs k).map (·.2)) (by rw[l];exact rel.val k)
  obtain⟨p,hp,hp2⟩:=Option.map_eq_some_iff.mp hw
  refine wpAny_getItem_heap (tupleKind_room_in1 hu) (zeg I.hok eb) dd hp ?_
  rw[hp2]
  exact h w' _ (I.tok _) rw'
theorem d_in {Q:Value→Shared→Prop} (hu:A.units + 1<cLine) (I:Inv X pins σ H s) (g:zhg H a y o) (ry:zaQ y u) (h:∀ s',Inv X pins σ H s'→Q (.bool o.isSome) s') :
  wpAny (model X.prog X.w) A (compareOp .In u (.ref a)) Q E s:=by
 rcases g with⟨kvs,k,e,ey,l⟩|⟨kvs,k,b,e,ey,eb,l⟩
 ·subst ey
  obtain⟨z,hd,vs,rel,dd⟩:=zf3 I.hok e
  refine wpAny_in_of (zf2 ry) hd dd.mapOf ?_
  rw[← (rel.val k).isSome_eq,← l]
  exact h _ (I.tok _)
 ·subst ey
  cases (show u=Value.ref b from ry)
  obtain⟨z,hd,xs,rel,dd⟩:=zf4 I.hok e
  refine wpAny_in_heap (tupleKind_room_in1 hu) (zeg I.hok eb) hd dd ?_
  have q:=(rel.val k).isSome_eq
  rw[Option.isSome_map] at q
  rw[← q,← l]
  exact h _ (I.tok _)
theorem zkK {Q:Value→Shared→Prop} (hu:A.units + 1<cLine) (I:Inv X pins σ H s) (g:zhg H a y o) (ry:zaQ y u) (h:∀ s',Inv X pins σ H s'→Q (.bool (!o.isSome)) s') :
  wpAny (model X.prog X.w) A (compareOp .NotIn u (.ref a)) Q E s:=by
 rcases g with⟨kvs,k,e,ey,l⟩|⟨kvs,k,b,e,ey,eb,l⟩
 ·subst ey
  obtain⟨z,hd,vs,rel,dd⟩:=zf3 I.hok e
  refine wpAny_notIn_of (zf2 ry) hd dd.mapOf ?_
  rw[← (rel.val k).isSome_eq,← l]
  exact h _ (I.tok _)
 ·subst ey
  cases (show u=Value.ref b from ry)
  obtain⟨z,hd,xs,rel,dd⟩:=zf4 I.hok e
  refine wpAny_notIn_heap (tupleKind_room_in1 hu) (zeg I.hok eb) hd dd ?_
  have q:=(rel.val k).isSome_eq
  rw[Option.isSome_map] at q
  rw[← q,← l]
  exact h _ (I.tok _)
theorem zf5 {h':Heap}{t':Nat}{ob:HO} (I:Inv X pins σ H s) (mu:Mut (H a)) (hs:Heap.SameBut a s.heap h') (he:∃ q,h'.get? a=some q) (new:zbt X.prog X.w (upd H a ob) h' a ob) :
  Inv X pins σ (upd H a ob) { s with heap:=h',toks:=t' }:=
 I.write (x:=a) (e:=a) mu (.inl rfl) (fun b q hb z=>(hs.2 b hb).trans z) he new
theorem zj0 {P:Program}{w:World}{H':Hp}{h':Heap}{kvs:List (Key×V)}{vs:List (Key×Value)} (z:kvs.length≤sizeLine) (hd:(a == sysModules)=false) (rel:KV kvs vs) (dd:h'.DictOf (zaM P w) a vs) :
  zbt P w H' h' a (.dK kvs):=⟨z,hd,vs,rel,dd⟩
theorem zhK {H':Hp}{Q:Unit→Shared→Prop} (hu:A.units + 1<cLine) (I:Inv X pins σ H s) (g:DPut H a y v H') (ry:zaQ y u) (rv:zaQ v r) (h:∀ s',Inv X pins σ H' s'→Q () s') :
  wpAny (model X.prog X.w) A (setItem (.ref a) u r) Q E s:=by
 rcases g with⟨kvs,k,e,ey,l,eH⟩|⟨kvs,k,b,e,ey,eb,l,eH⟩
 ·subst ey eH
  obtain⟨z,hd,vs,rel,dd⟩:=zhI I.hok e
  have hz:vs.length≤sizeLine:=by rw[← rel.length];exact z
  have hl:(zbu kvs k v).length≤sizeLine:=by have:=zdP kvs k v;omega
  refine wpAny_setItem_pairs (hsz:=hz) (zf2 ry) dd fun h' dd' hs=>h _ ?_
  have he:∃ q,h'.get? a=some q:=let ⟨q,_,_,hq,_⟩:=dd';⟨q,hq⟩
  exact zf5 I (by rw[e];exact True.intro) hs he (zj0 hl hd (rel.put k rv) dd')
 ·subst ey eH
  cases (show u=Value.ref b from ry)
  obtain⟨z,hd,xs,rel,dd⟩:=dt_of I.hok e
  have hz:xs.length≤sizeLine:=by rw[← Paired.length rel];exact z
  have hl:(zbu kvs k v).length≤sizeLine:=by have:=zdP kvs k v;omega
  refine wpAny_setItem_heap (hsz:=hz) (tupleKind_room_in1 hu) (zeg I.hok eb) dd fun h' dd' hs=>h _ ?_
  obtain⟨q,es,ep,hq,h2,h3,h4,_,h5⟩:=dd'
  refine zf5 I (by rw[e];exact True.intro) hs ⟨q,hq⟩ ⟨hl,hd,_,(rel.put k eb rv).keeps fun c ys ec=>?_,q,es,ep,hq,h2,h3,h4,h5⟩
  rw[zag (zgS ec e (fun z=>nomatch z))]
  exact ec
end
section
variable {X:Cx}{pins:List (Addr×Obj)}{σ:St}{H:Hp}{s:Shared}{a:Addr}{kvs:List (Key×V)}{k:Key}{u:Value}{A:Around}{E:Value→Shared→Prop}
theorem d_pop {v:V}{more:List Value}{Q:Value→Shared→Prop} (I:Inv X pins σ H s) (e:H a=some (.dK kvs)) (ry:zaQ (kV k) u) (l:zcP kvs k=some v) (hm:more=[]∨∃ x,more=[x])
  (h:∀ w' s',Inv X pins σ (upd H a (.dK (zbY kvs k))) s'→zaQ v w'→Q w' s'):wpAny (model X.prog X.w) A (call (.builtin "dict.pop") (.ref a::u::more)) Q E s:=by
 obtain⟨z,hd,vs,rel,dd⟩:=zhI I.hok e
 obtain⟨w',hw,rw'⟩:=zec.some_of (v:=v) (o:=valueAt vs k) (by rw[← l];exact rel.val k)
 have hp:(keyPart u).isSome=true:=by
  cases k with
  | inl i=>obtain⟨t,q⟩:=(show ∃ t,u=Value.int i t from ry);subst q;rfl
  | inr x=>obtain⟨t,q⟩:=(show ∃ t,u=Value.str x t from ry);subst q;rfl
 have ha:argsOk "dict.pop" ⟨.ref a::u::more,[]⟩:=by
  rcases hm with q|⟨x,q⟩
  ·subst q;exact PySem.F.args_dict_pop_2 _ _
  ·subst q;exact PySem.F.args_dict_pop_3 _ _ _
 refine call_meetsIn PySem.F.slot_dict_pop dd.typeIs PySem.F.entry_dict_pop ha (meets_dict_pop_there (zaM X.prog X.w) a (zf2 ry) more hm hp)
  ⟨vs,w',dd,by rw[← rel.length];exact z,hw,fun h' dd' hs=>h w' _ ?_ rw'⟩
 have he:∃ q,h'.get? a=some q:=let ⟨q,_,_,hq,_⟩:=dd';⟨q,hq⟩
 exact zf5 I (by rw[e];exact True.intro) hs he (zj0 (Nat.le_trans (zje kvs k) z) hd (rel.drop k) dd')
end
def NoSl (i:Expr):Prop:=∀ ov iv,subscripted i false ov iv=operate [ov,iv] (getItem ov iv)
theorem zkL {prog:Program}{w:World}{A:Around}{E:Value→Shared→Prop}{s:Shared}{env:Env}{value slice:Expr}{pos:Pos}{T id:String}{Q:Value→Shared→Prop}
  (hl:typeLookup (.type T) "__getitem__"=pure (some (.builtin id))) (hs:NoSl slice)
  (h:wpAny (model prog w) A (eval value env) (fun o s₁=>wpAny (model prog w) A (eval slice env) (fun i s₂=>s₂.TypeIs o T∧wpAny (model prog w) A (getItem o i) Q E s₂) E s₁) E s) :
  wpAny (model prog w) A (eval (.Subscript value slice pos) env) Q E s:=by
 refine Subscript_ (wpAny_mono h (fun o s₁ h₁=>wpAny_mono h₁ (fun i s₂ h₂=>?_) fun _ _ x=>x) fun _ _ x=>x)
 obtain⟨hT,h₂⟩:=h₂
 unfold subscriptTail
 refine wpAny_bind ?_
 rw[getitemInPython_of_ne hT.not_modules]
 refine wpAny_bind (wpAny_specialOf hT hl ?_)
 have fin:wpAny (model prog w) A (subscripted slice false o i) (fun r s₃=>wpAny (model prog w) A (letTemporaryGo value o r >>= fun _=>pure r) Q E s₃) E s₂:=by
  rw[hs o i]
  exact wpAny_operating (wpAny_mono h₂ (fun r s₃ h₃=>wpAny_bind (wpAny_letTemporaryGo (wpAny_pure h₃))) fun _ _ x=>x)
 first
  | exact wpAny_pure (wpAny_bind fin)
  | exact wpAny_bind (wpAny_pure (wpAny_bind fin))
  | exact wpAny_bind fin
theorem zf6 {X:Cx}{pins:List (Addr×Obj)}{σ:St}{H:Hp}{s:Shared}{a:Addr}{y:V}{o:Option V} (I:Inv X pins σ H s) (g:zhg H a y o):s.TypeIs (.ref a) "dict":=by
 rcases g with⟨kvs,k,e,_,_⟩|⟨kvs,k,b,e,_,_,_⟩
 ·obtain⟨_,_,vs,_,dd⟩:=zf3 I.hok e
  exact dd.typeIs
 ·obtain⟨_,_,xs,_,dd⟩:=zf4 I.hok e
  exact dd.typeIs
def tDGet (td ty:TE):TE:=fun σ H Q=>td σ H fun x H1=>ty σ H1 fun y H2=>∃ a v,x=.ref a∧zhg H2 a y (some v)∧Q v H2
def tDIn (ty td:TE):TE:=fun σ H Q=>ty σ H fun y H1=>td σ H1 fun x H2=>∃ a o,x=.ref a∧zhg H2 a y o∧Q (.bl o.isSome) H2
def zkM (ty td:TE):TE:=fun σ H Q=>ty σ H fun y H1=>td σ H1 fun x H2=>∃ a o,x=.ref a∧zhg H2 a y o∧Q (.bl (!o.isSome)) H2
def sDPut (td ty tv:TE):TS:=fun D σ H=>tv σ H fun v H1=>td σ H1 fun x H2=>ty σ H2 fun y H3=>∃ a H4,x=.ref a∧DPut H3 a y v H4∧D.nx σ H4
section
variable {X:Cx}{o i e value:Expr}{pos pos' tpos:Pos}{td ty tv:TE}
theorem zbZ (hu:X.A.units + 1<cLine) (ho:PE X o td) (hi:PE X i ty) (hs:NoSl i):PE X (.Subscript o i pos) (tDGet td ty):=by
 intro pins s σ H Q I h
 refine zkL PySem.F.slot_dict_getitem.lookup hs (thn (ho pins s σ H _ I h) fun u s1=>L2.ex5 fun x H1 I1 rx q1=>thn (hi pins s1 σ H1 _ I1 q1) fun iv s2=>L2.ex5 fun y H2 I2 ry hq_=>?_)
 obtain⟨a,v,ex,g,q2⟩:=hq_
 subst ex
 obtain rfl:u=Value.ref a:=rx
 exact⟨zf6 I2 g,zhJ hu I2 g ry fun w' s3 I3 rw'=>⟨v,H2,I3,rw',q2⟩⟩
theorem pc_din (hu:X.A.units + 1<cLine) (hi:PE X i ty) (ho:PE X o td):PC X .In i o (tDIn ty td):=by
 intro pins s σ H Q I h
 refine thn (hi pins s σ H _ I h) fun iv s1=>L2.ex5 fun y H1 I1 ry q1=>thn (ho pins s1 σ H1 _ I1 q1) fun u s2=>L2.ex5 fun x H2 I2 rx hq_=>?_
 obtain⟨a,ov,ex,g,q2⟩:=hq_
 subst ex
 obtain rfl:u=Value.ref a:=rx
 exact d_in hu I2 g ry fun s3 I3=>⟨.bl ov.isSome,H2,I3,rfl,q2⟩
theorem zft (hu:X.A.units + 1<cLine) (hi:PE X i ty) (ho:PE X o td):PC X .NotIn i o (zkM ty td):=by
 intro pins s σ H Q I h
 refine thn (hi pins s σ H _ I h) fun iv s1=>L2.ex5 fun y H1 I1 ry q1=>thn (ho pins s1 σ H1 _ I1 q1) fun u s2=>L2.ex5 fun x H2 I2 rx hq_=>?_
 obtain⟨a,ov,ex,g,q2⟩:=hq_
 subst ex
 obtain rfl:u=Value.ref a:=rx
 exact zkK hu I2 g ry fun s3 I3=>⟨.bl (!ov.isSome),H2,I3,rfl,q2⟩
theorem zdi (hu:X.A.units + 1<cLine) (ho:PE X o td) (hi:PE X i ty) (hv:PE X value tv) (hs:swapsWith value (some (.Subscript o i pos')) pos.line X.env=pure false) :
  PS X (.Assign [.Subscript o i pos'] value pos) (sDPut td ty tv):=by
 intro pins s σ H D I h
 refine wpAny_Assign_Subscript (thn (hv pins s σ H _ I h) fun r s1=>L2.ex5 fun v H1 I1 rv q1=>thn (ho pins s1 σ H1 _ I1 q1) fun u s2=>L2.ex5 fun x H2 I2 rx q2=>thn (hi pins s2 σ H2 _ I2 q2) fun iv s3=>L2.ex5 fun y H3 I3 ry hq_=>?_) hs
 obtain⟨a,H4,ex,g,q3⟩:=hq_
 subst ex
 obtain rfl:u=Value.ref a:=rx
 exact zhK hu I3 g ry rv fun s4 I4=>⟨σ,H4,I4,q3⟩
end
theorem zjf {P:Program}{w:World}{H:Hp} (h:Heap) (hb:sysModules<h.objs.size):zbt P w H (h.push { cls:=.type "dict",data:=.dict #[] }) h.objs.size (.dK []):=
 ⟨Nat.zero_le _,beq_eq_false_iff_ne.mpr (Ne.symm (Nat.ne_of_lt hb)),[],.nil,Heap.DictOf.new h⟩
def tDNewK:TE:=fun _ H Q=>∀ p,H p=none→Q (.ref p) (upd H p (.dK []))
section
variable {X:Cx}{pos:Pos}
theorem zc7:PE X (.Dict [] [] pos) tDNewK:=fun pins s σ H Q I h=>
 wpAny_Dict_empty ⟨.ref s.heap.objs.size,_,I.laid (a:=s.heap.objs.size) (o:=.dK []) (t':=s.toks) (fun _ _ q=>Heap.get?_push_of_some _ q) (Nat.le_refl _) (zjf s.heap I.big),rfl,h _ (I.hok.fresh (Nat.le_refl _))⟩
end
structure M1 (X:Cx) (o:Expr) (m:Str) (apos:Pos) (e:Expr) (cpos:Pos):Prop where
 base:attributeBase o m X.env (eval o X.env)=eval o X.env
 few:((backTo cpos (starEach [e] X.env)).all (fun x=>!x.1) && (backToKw cpos (keywordEach [] X.env)).all (fun x=>x.1.isSome)
  && decide (([e]:List Expr).length + ([]:List Keyword).length + (if ([]:List Keyword).isEmpty then 0 else 1)<30))=true
 line:(apos.endLine == cpos.line)=true
 trees:backTo cpos (starEach [e] X.env)=[(false,eval e X.env)]
structure M2 (X:Cx) (o:Expr) (m:Str) (apos:Pos) (e f:Expr) (cpos:Pos):Prop where
 base:attributeBase o m X.env (eval o X.env)=eval o X.env
 few:((backTo cpos (starEach [e,f] X.env)).all (fun x=>!x.1) && (backToKw cpos (keywordEach [] X.env)).all (fun x=>x.1.isSome)
  && decide (([e,f]:List Expr).length + ([]:List Keyword).length + (if ([]:List Keyword).isEmpty then 0 else 1)<30))=true
 line:(apos.endLine == cpos.line)=true
 trees:backTo cpos (starEach [e,f] X.env)=[(false,eval e X.env),(false,eval f X.env)]
def IsD (H:Hp) (a:Addr):Prop:=(∃ kvs,Rd H a (.dK kvs))∨∃ kvs,Rd H a (.dT kvs)
theorem zj1 {X:Cx}{pins:List (Addr×Obj)}{σ:St}{H:Hp}{s:Shared}{a:Addr} (I:Inv X pins σ H s) (d:IsD H a) :
  s.TypeIs (.ref a) "dict"∧(∀ b,Value.ref a=.ref b→∃ ob,s.heap.get? b=some ob∧ob.dict=none)∧(a == sysModules)=false:=by
 rcases d with⟨kvs,e⟩|⟨kvs,e⟩
 ·obtain⟨_,hd,vs,_,dd⟩:=zf3 I.hok e
  refine⟨dd.typeIs,fun b q=>?_,hd⟩
  cases q
  obtain⟨ob,_,_,h1,h2,_⟩:=dd
  exact⟨ob,h1,h2.2.1⟩
 ·obtain⟨_,hd,xs,_,dd⟩:=zf4 I.hok e
  refine⟨dd.typeIs,fun b q=>?_,hd⟩
  cases q
  obtain⟨ob,_,_,h1,h2,_⟩:=dd
  exact⟨ob,h1,h2.2.1⟩
section
variable {X:Cx}{pins:List (Addr×Obj)}{σ:St}{H:Hp}{s:Shared}{a:Addr}{y d:V}{u r:Value}{o:Option V}{A:Around}{E:Value→Shared→Prop}
theorem d_get2 {Q:Value→Shared→Prop} (hu:A.units + 1<cLine) (I:Inv X pins σ H s) (g:zhg H a y o) (ry:zaQ y u) (rd:zaQ d r) (h:∀ w' s',Inv X pins σ H s'→zaQ (o.getD d) w'→Q w' s') :
  wpAny (model X.prog X.w) A (call (.builtin "dict.get") [.ref a,u,r]) Q E s:=by
 rcases g with⟨kvs,k,e,ey,l⟩|⟨kvs,k,b,e,ey,eb,l⟩
 ·subst ey
  obtain⟨z,hd,vs,rel,dd⟩:=zf3 I.hok e
  refine call_meetsIn PySem.F.slot_dict_get dd.typeIs PySem.F.entry_dict_get (PySem.F.args_dict_get_3 _ _ _) (meets_dict_get_default (zaM X.prog X.w) a (zf2 ry) hd r) ⟨_,dd.mapOf,h _ _ (I.tok _) ?_⟩
  rw[l]
  exact(rel.val k).getD rd
 ·subst ey
  cases (show u=Value.ref b from ry)
  obtain⟨z,hd,xs,rel,dd⟩:=zf4 I.hok e
  refine call_meetsIn PySem.F.slot_dict_get dd.typeIs PySem.F.entry_dict_get (PySem.F.args_dict_get_3 _ _ _) (meetsH_dict_get_default (tupleKind (zaM X.prog X.w)) a b hd r) ⟨tupleKind_room_in1 hu,k,xs,zeg I.hok eb,dd,h _ _ (I.tok _) ?_⟩
  rw[l]
  exact(rel.val k).getD rd
end
def tDGet2 (td ty tx:TE):TE:=fun σ H Q=>td σ H fun x H1=>∃ a,x=.ref a∧IsD H1 a∧ty σ H1 fun y H2=>tx σ H2 fun z H3=>∃ o,zhg H3 a y o∧Q (o.getD z) H3
def tDPop1 (td ty:TE):TE:=fun σ H Q=>td σ H fun x H1=>∃ a,x=.ref a∧IsD H1 a∧ty σ H1 fun y H2=>∃ kvs k v,H2 a=some (.dK kvs)∧y=kV k∧zcP kvs k=some v∧Q v (upd H2 a (.dK (zbY kvs k)))
section
variable {X:Cx}{o e f:Expr}{apos cpos:Pos}{td ty tx:TE}
theorem zjg (hu:X.A.units + 1<cLine) (ho:PE X o td) (he:PE X e ty) (hf:PE X f tx) (m:M2 X o "get" apos e f cpos):PE X (.Call (.Attribute o "get" apos) [e,f] [] cpos) (tDGet2 td ty tx):=by
 intro pins s σ H Q I h
 refine wpAny_Call_method m.base m.few m.line PySem.F.plainAttrs_dict PySem.F.slot_dict_get PySem.F.type_dict_get (thn (ho pins s σ H _ I h) fun u s1=>L2.ex5 fun x H1 I1 rx hq_=>?_)
 obtain⟨a,ex,d,q1⟩:=hq_
 subst ex
 obtain rfl:u=Value.ref a:=rx
 obtain⟨t1,t2,_⟩:=zj1 I1 d
 refine⟨t1,t2,?_⟩
 rw[m.trees]
 refine Calls.callWith_builtin rfl (Calls.evalArgs_plain (Calls.spliced_cons (thn (he pins s1 σ H1 _ I1 q1) fun iv s2=>L2.ex5 fun y H2 I2 ry q2=>
  Calls.spliced_cons (thn (hf pins s2 σ H2 _ I2 q2) fun fv s3 ⟨z,H3,I3,rz,ov,g,q3⟩=>Calls.spliced_nil ?_))))
 exact d_get2 hu I3 g ry rz fun w' s4 I4 rw'=>⟨_,H3,I4,rw',q3⟩
theorem zjh (ho:PE X o td) (he:PE X e ty) (m:M1 X o "pop" apos e cpos):PE X (.Call (.Attribute o "pop" apos) [e] [] cpos) (tDPop1 td ty):=by
 intro pins s σ H Q I h
 refine wpAny_Call_method m.base m.few m.line PySem.F.plainAttrs_dict PySem.F.slot_dict_pop PySem.F.type_dict_pop (thn (ho pins s σ H _ I h) fun u s1=>L2.ex5 fun x H1 I1 rx hq_=>?_)
 obtain⟨a,ex,d,q1⟩:=hq_
 subst ex
 obtain rfl:u=Value.ref a:=rx
 obtain⟨t1,t2,_⟩:=zj1 I1 d
 refine⟨t1,t2,?_⟩
 rw[m.trees]
 refine Calls.callWith_builtin rfl (Calls.evalArgs_plain (Calls.spliced_cons (thn (he pins s1 σ H1 _ I1 q1) fun iv s2 ⟨y,H2,I2,ry,kvs,k,v,ea,ey,l,q2⟩=>Calls.spliced_nil ?_)))
 subst ey
 exact d_pop I2 ea ry l (.inl rfl) fun w' s3 I3 rw'=>⟨v,_,I3,rw',q2⟩
end
section
variable {X:Cx}{pins:List (Addr×Obj)}{σ:St}{H:Hp}{s:Shared}{a:Addr}{kvs:List (Key×V)}{A:Around}{E:Value→Shared→Prop}
end
section
variable {X:Cx}{pins:List (Addr×Obj)}{σ:St}{H:Hp}{s:Shared}{a:Addr}{y:V}{u:Value}{A:Around}{E:Value→Shared→Prop}
end
end L2
namespace Att
open PySem PySem.W PySem.Calls PyProof.Rows
theorem zdQ {P:Params}{h:Heap}:∀ (ns:List Int) (vs:List Value),WellAll P h vs (ns.map WData.int)→IntsAre vs ns:=by
 intro ns
 induction ns with
 | nil=>
  intro vs w
  rw[List.map_nil] at w
  cases w
  exact .nil
 | cons n ns ih=>
  intro vs w
  rw[List.map_cons] at w
  cases w with
  | cons a b=>
   cases a
   exact .cons _ _ (ih _ b)
theorem zhL {l:OpenLaw}{n:Nat} (hn:l.most=some n){P:Params}{h:Heap}{args:List WData}{vals:List Value}
  (hpre:l.row.toRowW.claim.pre args=true) (hwl:WellAll P h vals args) :
  ∃ a vs ns,vals=[Value.ref a]∧args=[WData.list (ns.map WData.int)]∧h.get? a=some { cls:=.type "list",data:=.seq vs.toArray }∧IntsAre vs ns∧ns.length≤n:=by
 have hsh:WShape.hasAll [] args [.list .int]=true:=(pre_splitW hpre).1
 have hc:l.pre.holds [] { args:=args }=true:=(pre_splitW hpre).2
 obtain⟨d,r,rfl,h1,h2⟩:=hasAllW_cons hsh
 obtain rfl:=hasAllW_nil h2
 obtain⟨xs,rfl,h3⟩:=hasW_list h1
 obtain⟨ns,rfl⟩:=items_int h3
 have hlen:ns.length≤n:=by
  unfold OpenLaw.pre at hc
  have h4:(WTm.not (.lt (.lit (.int (n:Int))) (.len (.arg 0)))).holds [] { args:=[.list (ns.map .int)] }=true:=by
   have h4:=(holds_andW hc).1
   rw[hn] at h4
   exact h4
  have h5:=condW_of h4 (w_not (w_lt w_lit (w_len_list (w_arg rfl))))
  rw[List.length_map] at h5
  refine Nat.le_of_not_lt fun q=>?_
  have q':(n:Int)<((ns.length:Nat):Int):=by omega
  first
   | (rw[decide_eq_true q'] at h5;exact absurd h5 (by decide))
   | (simp at h5;omega)
 cases hwl with
 | cons w1 w2=>
  cases w2
  cases w1 with
  | list ho hall=>exact⟨_,_,ns,rfl,rfl,ho,zdQ ns _ hall,hlen⟩
theorem zhM (l:OpenLaw) (args:List WData):l.row.toRowW.claim.post args (.bool true) args=true:=
 postW_of (r:=l.row.toRowW) (X:=(true == true))
  (show WShape.has [] (.bool true) .bool=true by first|rfl|decide|simp[WShape.has,WShape.arms,WShape.armsAll])
  (show(WTm.eq .res (.lit (.bool true))).value [] { args:=args,res:=some (.bool true),after:=args }=some (.bool (true == true)) from w_eq_bool (w_res rfl) w_lit) rfl
theorem zf7 {l:OpenLaw}{n:Nat}{q:Program}{loose:List Str}{XP:(Str→Option Value)→Heap→Prop}{YP:World→Heap→Prop}{d:DefRec}
  (hn:l.most=some n) (hdf:d.params.defaults=[])
  (call:∀ (w:World) (s₀ s₁:Shared) (mg mb:Str→Option Value) (fa:Addr) (o:Obj) (pm cd doc:Value) (a:Addr) (vs:List Value) (ns:List Int),
   Ground q loose [] XP w s₀ mg mb s₁.heap→YP w s₁.heap →
   s₁.heap.get? fa=some o→o.data=.func (docDef d.name d.params d.body d.scope pm cd doc)→s₁.heap.CodeRec cd d.name→mg d.name=some (.ref fa) →
   s₁.heap.get? a=some { cls:=.type "list",data:=.seq vs.toArray }→IntsAre vs ns→ns.length≤n→s₁.gens=#[] →
   codeAny (model l.prog w) callerA (.call (.ref fa) ⟨[.ref a],[]⟩) (fun r s'=>r=.ok (.ret (.bool true))∧OldK s₁.heap s'.heap∧s'.os=s₁.os∧AllBare s'.gens) s₁) :
  WalkO q loose XP YP l.row.toRowW d [] (fun f vs=>PySem.call f vs):=by
 intro w s₀ s₁ mg mb G Y fa o pm cd doc dV kV ho hd hcd hD hmg hg args vals as hpre hlay hrd hwl hlo
 obtain rfl:dV=.none:=Dflts.none hD hdf
 obtain rfl:kV=.none:=Dflts.noKw hD
 obtain⟨a,vs,ns,rfl,rfl,hobj,hints,hlen⟩:=zhL hn hpre hwl
 refine enter_call (codeAny_mono (call w s₀ s₁ mg mb fa o pm cd doc a vs ns G Y ho (fd_plain hd) hcd hmg hobj hints hlen hg) fun r s' hq=>?_)
 obtain⟨rfl,h2,h3,h4⟩:=hq
 exact⟨.inl ⟨.bool true,.bool true,[],rfl,fun _=>rfl,.bool true,zhM l _,fun _=>⟨List.Pairwise.nil,fun _ hm=>(nomatch hm)⟩⟩,h2,h3,h4⟩
section
variable {prog:Program}{w:World}{A:Around}{E:Value→Shared→Prop}{s:Shared}{K:Frag}
end
end Att
namespace L2
open PySem PySem.Spec PyProof.Rows
theorem zfu:∀ {vs:List Value}{ns:List Int},IntsAre vs ns→zaX (ns.map V.int) vs
 | _,_,.nil=>.nil
 | _,_,.cons n t h=>.cons ⟨t,rfl⟩ (zfu h)
end L2
namespace L2
open PySem PySem.Spec PyProof.Rows
end L2
namespace L2
open PySem PySem.Spec PyProof.Rows
def zeH (s:Stmt) (j:Nat):Stmt:=match s with
 | .ClassDef _ _ _ body _ _ _ _ _ _ _=>body.getD j (.Pass ⟨0,0,0,0⟩)
 | _=>.Pass ⟨0,0,0,0⟩
def zaB (s:Stmt):Arguments:=match s with
 | .FunctionDef _ a _ _ _ _ _ _ _ _=>a
 | _=>{ posonlyargs:=[],args:=[],vararg:=none,kwonlyargs:=[],kw_defaults:=[],kwarg:=none,defaults:=[] }
def zaw (s:Stmt):List Stmt:=match s with
 | .FunctionDef _ _ b _ _ _ _ _ _ _=>b
 | _=>[]
def zae (s:Stmt):Scope:=match s with
 | .FunctionDef _ _ _ _ _ _ sc _ _ _=>sc
 | _=>{ kind:=.function,names:=[],isGenerator:=false,isCoroutine:=false }
abbrev CX0:CXT:=fun _ _ _ _ _ _=>False
abbrev E0:XK:=fun _ _ _=>False
theorem zkN {X:Cx}:zdO CX0 X E0:=fun _ _ _ _ _ _ _ h=>h.elim
structure Fun (K:PySem.W.Frag) (x qual:Str) (st:Stmt) (f:Addr) (fd:FuncData):Prop where
 ex:∃ (oc:Value) (od:Option Addr) (kV doc pm:Value) (an:Option Addr) (cdv ct:Value) (osl:Array (Option Value)),
  fd=PySem.W.fnOf x qual (zaB st) (zaw st) (zae st) .none kV doc pm an cdv ct∧K.lookup f=some ⟨oc,od,.func fd,osl⟩∧PySem.W.codeIn K cdv qual=true
 kp:PySem.W.keepIn K (.ref f)=true
section
variable {P:Program}{w:World}{K:PySem.W.Frag}{mg:Str→Option Value}{base:Heap}
end
theorem zb1 {A:Around}{k:Nat} (hr:zb9 k A):A.units + 1<cLine:=Nat.lt_of_le_of_lt (Nat.add_le_add_left (by decide:1≤64) _) hr.units
section
variable {X:Cx}
theorem pv (i:Nat){x:Str}{pos:Pos} (hN:X.N[i]?=some x:=by rfl) (hv:Vis X.env.scope x:=by first|exact Or.inl rfl|exact Or.inr (Or.inl rfl)|exact Or.inr (Or.inr rfl)) (hd:(x == ("__debug__":Str))=false:=by decide)
  (hcd:(x == ("__classdict__":Str))=false:=by decide):PE X (.Name x pos) (tVar i):=pe_var hN hv hd hcd
end
theorem zcL {A B:Prop} (h:B):if false=true then A else B:=by
 rw[if_neg Bool.false_ne_true]
 exact h
theorem zd8 {A B:Prop} (h:A):if true=true then A else B:=by
 rw[if_pos rfl]
 exact h
def zaj (H H':Hp):Prop:=∀ b o,H b=some o→H' b=some o
theorem zaj.refl (H:Hp):zaj H H:=fun _ _ h=>h
theorem zaj.trans {H H1 H2:Hp} (a:zaj H H1) (b:zaj H1 H2):zaj H H2:=fun c o h=>b c o (a c o h)
theorem zaj.seq {K:PySem.W.Frag}{H H':Hp}{a:Addr}{xs:List V} (e:zaj H H') (h:SqL K H a xs):SqL K H' a xs:=by
 rcases h with(h|⟨o,h⟩)|h
 ·exact .inl (.inl (e _ _ h))
 ·exact .inl (.inr ⟨o,e _ _ h⟩)
 ·exact .inr h
section
variable {κ:Type} [DecidableEq κ]
end
end L2
namespace L2
open PySem PySem.Spec PyProof.Rows
def zb0 (cells:List (Str×Addr)):List (Str×NameKind)→List (Str×Addr)→List (Str×Addr)
 | [],acc=>acc
 | (n,k)::r,acc=>zb0 cells r (if (k == NameKind.free)=true then(n,(cells.lookup n).getD 0)::acc else acc)
theorem zbN {scope:Scope}{env:Env} (h:∀ y∈scope.names,y.2=.free→(env.cells.lookup y.1).isSome=true) :
  closureFor scope env=pure (zb0 env.cells scope.names []):=by
 simp only[closureFor]
 generalize scope.names=l at h ⊢
 generalize ([]:List (Str×Addr))=acc
 induction l generalizing acc with
 | nil=>rfl
 | cons x r ih=>
  obtain⟨n,k⟩:=x
  have hr:=fun y hy=>h y (List.mem_cons_of_mem _ hy)
  by_cases hk:k=.free
  ·subst hk
   obtain⟨c,hc⟩:=Option.isSome_iff_exists.mp (h (n,.free) List.mem_cons_self rfl)
   have ih':=ih hr ((n,c)::acc)
   simp only[List.forIn_cons,cellOf,hc,zb0,beq_self_eq_true,if_true,Option.getD_some] at ih' ⊢
   exact ih'
  ·have hb:(k == NameKind.free)=false:=by simpa using hk
   have ih':=ih hr acc
   simp only[List.forIn_cons,zb0,hb,Bool.false_eq_true,if_false] at ih' ⊢
   exact ih'
theorem zc8 {cells:List (Str×Addr)}{x:Str}{c:Addr}:∀ {l:List (Str×NameKind)}{acc:List (Str×Addr)},(∀ y∈l,y.2=.free→(cells.lookup y.1).isSome=true) →
  (zb0 cells l acc).lookup x=some c→acc.lookup x=some c∨cells.lookup x=some c
 | [],_,_,h=>.inl h
 | (n,k)::r,acc,hf,h=>by
  have hr:∀ y∈r,y.2=.free→(cells.lookup y.1).isSome=true:=fun y hy=>hf y (List.mem_cons_of_mem _ hy)
  by_cases hk:k=.free
  ·subst hk
   rcases zc8 (l:=r) hr (show(zb0 cells r ((n,(cells.lookup n).getD 0)::acc)).lookup x=some c from h) with q|q
   ·rw[List.lookup_cons] at q
    by_cases hx:x=n
    ·subst hx
     rw[beq_self_eq_true] at q
     obtain⟨c',hc⟩:=Option.isSome_iff_exists.mp (hf (x,.free) List.mem_cons_self rfl)
     have hc:cells.lookup x=some c':=hc
     rw[hc] at q ⊢
     exact .inr q
    ·rw[beq_eq_false_iff_ne.mpr hx] at q
     exact .inl q
   ·exact .inr q
  ·have hb:¬ (k == NameKind.free)=true:=by simpa using hk
   have h':(zb0 cells r (if (k == NameKind.free)=true then(n,(cells.lookup n).getD 0)::acc else acc)).lookup x=some c:=h
   rw[if_neg hb] at h'
   exact zc8 hr h'
theorem zcr {cells:List (Str×Addr)}{x:Str}:∀ {l:List (Str×NameKind)}{acc:List (Str×Addr)},((x,NameKind.free)∈l∨(acc.lookup x).isSome=true)→((zb0 cells l acc).lookup x).isSome=true
 | [],_,h=>by
  rcases h with h|h
  ·cases h
  ·exact h
 | (n,k)::r,acc,h=>by
  show((zb0 cells r (if (k == NameKind.free)=true then(n,(cells.lookup n).getD 0)::acc else acc)).lookup x).isSome=true
  refine zcr ?_
  rcases h with h|h
  ·rcases List.mem_cons.mp h with e|e
   ·cases e
    right
    rw[if_pos (by rfl),List.lookup_cons,beq_self_eq_true]
    rfl
   ·exact .inl e
  ·right
   by_cases hb:(k == NameKind.free)=true
   ·rw[if_pos hb,List.lookup_cons]
    cases hx:x == n with
    | true=>rfl
    | false=>exact h
   ·rw[if_neg hb]
    exact h
theorem zdR (c:Bool){n x:Str}{k:NameKind}{r:List (Str×NameKind)} (hx:(x == n)=true):((if c=true then(n,NameKind.cell) else(n,k))::r).lookup x=some (if c=true then .cell else k):=by
 cases c <;> simp[List.lookup_cons,hx]
theorem zfv (c:Bool){n x:Str}{k:NameKind}{r:List (Str×NameKind)} (hx:(x == n)=false):((if c=true then(n,NameKind.cell) else(n,k))::r).lookup x=r.lookup x:=by
 cases c <;> simp[List.lookup_cons,hx]
theorem zdq {env:Env}:∀ {names:List (Str×NameKind)}{x:Str},names.lookup x=some .free →
  (names.map fun(n,k)=>if (k == NameKind.free && env.scope.kind == .function && env.kindOf n == some .cell) then(n,NameKind.cell) else(n,k)).lookup x=some .cell ∨
  (names.map fun(n,k)=>if (k == NameKind.free && env.scope.kind == .function && env.kindOf n == some .cell) then(n,NameKind.cell) else(n,k)).lookup x=some .free
 | [],_,h=>by simp at h
 | (n,k)::r,x,h=>by
  have ih:=@zdq env r x
  rw[List.lookup_cons] at h
  rw[List.map_cons]
  cases hx:x == n with
  | true=>
   rw[hx] at h
   cases h
   dsimp only
   rw[zdR _ hx]
   cases (NameKind.free == NameKind.free && env.scope.kind == .function && env.kindOf n == some .cell) with
   | true=>exact .inl rfl
   | false=>exact .inr rfl
  | false=>
   rw[hx] at h
   dsimp only
   rw[zfv _ hx]
   exact ih h
theorem zcs {env:Env}:∀ {names:List (Str×NameKind)}{x:Str}{k':NameKind},(k'=.cell∨k'=.free) →
  (names.map fun(n,k)=>if (k == NameKind.free && env.scope.kind == .function && env.kindOf n == some .cell) then(n,NameKind.cell) else(n,k)).lookup x=some k' →
  ∃ k,(k=.free∨k=.cell)∧(x,k)∈names
 | [],_,_,_,h=>by simp at h
 | (n,k)::r,x,k',hk,h=>by
  have ih:=@zcs env r x k' hk
  rw[List.map_cons] at h
  dsimp only at h
  cases hx:x == n with
  | true=>
   have e:x=n:=eq_of_beq hx
   subst e
   rw[zdR _ hx] at h
   cases hc:(k == NameKind.free && env.scope.kind == .function && env.kindOf x == some .cell) with
   | true=>
    simp only[Bool.and_eq_true,beq_iff_eq] at hc
    obtain⟨⟨rfl,_⟩,_⟩:=hc
    exact⟨.free,.inl rfl,List.mem_cons_self⟩
   | false=>
    rw[hc] at h
    have h:some k=some k':=h
    cases h
    rcases hk with rfl|rfl
    ·exact⟨_,.inr rfl,List.mem_cons_self⟩
    ·exact⟨_,.inl rfl,List.mem_cons_self⟩
  | false=>
   rw[zfv _ hx] at h
   obtain⟨k2,h1,h2⟩:=ih h
   exact⟨k2,h1,List.mem_cons_of_mem _ h2⟩
def zb2 (X:Cx) (scope:Scope) (cl:List (Str×Addr)) (C:Addr) (N:List Str) (s:Shared) (H:Hp) (fp:List Addr) (pins:List (Addr×Obj)):Cx:=
 { X with N:=N,s₀:=s,H₀:=H,env:=compEnvC scope cl C X.env,outer:=X.stack,stack:=X.stack,ex:=fp,fn:=fun _=>false,pn:=X.pn++pins,xe:=fun _ _=>False }
def zgq (cap:List (Option Nat)) (σ:St):St:=cap.map fun o=>o.bind fun j=>(σ[j]?).join
def isCF:Option NameKind→Bool
 | some .cell=>true
 | some .free=>true
 | _=>false
def zcQ (sc:Scope) (XN:List Str):List (Option Nat)→List Str→Bool
 | [],[]=>true
 | some j::r,x::xs=>(XN[j]? == some x) && (sc.names.lookup x == some NameKind.free) && zcQ sc XN r xs
 | none::r,_::xs=>zcQ sc XN r xs
 | _,_=>false
def zb3 (osc sc:Scope) (XN N:List Str) (cap:List (Option Nat)):Bool:=
 (sc.kind == ScopeKind.function) && sc.names.all (fun y=>y.2 != NameKind.cell) && sc.names.all (fun y=>y.2 != NameKind.local || sc.names.lookup y.1 == some NameKind.local) &&
 sc.names.all (fun y=>y.2 != NameKind.free || isCF (osc.names.lookup y.1)) && zcQ sc XN cap N
theorem zc9 {sc:Scope}{XN:List Str}:∀ {cap:List (Option Nat)}{N:List Str},zcQ sc XN cap N=true→cap.length=N.length
 | [],[],_=>rfl
 | some _::r,_::xs,h=>by
  simp only[zcQ,Bool.and_eq_true] at h
  simp[zc9 h.2]
 | none::r,_::xs,h=>by
  simp only[zcQ] at h
  simp[zc9 h]
 | [],_::_,h=>by simp[zcQ] at h
 | some _::_,[],h=>by simp[zcQ] at h
 | none::_,[],h=>by simp[zcQ] at h
theorem zda {sc:Scope}{XN:List Str}:∀ {cap:List (Option Nat)}{N:List Str}{i j:Nat}{x:Str},zcQ sc XN cap N=true→cap[i]?=some (some j)→N[i]?=some x→XN[j]?=some x∧sc.names.lookup x=some .free
 | [],_,i,_,_,_,h,_=>by simp at h
 | some _::r,y::xs,0,j,x,h,h1,h2=>by
  simp only[zcQ,Bool.and_eq_true,beq_iff_eq] at h
  simp at h1 h2
  subst h1;subst h2
  exact⟨h.1.1,h.1.2⟩
 | some _::r,y::xs,i + 1,j,x,h,h1,h2=>by
  simp only[zcQ,Bool.and_eq_true] at h
  exact zda (i:=i) h.2 (by simpa using h1) (by simpa using h2)
 | none::r,y::xs,0,j,x,h,h1,h2=>by simp at h1
 | none::r,y::xs,i + 1,j,x,h,h1,h2=>by
  simp only[zcQ] at h
  exact zda (i:=i) h (by simpa using h1) (by simpa using h2)
 | some _::_,[],_,_,_,h,_,_=>by simp[zcQ] at h
 | none::_,[],_,_,_,h,_,_=>by simp[zcQ] at h
section
variable {X:Cx}{pins:List (Addr×Obj)}{σ:St}{H:Hp}{s:Shared}{scope:Scope}{N:List Str}{cap:List (Option Nat)}{fp:List Addr}
theorem Inv.clos (I:Inv X pins σ H s) (ok:zb3 X.env.scope scope X.N N cap=true):∀ y∈scope.names,y.2=.free→(X.env.cells.lookup y.1).isSome=true:=fun y hy hf=>by
 simp only[zb3,Bool.and_eq_true,List.all_eq_true] at ok
 have h:=ok.1.2 y hy
 rw[hf] at h
 have h':isCF (X.env.scope.names.lookup y.1)=true:=by simpa using h
 have hk:X.env.kindOf y.1=some .cell∨X.env.kindOf y.1=some .free:=by
  show X.env.scope.names.lookup y.1=_∨X.env.scope.names.lookup y.1=_
  cases e:X.env.scope.names.lookup y.1 with
  | none=>rw[e] at h';cases h'
  | some k=>
   rw[e] at h'
   cases k <;> first|exact .inl rfl|exact .inr rfl|cases h'
 obtain⟨c,e⟩:=I.ok.has y.1 hk
 rw[e]
 rfl
theorem Inv.comp (I:Inv X pins σ H s) (ok:zb3 X.env.scope scope X.N N cap=true) (f:∀ b∈fp,zcm X pins H b) (fo:∀ b∈fp,∃ o,s.heap.get? b=some o){h₁:Heap}{tk:Nat}{fo':Obj}
  (hn:h₁.Ns (s.heap.push { cls:=.type "list",data:=.seq #[] }).objs.size (fun _=>none))
  (hs:Heap.SameBut (s.heap.push { cls:=.type "list",data:=.seq #[] }).objs.size ((s.heap.push { cls:=.type "list",data:=.seq #[] }).push fo') h₁) :
  Inv (zb2 X scope (zb0 X.env.cells scope.names []) (s.heap.push { cls:=.type "list",data:=.seq #[] }).objs.size N { s with heap:=s.heap.push { cls:=.type "list",data:=.seq #[] } } (upd H s.heap.objs.size (.lst [])) fp pins)
   [] (zgq cap σ) (upd H s.heap.objs.size (.lst [])) { s with heap:=h₁,toks:=tk }:=by
 have okC:=ok
 simp only[zb3,Bool.and_eq_true,List.all_eq_true,beq_iff_eq] at ok
 obtain⟨⟨⟨⟨hkind,hcell⟩,_⟩,_⟩,hcap⟩:=ok
 have cl:=I.clos okC
 have hC:(s.heap.push { cls:=.type "list",data:=.seq #[] }).objs.size=s.heap.objs.size + 1:=Heap.size_push ..
 generalize hCC:(s.heap.push { cls:=.type "list",data:=.seq #[] }).objs.size=C at hn hs hC ⊢
 have below:∀ b o,s.heap.get? b=some o→b≠C∧b≠s.heap.objs.size:=fun b o e=>by
  have:=Heap.lt_size e
  exact⟨by rw[hC];exact Nat.ne_of_lt (Nat.lt_succ_of_lt this),Nat.ne_of_lt this⟩
 have old:∀ b o,s.heap.get? b=some o→h₁.get? b=some o:=fun b o e=>hs.extBut b o (below b o e).1 (Heap.get?_push_of_some _ (Heap.get?_push_of_some _ e))
 have up3:∀ b o,s.heap.get? b=some o→(s.heap.push { cls:=.type "list",data:=.seq #[] }).get? b=some o:=fun b o e=>Heap.get?_push_of_some _ e
 have old3:∀ b o,(s.heap.push { cls:=.type "list",data:=.seq #[] }).get? b=some o→h₁.get? b=some o:=fun b o e=>by
  have:b<C:=by rw[← hCC];exact Heap.lt_size e
  exact hs.extBut b o (Nat.ne_of_lt this) (Heap.get?_push_of_some _ e)
 have hD:H s.heap.objs.size=none:=I.hok.fresh (Nat.le_refl _)
 have free3:∀ b o,s.heap.get? b=some o→H b=none→upd H s.heap.objs.size (.lst []) b=none:=fun b o e n=>by rw[zag (below b o e).2];exact n
 have hCn:upd H s.heap.objs.size (.lst []) C=none:=by
  rw[zag (by rw[hC];exact Nat.ne_of_gt (Nat.lt_succ_self _))]
  exact I.hok.fresh (by rw[hC];exact Nat.le_succ _)
 have cellsIn:∀ x c,(zb0 X.env.cells scope.names []).lookup x=some c→X.env.cells.lookup x=some c:=fun x c e=>by
  rcases zc8 cl e with q|q
  ·simp at q
  ·exact q
 have cellO:∀ x c,(zb0 X.env.cells scope.names []).lookup x=some c→∃ v o,s.heap.IsCell c v∧s.heap.get? c=some o:=fun x c e=>by
  obtain⟨v,q⟩:=I.cell x c (cellsIn x c e)
  obtain⟨o,ho,_⟩:=id q
  exact⟨v,o,q,ho⟩
 have hok3:HOk X.prog X.w (upd H s.heap.objs.size (.lst [])) h₁:=I.hok.laid old (Nat.le_refl _) (show zbt X.prog X.w _ h₁ s.heap.objs.size (.lst []) from⟨Nat.zero_le _,[],0,.nil,old3 _ _ (Heap.get?_push_size _ rfl)⟩)
 have stkb:∀ b∈frs X.stack,∃ o,s.heap.get? b=some o:=fun b hb=>by
  obtain⟨_,o,ho,_⟩:=I.stack.mem hb
  exact⟨o,ho⟩
 refine⟨⟨I.ok.mod,hkind,I.ok.glob,I.ok.blt,Nat.le_of_eq hCC,fun y z c h1 h2=>I.ok.inj y z c (cellsIn y c h1) (cellsIn z c h2),fun y hy=>?_,fun y c hf _=>Bool.noConfusion hf,I.hdAt.new hD,I.ok.frames,.inl rfl,fun b hb=>?_,
   fun b o e=>⟨up3 b o (I.bs b o e).1,free3 b o (I.bs b o e).1 (I.bs b o e).2⟩,?_,fun b o e hb=>?_,fun b hb hb2=>?_,?_,fun b hb=>?_⟩,
  rfl,I.bare,Un.kept old3,⟨_,hn,fun i x v h1 h2 h3=>?_⟩,fun x c e=>?_,hCn,fun x c e=>?_,fun p hp=>?_,hok3,?_⟩
 ·-- has
  have hy:(relabel scope X.env).names.lookup y=some .cell∨(relabel scope X.env).names.lookup y=some .free:=hy
  have:(y,NameKind.free)∈scope.names:=by
   rcases hy with q|q
   ·obtain⟨k,hk,hm⟩:=zcs (.inl rfl) q
    rcases hk with rfl|rfl
    ·exact hm
    ·exact absurd (show(NameKind.cell != NameKind.cell)=true from hcell _ hm) (by decide)
   ·obtain⟨k,hk,hm⟩:=zcs (.inr rfl) q
    rcases hk with rfl|rfl
    ·exact hm
    ·exact absurd (show(NameKind.cell != NameKind.cell)=true from hcell _ hm) (by decide)
  exact Option.isSome_iff_exists.mp (zcr (.inl this))
 ·-- exf
  obtain⟨o,e⟩:=fo b hb
  exact⟨(below b o e).1,fun x c q=>(f b hb).2.2.2.2.1 x c (cellsIn x c q)⟩
 ·-- bsz
  show X.base.objs.size≤(s.heap.push { cls:=.type "list",data:=.seq #[] }).objs.size
  rw[Heap.size_push]
  exact Nat.le_succ_of_le (Nat.le_trans I.ok.bsz I.sz)
 ·-- noex
  rcases(f b hb).2.2.2.1 with q|q
  ·exact I.ok.noex b o e q
  ·exact absurd (Nat.lt_of_lt_of_le (Heap.lt_size (I.ok.bs b o e).1) q) (Nat.lt_irrefl _)
 ·-- exfs
  rcases List.mem_cons.mp (I.stkSub b hb2) with q|q
  ·exact(f b hb).2.1 q
  ·exact(f b hb).2.2.1 q
 ·-- funs
  exact I.stack.of_keeps fun b o e _=>⟨o,up3 b o e,rfl⟩
 ·-- frf
  obtain⟨o,e⟩:=stkb b hb
  exact free3 b o e (I.stkFree b hb)
 ·-- loc
  have hi:∃ j,cap[i]?=some (some j)∧σ[j]?=some (some v):=by
   unfold zgq at h2
   rw[List.getElem?_map] at h2
   cases e:cap[i]? with
   | none=>rw[e] at h2;cases h2
   | some o=>
    rw[e] at h2
    cases o with
    | none=>cases h2
    | some j=>
     refine⟨j,rfl,?_⟩
     have h2':(σ[j]?).join=some v:=Option.some.inj h2
     cases e2:σ[j]? with
     | none=>rw[e2] at h2';cases h2'
     | some o2=>rw[e2] at h2';rw[show o2=some v from h2']
  obtain⟨j,hj,hv⟩:=hi
  obtain⟨hX,hfr⟩:=zda hcap hj h1
  have hmem:(x,NameKind.free)∈scope.names:=PySem.mem_of_lookup hfr
  have hcf:=okC
  simp only[zb3,Bool.and_eq_true,List.all_eq_true] at hcf
  have h':isCF (X.env.scope.names.lookup x)=true:=by simpa using hcf.1.2 _ hmem
  have hk:X.env.scope.names.lookup x=some .cell∨X.env.scope.names.lookup x=some .free:=by
   cases e:X.env.scope.names.lookup x with
   | none=>rw[e] at h';cases h'
   | some k=>
    rw[e] at h'
    cases k <;> first|exact .inl rfl|exact .inr rfl|cases h'
  obtain⟨m,_,hl⟩:=I.loc
  obtain⟨u,ru,lk⟩:=hl j x v hX hv (hk.elim (fun q=>.inr (.inl q)) fun q=>.inr (.inr q))
  refine⟨u,ru,.inr ⟨zdq hfr,?_⟩⟩
  rcases lk with⟨q,_⟩|⟨_,c,hc,hcell2⟩
  ·have q':X.env.scope.names.lookup x=some .local:=q
   rcases hk with z|z
   ·rw[z] at q';cases q'
   ·rw[z] at q';cases q'
  ·obtain⟨c',hc'⟩:=Option.isSome_iff_exists.mp (zcr (cells:=X.env.cells) (acc:=[]) (.inl hmem))
   have:c'=c:=by
    have:=cellsIn x c' hc'
    rw[hc] at this
    exact(Option.some.inj this).symm
   subst this
   obtain⟨o,ho,hd⟩:=hcell2
   exact⟨c',hc',o,old c' o ho,hd⟩
 ·-- cell
  obtain⟨v,o,⟨o',ho,hd⟩,_⟩:=cellO x c e
  exact⟨v,o',old c o' ho,hd⟩
 ·-- freeC
  obtain⟨v,o,_,ho⟩:=cellO x c e
  exact free3 c o ho (I.freeC x c (cellsIn x c e))
 ·-- pins
  have hp':p∈X.pn++pins:=by simpa [zb2] using hp
  obtain⟨e,n,ne,nf,d⟩:=I.pin p hp'
  refine⟨old _ _ e,free3 _ _ e n,(below _ _ e).1,fun z=>?_,d⟩
  rcases List.mem_cons.mp (I.stkSub p.1 z) with q|q
  ·exact ne q
  ·exact nf q
 ·-- len
  show(zgq cap σ).length=N.length
  unfold zgq
  rw[List.length_map]
  exact zc9 hcap
end
section
variable {prog:Program}{w:World}{A:Around}{R:Result→Shared→Prop}{s:Shared}
theorem zf8 {elt target iter:Expr}{ifs:List Expr}{scope:Scope}{pos:Pos}{it acc:Value}{env:Env} (J:Nat→Shared→Prop)
  (zbI:∀ n s,J n s→wpAny (model prog w) A (pyNext it) (fun r s₁=>match r with
   | none=>R (.ok .next) s₁
   | some v=>wpAny (model prog w) A (letOwnedTupleGo target it v) (fun _ s₂=>wpAny (model prog w) A (assign target env v) (fun _ s₃=>
     wpAny (model prog w) A (forIn ifs true fun c r=>if r=true then do let ok ← isTrue c env (eval c env);pure (ForInStep.yield ok) else pure (ForInStep.yield r)) (fun ok s₄=>
      if ok=true then wpAny (model prog w) A (eval elt env) (fun x s₅=>
       wpAny (model prog w) A (call (.builtin "list.append") [acc,x]) (fun _ s₆=>∃ m,m<n∧J m s₆) (fun _ _=>False) s₅) (fun _ _=>False) s₄
      else ∃ m,m<n∧J m s₄) (fun _ _=>False) s₃) (fun _ _=>False) s₂) (fun _ _=>False) s₁) (fun _ _=>False) s)
  (n:Nat) (h:J n s):codeAny (model prog w) A (.compLoop (.ListComp elt [⟨target,iter,ifs,0⟩] scope pos) 0 it acc env) R s:=by
 have no:∀ {E:Value→Shared→Prop} (e:Value) (s':Shared),(fun(_:Value) (_:Shared)=>False) e s'→E e s':=fun _ _ z=>z.elim
 refine codeAny_loop rfl J (fun n s hI=>?_) n h
 show wpAny _ A ((compTurn (.ListComp elt [⟨target,iter,ifs,0⟩] scope pos) 0 it acc env).onRaise (fun x=>do noteFrame x env;theTreesLotGoes x)) _ _ s
 refine wpAny_noted ?_
 rw[compTurn_list]
 refine wpAny_bind (wpAny_standAt (wpAny_bind (wpAny_mono (zbI n s hI) (fun r s₁ h₁=>?_) no)))
 cases r with
 | none=>exact wpAny_pure h₁
 | some v=>
  refine wpAny_bind (wpAny_mono h₁ (fun _ s₂ h₂=>wpAny_bind (wpAny_mono h₂ (fun _ s₃ h₃=>wpAny_bind (wpAny_mono h₃ (fun ok s₄ h₄=>?_) no)) no)) no)
  cases ok with
  | false=>exact wpAny_pure ⟨rfl,h₄⟩
  | true=>
   exact wpAny_bind (wpAny_bind (wpAny_mono h₄ (fun x s₅ h₅=>wpAny_bind (wpAny_mono h₅ (fun _ s₆ h₆=>wpAny_pure (wpAny_pure ⟨rfl,h₆⟩)) no)) no))
end
def PIf (X:Cx) (cs:List Expr) (t:TT):Prop:=
 ∀ (pins:List (Addr×Obj)) (s:Shared) (σ:St) (H:Hp) (Q:Bool→Hp→Prop),Inv X pins σ H s→t σ H Q →
  wpAny (model X.prog X.w) X.A (forIn cs true fun c r=>if r=true then do let ok ← isTrue c X.env (eval c X.env);pure (ForInStep.yield ok) else pure (ForInStep.yield r)) (TP X pins σ Q) X.xe s
def zd7:TT:=fun _ H Q=>Q true H
theorem zaW {X:Cx}:PIf X [] zd7:=fun _ _ _ H _ I h=>wpAny_tests_nil ⟨H,I,h⟩
theorem zcR {X:Cx}{c:Expr}{t:TT} (h:PT X c t):PIf X [c] t:=fun pins s σ H Q I hq=>wpAny_tests_one (h pins s σ H Q I hq)
def zhN (J:It) (D:Addr) (τ:St) (H:Hp) (g:TG) (tt:TT) (te:TE) (Q:VK):Prop:=
 ∃ W:Nat→Nat→St→Hp→Prop,(∃ m,W 0 m τ H)∧∀ i m τ H,W i m τ H →
  (J.stop i H∧Q (.ref D) H)∨(J.go i H∧∃ M:St→Hp→Prop,(∀ τ' H',M τ' H'→∃ m',m'<m∧W (i + 1) m' τ' H')∧∀ x H',J.yld i H x H'→g x τ H' fun τ2 H2=>tt τ2 H2 fun b H3=>
   if b=true then te τ2 H3 fun y H4=>∃ ys,H4 D=some (.lst ys)∧ys.length<sizeLine∧M τ2 (upd H4 D (.lst (ys++[y]))) else M τ2 H3)
def tComp (wi:TI) (cap:List (Option Nat)) (g:TG) (tt:TT) (te:TE):TE:=fun σ H Q=>wi σ H fun J H1=>∀ D,H1 D=none→zhN J D (zgq cap σ) (upd H1 D (.lst [])) g tt te Q
section
variable {X:Cx}{elt tg iter:Expr}{ifs:List Expr}{scope:Scope}{pos:Pos}{N:List Str}{cap:List (Option Nat)}{wi:TI}{g:TG}{tt:TT}{te:TE}
theorem zeh {pins:List (Addr×Obj)}{σ:St}{H:Hp}{s:Shared}{J:It}{fp:List Addr}{it:Addr}{tn:Nat→Heap→Prop}{Q:VK}{E:Value→Shared→Prop}{RR:Value→Addr→Result→Shared→Prop}
  (hc:X.calm=true) (ok:zb3 X.env.scope scope X.N N cap=true)
  (hg:∀ cl C s H fp pins,PG (zb2 X scope cl C N s H fp pins) tg g) (hf:∀ cl C s H fp pins,PIf (zb2 X scope cl C N s H fp pins) ifs tt) (he:∀ cl C s H fp pins,PE (zb2 X scope cl C N s H fp pins) elt te)
  (I:Inv X pins σ H s) (T:zkv X.prog X.w X.K tg J fp it tn) (st:tn 0 s.heap) (f:∀ b∈fp,zcm X pins H b)
  (q:∀ D,H D=none→zhN J D (zgq cap σ) (upd H D (.lst [])) g tt te Q)
  (fin:∀ D C H' s' m,Inv X pins σ H' s'→zcm X pins H' C→s'.heap.Ns C m→Q (.ref D) H'→RR (.ref D) C (.ok .next) s') :
  wpAny (model X.prog X.w) X.A (newList []) (fun acc s₃=>wpAny (model X.prog X.w) X.A (newFunctionEnv scope X.env.globals (zb0 X.env.cells scope.names []) [] X.env.qual none .none (some X.env)) (fun cenv s₄=>
   codeAny (model X.prog X.w) X.A (.compStart (.ListComp elt [⟨tg,iter,ifs,0⟩] scope pos) 0 (.ref it) acc { cenv with scope:=relabel scope X.env }) (RR acc cenv.locals) s₄) E s₃) E s:=by
 have ok':=ok
 simp only[zb3,Bool.and_eq_true,List.all_eq_true,beq_iff_eq] at ok'
 obtain⟨⟨⟨⟨hkind,hcell⟩,_⟩,_⟩,hcap⟩:=ok'
 refine wpAny_newObj_type (wpAny_newFunctionEnv (fun y hy=>by simpa using hcell y hy) (by intro y hy;simp at hy) (fun h₁ hns₁ hsb₁=>?_) hkind)
 dsimp only at hns₁ hsb₁ ⊢
 have fo:∀ b∈fp,∃ o,s.heap.get? b=some o:=fun b hb=>let ⟨o,e,_⟩:=T.obj _ _ st b hb;⟨o,e⟩
 have J0:=I.comp (h₁:=h₁) (tk:=s.toks + ([]:List (Str×Value)).length) ok f fo hns₁ hsb₁
 have hDfree:H s.heap.objs.size=none:=I.hok.fresh (Nat.le_refl _)
 obtain⟨W,⟨m0,w0⟩,zbI⟩:=q _ hDfree
 generalize hY:zb2 X scope (zb0 X.env.cells scope.names []) (s.heap.push { cls:=.type "list",data:=.seq #[] }).objs.size N { s with heap:=s.heap.push { cls:=.type "list",data:=.seq #[] } } (upd H s.heap.objs.size (.lst [])) fp pins=Y at J0
 have below:∀ b∈fp,b<s.heap.objs.size:=fun b hb=>let ⟨o,e⟩:=fo b hb;Heap.lt_size e
 have cl:=I.clos ok
 have stat:∀ {H':Hp},(∀ b∈fp,H' b=none)→∀ b∈fp,zcm Y [] H' b:=fun {H'} hn b hb=>by
  subst hY
  refine⟨hn b hb,?_,fun z=>?_,.inl hb,fun x c e=>?_,fun p hp=>?_⟩
  ·show b≠(s.heap.push { cls:=.type "list",data:=.seq #[] }).objs.size
   rw[Heap.size_push]
   exact Nat.ne_of_lt (Nat.lt_succ_of_lt (below b hb))
  ·rcases List.mem_cons.mp (I.stkSub b z) with q|q
   ·exact(f b hb).2.1 q
   ·exact(f b hb).2.2.1 q
  ·refine(f b hb).2.2.2.2.1 x c ?_
   rcases zc8 cl e with z|z
   ·simp at z
   ·exact z
  ·exact(f b hb).2.2.2.2.2 p (by simpa [zb2] using hp)
 have hgY:PG Y tg g:=hY ▸ hg _ _ _ _ _ _
 have hfY:PIf Y ifs tt:=hY ▸ hf _ _ _ _ _ _
 have heY:PE Y elt te:=hY ▸ he _ _ _ _ _ _
 have e1:Y.prog=X.prog:=by subst hY;rfl
 have e2:Y.w=X.w:=by subst hY;rfl
 have e3:Y.K=X.K:=by subst hY;rfl
 have e4:Y.calm=true:=by subst hY;exact hc
 have e5:Y.A=X.A:=by subst hY;rfl
 have e6:Y.env=compEnvC scope (zb0 X.env.cells scope.names []) (s.heap.push { cls:=.type "list",data:=.seq #[] }).objs.size X.env:=by subst hY;rfl
 have e7:Y.xe=fun _ _=>False:=by subst hY;rfl
 have hfp0:∀ b∈fp,upd H s.heap.objs.size (.lst []) b=none:=fun b hb=>by rw[zag (Nat.ne_of_lt (below b hb))];exact(f b hb).1
 have st0:tn 0 h₁:=T.keep _ _ _ st fun b hb o e=>hsb₁.extBut b o (by
  have:=below b hb
  rw[Heap.size_push]
  exact Nat.ne_of_lt (Nat.lt_succ_of_lt this)) (Heap.get?_push_of_some _ (Heap.get?_push_of_some _ e))
 have loop:∀ s₃:Shared,s₃={ s with heap:=h₁,toks:=s.toks + ([]:List (Str×Value)).length } →
   codeAny (model X.prog X.w) X.A (.compLoop (.ListComp elt [⟨tg,iter,ifs,0⟩] scope pos) 0 (.ref it) (.ref s.heap.objs.size)
    (compEnvC scope (zb0 X.env.cells scope.names []) (s.heap.push { cls:=.type "list",data:=.seq #[] }).objs.size X.env)) (RR (.ref s.heap.objs.size) (s.heap.push { cls:=.type "list",data:=.seq #[] }).objs.size) s₃:=by
  rintro s₃ rfl
  refine zf8 (fun n s'=>∃ i τ H',Inv Y [] τ H' s'∧tn i s'.heap∧(∀ b∈fp,H' b=none)∧W i n τ H') ?_ m0 ⟨0,_,_,J0,st0,hfp0,w0⟩
  rintro n s' ⟨i,τ,H',I',st',fr',w'⟩
  rcases zbI i n τ H' w' with⟨stop,qn⟩|⟨go,M,hM,step⟩
  ·have z:=T.done Y e1 e2 e3 e4 i [] s' τ H' (fun _ _=>False) I' (stat fr') st' stop
   rw[e5] at z
   refine thn z fun r s4 ⟨hr,I4⟩=>?_
   subst hr
   subst hY
   obtain⟨m,hn4,_⟩:=I4.loc
   have ho:s4.os=s.os:=I4.os
   have un:Un (frs X.stack) fp H H' s.heap s4.heap:=by
    have u1:Un (frs X.stack) fp H (upd H s.heap.objs.size (.lst [])) s.heap (s.heap.push { cls:=.type "list",data:=.seq #[] }):=Un.laid (fun b u e=>Heap.get?_push_of_some _ e) (Nat.le_refl _) hDfree
    exact u1.trans I4.base
   have IX:Inv X pins σ H' s4:=I.call' ho un I4.hok I4.bare fun b hb=>⟨(f b hb).2.2.2.1,(f b hb).2.1,(f b hb).2.2.2.2.1,(f b hb).2.2.2.2.2⟩
   exact fin _ _ H' s4 m IX (I.fpOk (by rw[Heap.size_push];exact Nat.le_succ _) I4.free) hn4 qn
  ·have z:=T.item Y e1 e2 e3 e4 i [] s' τ H' (fun _ _=>False) I' (stat fr') st' go
   rw[e5] at z
   refine thn z fun r s4 ⟨u,hr,h4⟩=>?_
   subst hr
   refine thn h4 fun _ s5=>L2.ex5 fun x H5 I5 r5 hq_=>?_
   obtain⟨y5,st5,fr5⟩:=hq_
   have I5':=I5.pinned (stat fr5) (T.obj _ _ st5)
   have zg:=hgY _ s5 τ H5 x u _ I5' r5 (step x H5 y5)
   rw[e1,e2,e5,e6,e7] at zg
   refine thn zg fun _ s6 ⟨τ6,H6,I6,q6⟩=>?_
   have zf:=hfY _ s6 τ6 H6 _ I6 q6
   rw[e1,e2,e5,e6,e7] at zf
   refine thn zf fun b s7=>L2.ex3 fun H7 I7 q7=>?_
   have again:∀ {H8:Hp}{s8:Shared},Inv Y ([]++zfg fp s5.heap) τ6 H8 s8→M τ6 H8→∃ m,m<n∧∃ i τ H',Inv Y [] τ H' s8∧tn i s8.heap∧(∀ b∈fp,H' b=none)∧W i m τ H':=fun {H8 s8} I8 w8=>by
    obtain⟨m',hm,w8⟩:=hM _ _ w8
    refine⟨m',hm,i + 1,τ6,H8,I8.unpinned,T.keep _ _ _ st5 fun b hb o e=>(I8.pin (b,o) (List.mem_append_right _ (List.mem_append_right _ (zcB hb e)))).1,fun b hb=>?_,w8⟩
    obtain⟨o,e,d⟩:=T.obj _ _ st5 b hb
    exact(I8.pin (b,o) (List.mem_append_right _ (List.mem_append_right _ (zcB hb e)))).2.1
   cases b with
   | false=>exact again I7 q7
   | true=>
    have ze:=heY _ s7 τ6 H7 _ I7 q7
    rw[e1,e2,e5,e6,e7] at ze
    refine thn ze fun v s8=>L2.ex5 fun y H8 I8 r8 hq_=>?_
    obtain⟨ys,hD,hz,q8⟩:=hq_
    have za:=zc5 (X:=Y) _ s8 τ6 H8 (.ref s.heap.objs.size) [y] (.ref s.heap.objs.size) [v] (fun _ H9=>H9=upd H8 s.heap.objs.size (.lst (ys++[y]))) I8 rfl (.cons r8 .nil) ⟨_,ys,y,rfl,rfl,hD,hz,rfl⟩
    rw[e1,e2,e5,e7] at za
    refine thn za fun _ s9 ⟨_,H9,I9,_,e9⟩=>?_
    subst e9
    exact again I9 q8
 exact codeAny_compStart_list (loop _ rfl) (T.self X.A 0 _ _ _ st0 (loop _ rfl))
theorem zaT {osc:Scope}{XN:List Str} (h1:X.env.scope=osc) (h2:X.N=XN) (ok:zb3 osc scope XN N cap=true):zb3 X.env.scope scope X.N N cap=true:=by
 rw[h1,h2]
 exact ok
theorem zaN (hc:X.calm=true) (ok:zb3 X.env.scope scope X.N N cap=true) (hi:PI X tg iter wi)
  (hg:∀ cl C s H fp pins,PG (zb2 X scope cl C N s H fp pins) tg g) (hf:∀ cl C s H fp pins,PIf (zb2 X scope cl C N s H fp pins) ifs tt) (he:∀ cl C s H fp pins,PE (zb2 X scope cl C N s H fp pins) elt te)
  (hs:∀ x,foldedSetIterable iter X.env x=pure x:=by intro _;rfl):PE X (.ListComp elt [⟨tg,iter,ifs,0⟩] scope pos) (tComp wi cap g tt te):=by
 intro pins s σ H Q I h
 have ok':=ok
 simp only[zb3,Bool.and_eq_true,List.all_eq_true,beq_iff_eq] at ok'
 obtain⟨⟨⟨⟨hkind,_⟩,hnames⟩,_⟩,_⟩:=ok'
 rw[eval_ListComp]
 refine wpAny_comprehension_free (use:=none) rfl hs (zbN (I.clos ok)) hkind (fun y hy hl=>by simpa [hl] using hnames y hy) (thn (hi pins s σ H _ I h) fun xv s1 h1=>thn h1 fun itv s2 h2=>?_)
 obtain⟨it,fp,tn,J,H2,e,I2,T,st2,f2,q⟩:=h2
 subst e
 refine zeh (RR:=fun acc C=>compPost (model X.prog X.w) X.A X.xe none (EP X pins σ Q) acc C) hc ok hg hf he I2 T st2 f2 q ?_
 intro D C H' s' m I' fC hn qn
 obtain⟨f0,f1,f2',f3,f4,f5⟩:=fC
 exact⟨m,hn,fun h' sb=>⟨.ref D,H',I'.turned (t':=s'.toks) (fun b o hb e=>sb.extBut b o hb e) f0 f1 f3 f4 f5,rfl,qn⟩⟩
theorem zdS {i:Nat}{x:Str}{pos' spos:Pos} (hN:X.N.Nodup) (hi':X.N[i]?=some x) (hx:X.env.scope.names.lookup x=some .local) (hc:X.calm=true) (ok:zb3 X.env.scope scope X.N N cap=true) (hi:PI X tg iter wi)
  (hg:∀ cl C s H fp pins,PG (zb2 X scope cl C N s H fp pins) tg g) (hf:∀ cl C s H fp pins,PIf (zb2 X scope cl C N s H fp pins) ifs tt) (he:∀ cl C s H fp pins,PE (zb2 X scope cl C N s H fp pins) elt te)
  (hsw:swapsWith (.ListComp elt [⟨tg,iter,ifs,0⟩] scope pos) (some (.Name x pos')) spos.line X.env=pure true)
  (hs:∀ x,foldedSetIterable iter X.env x=pure x:=by intro _;rfl) :
  PS X (.Assign [.Name x pos'] (.ListComp elt [⟨tg,iter,ifs,0⟩] scope pos) spos) (tAsg (tComp wi cap g tt te) (zbl i)):=by
 intro pins s σ H D I h
 have ok':=ok
 simp only[zb3,Bool.and_eq_true,List.all_eq_true,beq_iff_eq] at ok'
 obtain⟨⟨⟨⟨hkind,_⟩,hnames⟩,_⟩,_⟩:=ok'
 rw[exec_Assign_Name_used _ _ _ _ hsw]
 refine wpAny_bind (wpAny_standAt (wpAny_bind ?_))
 show wpAny _ X.A (do let _ ← comprehension (.ListComp elt [⟨tg,iter,ifs,0⟩] scope pos) scope X.env _ (newList []) false (eval iter X.env) (some (assign (.Name x pos') X.env))) _ _ s
 refine wpAny_bind (wpAny_mono (wpAny_comprehension_free (use:=some (assign (.Name x pos') X.env)) (Q:=fun _ s'=>SP X pins D .next s') rfl hs (zbN (I.clos ok)) hkind (fun y hy hl=>by simpa [hl] using hnames y hy)
  (thn (hi pins s σ H _ I h) fun xv s1 h1=>thn h1 fun itv s2 h2=>?_)) (fun _ s' hq=>wpAny_pure (wpAny_pure hq)) fun _ _ e=>e)
 obtain⟨it,fp,tn,J,H2,e,I2,T,st2,f2,q⟩:=h2
 subst e
 refine zeh (RR:=fun acc C=>compPost (model X.prog X.w) X.A X.xe (some (assign (.Name x pos') X.env)) (fun _ s'=>SP X pins D .next s') acc C) hc ok hg hf he I2 T st2 f2 q ?_
 intro Dd C H' s' m I' fC hn qn
 obtain⟨f0,f1,f2',f3,f4,f5⟩:=fC
 show wpAny _ X.A (assign (.Name x pos') X.env (.ref Dd)) _ _ _
 refine wpAny_assign_Name (zfc I' hN hi' (.inl hx) (v:=.ref Dd) rfl (fun s3 I3 ⟨a,sb,ha⟩=>?_) (.inr hx))
 have hCa:C≠a:=by
  rcases ha with z|z
  ·rw[z];exact f1
  ·exact fun w=>f4 x a z w.symm
 refine⟨m,hn.sameBut sb hCa,fun h' sb2=>?_⟩
 exact⟨_,H',I3.turned (t':=s3.toks) (fun b o hb e=>sb2.extBut b o hb e) f0 f1 f3 f4 f5,qn⟩
theorem zax {K:PySem.W.Frag}{a D:Addr}{xs:List V}{τ:St}{H:Hp}{Q:VK} (Pv:Nat→St→Hp→Prop) (h0:Pv 0 τ H) (hl:∀ i τ H,i≤xs.length→Pv i τ H→SqL K H a xs)
  (hs:∀ i x τ H,xs[i]?=some x→Pv i τ H→g x τ H fun τ2 H2=>tt τ2 H2 fun b H3=>
   if b=true then te τ2 H3 fun y H4=>∃ ys,H4 D=some (.lst ys)∧ys.length<sizeLine∧Pv (i + 1) τ2 (upd H4 D (.lst (ys++[y]))) else Pv (i + 1) τ2 H3)
  (hd:∀ τ H,Pv xs.length τ H→Q (.ref D) H):zhN (Itl K a) D τ H g tt te Q:=by
 refine⟨fun i m τ H=>m=xs.length - i∧i≤xs.length∧Pv i τ H,⟨xs.length,by simp,Nat.zero_le _,h0⟩,?_⟩
 rintro i m τ H ⟨rfl,hi,p⟩
 have q:=hl i τ H hi p
 by_cases hlt:i<xs.length
 ·refine .inr ⟨⟨xs,xs[i],q,by simp[hlt]⟩,Pv (i + 1),fun τ' H' p'=>⟨xs.length - (i + 1),by omega,rfl,hlt,p'⟩,fun x H' y=>?_⟩
  obtain⟨e,y⟩:=y
  subst e
  exact hs i x τ _ (y xs q) p
 ·have e:i=xs.length:=by omega
  subst e
  exact .inl ⟨⟨xs,q,Nat.le_refl _⟩,hd τ H p⟩
theorem zei {lo:Int}{n:Nat}{D:Addr}{τ:St}{H:Hp}{Q:VK} (Pv:Nat→St→Hp→Prop) (h0:Pv 0 τ H)
  (hs:∀ i τ H,i<n→Pv i τ H→g (.int (lo + i)) τ H fun τ2 H2=>tt τ2 H2 fun b H3=>
   if b=true then te τ2 H3 fun y H4=>∃ ys,H4 D=some (.lst ys)∧ys.length<sizeLine∧Pv (i + 1) τ2 (upd H4 D (.lst (ys++[y]))) else Pv (i + 1) τ2 H3)
  (hd:∀ τ H,Pv n τ H→Q (.ref D) H):zhN (Itr lo n) D τ H g tt te Q:=by
 refine⟨fun i m τ H=>m=n - i∧i≤n∧Pv i τ H,⟨n,by simp,Nat.zero_le _,h0⟩,?_⟩
 rintro i m τ H ⟨rfl,hi,p⟩
 by_cases hlt:i<n
 ·refine .inr ⟨hlt,Pv (i + 1),fun τ' H' p'=>⟨n - (i + 1),by omega,rfl,hlt,p'⟩,fun x H' y=>?_⟩
  obtain⟨e,y⟩:=y
  subst e y
  exact hs i τ _ hlt p
 ·have e:i=n:=by omega
  subst e
  exact .inl ⟨Nat.le_refl _,hd τ H p⟩
end
end L2
namespace L2
open PySem PySem.Spec PyProof.Rows PySem.SeqAt
inductive Dt where
 | non | bl (b:Bool) | int (i:Int) | str (x:Str) | lst (xs:List Dt) | tup (xs:List Dt)
mutual
def DtV (K:PySem.W.Frag) (H:Hp):Dt→V→Prop
 | .non,x=>x=.non
 | .bl b,x=>x=.bl b
 | .int i,x=>x=.int i
 | .str z,x=>x=.str z
 | .lst ds,x=>∃ a xs,x=.ref a∧SqL K H a xs∧zb4 K H ds xs
 | .tup ds,x=>∃ a xs,x=.ref a∧SqT K H a xs∧zb4 K H ds xs
def zb4 (K:PySem.W.Frag) (H:Hp):List Dt→List V→Prop
 | [],xs=>xs=[]
 | d::ds,xs=>∃ y ys,xs=y::ys∧DtV K H d y∧zb4 K H ds ys
end
mutual
def zdb:Nat→Dt→Prop
 | n + 1,.lst ds=>za6 n ds
 | n + 1,.tup ds=>za6 n ds
 | 0,.lst _=>False
 | 0,.tup _=>False
 | _,.non=>True
 | _,.bl _=>True
 | _,.int _=>True
 | _,.str _=>True
def za6:Nat→List Dt→Prop
 | _,[]=>True
 | n,d::ds=>zdb n d∧za6 n ds
end
mutual
def eqD:Dt→Dt→Bool
 | .non,.non=>true
 | .bl a,.bl b=>a == b
 | .bl a,.int b=>(if a then 1 else 0) == b
 | .int a,.bl b=>a == (if b then 1 else 0)
 | .int a,.int b=>a == b
 | .str a,.str b=>a == b
 | .lst xs,.lst ys=>zfw xs ys
 | .tup xs,.tup ys=>zfw xs ys
 | _,_=>false
def zfw:List Dt→List Dt→Bool
 | [],[]=>true
 | x::xs,y::ys=>eqD x y && zfw xs ys
 | _,_=>false
end
mutual
theorem zeI:∀ d:Dt,eqD d d=true
 | .non=>rfl
 | .bl b=>by simp[eqD]
 | .int i=>by simp[eqD]
 | .str x=>by simp[eqD]
 | .lst xs=>by
  rw[eqD]
  exact zct xs
 | .tup xs=>by
  rw[eqD]
  exact zct xs
theorem zct:∀ ds:List Dt,zfw ds ds=true
 | []=>rfl
 | d::ds=>by rw[zfw,zeI d,zct ds];rfl
end
theorem zb4.length {K:PySem.W.Frag}{H:Hp}:∀ {ds:List Dt}{xs:List V},zb4 K H ds xs→ds.length=xs.length
 | [],xs,h=>by
  have e:xs=[]:=h
  subst e
  rfl
 | d::ds,xs,h=>by
  obtain⟨y,ys,e,_,h2⟩:=h
  subst e
  simp[zb4.length h2]
theorem zb4.get {K:PySem.W.Frag}{H:Hp}:∀ {ds:List Dt}{xs:List V}{j:Nat}{d:Dt},zb4 K H ds xs→ds[j]?=some d→∃ x,xs[j]?=some x∧DtV K H d x
 | [],_,_,_,_,e=>by simp at e
 | d::ds,xs,j,d',h,e=>by
  obtain⟨y,ys,e2,h1,h2⟩:=h
  subst e2
  cases j with
  | zero=>
   simp at e
   subst e
   exact⟨y,rfl,h1⟩
  | succ j=>
   obtain⟨x,hx,hd⟩:=zb4.get (j:=j) h2 (by simpa using e)
   exact⟨x,by simpa using hx,hd⟩
theorem zb4.snoc {K:PySem.W.Frag}{H:Hp}{d:Dt}{x:V} (hd:DtV K H d x):∀ {ds:List Dt}{xs:List V},zb4 K H ds xs→zb4 K H (ds++[d]) (xs++[x])
 | [],xs,h=>by
  have e:xs=[]:=h
  subst e
  exact⟨x,[],rfl,hd,rfl⟩
 | e::ds,xs,h=>by
  obtain⟨y,ys,e2,h1,h2⟩:=h
  subst e2
  exact⟨y,ys++[x],rfl,h1,h2.snoc hd⟩
theorem za6.get {n:Nat}:∀ {ds:List Dt}{j:Nat}{d:Dt},za6 n ds→ds[j]?=some d→zdb n d
 | [],_,_,_,e=>by simp at e
 | d::ds,j,d',h,e=>by
  cases j with
  | zero=>
   simp at e
   subst e
   exact h.1
  | succ j=>exact za6.get (j:=j) h.2 (by simpa using e)
theorem za6.of {n:Nat}:∀ {ds:List Dt},(∀ d∈ds,zdb n d)→za6 n ds
 | [],_=>trivial
 | d::ds,h=>⟨h d List.mem_cons_self,za6.of fun e he=>h e (List.mem_cons_of_mem _ he)⟩
theorem zaj.sqL {K:PySem.W.Frag}{H H':Hp}{a:Addr}{xs:List V} (e:zaj H H') (h:SqL K H a xs):SqL K H' a xs:=e.seq h
theorem zaj.sqT {K:PySem.W.Frag}{H H':Hp}{a:Addr}{xs:List V} (e:zaj H H') (h:SqT K H a xs):SqT K H' a xs:=by
 rcases h with(h|⟨o,h⟩)|h
 ·exact .inl (.inl (e _ _ h))
 ·exact .inl (.inr ⟨o,e _ _ h⟩)
 ·exact .inr h
mutual
theorem zaj.dt {K:PySem.W.Frag}{H H':Hp} (e:zaj H H'):∀ {d:Dt}{x:V},DtV K H d x→DtV K H' d x
 | .non,_,h=>h
 | .bl _,_,h=>h
 | .int _,_,h=>h
 | .str _,_,h=>h
 | .lst ds,_,h=>by
  obtain⟨a,xs,e1,h1,h2⟩:=h
  exact⟨a,xs,e1,e.sqL h1,e.dts h2⟩
 | .tup ds,_,h=>by
  obtain⟨a,xs,e1,h1,h2⟩:=h
  exact⟨a,xs,e1,e.sqT h1,e.dts h2⟩
theorem zaj.dts {K:PySem.W.Frag}{H H':Hp} (e:zaj H H'):∀ {ds:List Dt}{xs:List V},zb4 K H ds xs→zb4 K H' ds xs
 | [],_,h=>h
 | d::ds,_,h=>by
  obtain⟨y,ys,e1,h1,h2⟩:=h
  exact⟨y,ys,e1,e.dt h1,e.dts h2⟩
end
theorem zaj.new {H:Hp}{p:Addr}{o:HO} (h:H p=none):zaj H (upd H p o):=fun b u e=>by
 rw[zag (zac e h)]
 exact e
section
variable {X:Cx}{pins:List (Addr×Obj)}{σ:St}{H:Hp}{s:Shared}
theorem Inv.notBoth (I:Inv X pins σ H s){a:Addr}{xs ys:List V} (h:SqL X.K H a xs) (h':SqT X.K H a ys):False:=by
 obtain⟨its,_,pl,_⟩:=I.list h
 obtain⟨its',_,pt,_⟩:=I.tuple h'
 obtain⟨o,n,e,c,_⟩:=pl
 obtain⟨o',e',c',_⟩:=pt
 rw[e] at e'
 cases e'
 rw[c] at c'
 exact absurd c' (by simp)
mutual
theorem Inv.dtUniq (I:Inv X pins σ H s):∀ {d e:Dt}{x:V},DtV X.K H d x→DtV X.K H e x→d=e
 | .non,e,_,h,h'=>by
  have h:_=V.non:=h
  subst h
  cases e with
  | non=>rfl
  | bl _=>exact nomatch (show V.non=_ from h')
  | int _=>exact nomatch (show V.non=_ from h')
  | str _=>exact nomatch (show V.non=_ from h')
  | lst _=>obtain⟨_,_,q,_⟩:=h';cases q
  | tup _=>obtain⟨_,_,q,_⟩:=h';cases q
 | .bl b,e,_,h,h'=>by
  have h:_=V.bl b:=h
  subst h
  cases e with
  | non=>exact nomatch (show V.bl b=_ from h')
  | bl c=>
   have q:V.bl b=V.bl c:=h'
   cases q
   rfl
  | int _=>exact nomatch (show V.bl b=_ from h')
  | str _=>exact nomatch (show V.bl b=_ from h')
  | lst _=>obtain⟨_,_,q,_⟩:=h';cases q
  | tup _=>obtain⟨_,_,q,_⟩:=h';cases q
 | .int b,e,_,h,h'=>by
  have h:_=V.int b:=h
  subst h
  cases e with
  | non=>exact nomatch (show V.int b=_ from h')
  | bl c=>exact nomatch (show V.int b=_ from h')
  | int c=>
   have q:V.int b=V.int c:=h'
   cases q
   rfl
  | str _=>exact nomatch (show V.int b=_ from h')
  | lst _=>obtain⟨_,_,q,_⟩:=h';cases q
  | tup _=>obtain⟨_,_,q,_⟩:=h';cases q
 | .str b,e,_,h,h'=>by
  have h:_=V.str b:=h
  subst h
  cases e with
  | non=>exact nomatch (show V.str b=_ from h')
  | bl c=>exact nomatch (show V.str b=_ from h')
  | int _=>exact nomatch (show V.str b=_ from h')
  | str c=>
   have q:V.str b=V.str c:=h'
   cases q
   rfl
  | lst _=>obtain⟨_,_,q,_⟩:=h';cases q
  | tup _=>obtain⟨_,_,q,_⟩:=h';cases q
 | .lst ds,e,_,h,h'=>by
  obtain⟨a,xs,e1,h1,h2⟩:=h
  subst e1
  cases e with
  | non=>exact nomatch (show V.ref a=_ from h')
  | bl c=>exact nomatch (show V.ref a=_ from h')
  | int _=>exact nomatch (show V.ref a=_ from h')
  | str _=>exact nomatch (show V.ref a=_ from h')
  | lst es=>
   obtain⟨b,ys,e2,h3,h4⟩:=h'
   cases e2
   have q:=I.list_inj h1 h3
   subst q
   rw[I.dtsUniq h2 h4]
  | tup es=>
   obtain⟨b,ys,e2,h3,h4⟩:=h'
   cases e2
   exact(I.notBoth h1 h3).elim
 | .tup ds,e,_,h,h'=>by
  obtain⟨a,xs,e1,h1,h2⟩:=h
  subst e1
  cases e with
  | non=>exact nomatch (show V.ref a=_ from h')
  | bl c=>exact nomatch (show V.ref a=_ from h')
  | int _=>exact nomatch (show V.ref a=_ from h')
  | str _=>exact nomatch (show V.ref a=_ from h')
  | lst es=>
   obtain⟨b,ys,e2,h3,h4⟩:=h'
   cases e2
   exact(I.notBoth h3 h1).elim
  | tup es=>
   obtain⟨b,ys,e2,h3,h4⟩:=h'
   cases e2
   have q:=I.tuple_inj h1 h3
   subst q
   rw[I.dtsUniq h2 h4]
theorem Inv.dtsUniq (I:Inv X pins σ H s):∀ {ds es:List Dt}{xs:List V},zb4 X.K H ds xs→zb4 X.K H es xs→ds=es
 | [],es,_,h,h'=>by
  have h:_=[]:=h
  subst h
  cases es with
  | nil=>rfl
  | cons e es=>obtain⟨_,_,q,_⟩:=h';cases q
 | d::ds,es,_,h,h'=>by
  obtain⟨y,ys,e1,h1,h2⟩:=h
  subst e1
  cases es with
  | nil=>exact nomatch (show y::ys=[] from h')
  | cons e es=>
   obtain⟨z,zs,q,h3,h4⟩:=h'
   cases q
   rw[I.dtUniq h1 h3,I.dtsUniq h2 h4]
end
def zeJ (ds es:List Dt) (j:Nat):Bool:=eqD (ds.getD j .non) (es.getD j .non)
theorem zdc:∀ ds es:List Dt,((List.range (min ds.length es.length)).all (zeJ ds es) && ds.length == es.length)=zfw ds es
 | [],[]=>rfl
 | [],_::_=>by simp[zfw]
 | _::_,[]=>by simp[zfw]
 | d::ds,e::es=>by
  have ih:=zdc ds es
  have e1:min (d::ds).length (e::es).length=min ds.length es.length + 1:=by simp only[List.length_cons];omega
  have e2:((d::ds).length == (e::es).length)=(ds.length == es.length):=by simp
  have e3:(List.range (min ds.length es.length + 1)).all (zeJ (d::ds) (e::es))=(eqD d e && (List.range (min ds.length es.length)).all (zeJ ds es)):=by
   rw[List.range_succ_eq_map,List.all_cons,List.all_map]
   rfl
  rw[e1,e2,e3,zfw,← ih,Bool.and_assoc]
theorem zgr {ds es:List Dt} (h:ds.length=es.length):(List.range ds.length).all (zeJ ds es)=zfw ds es:=by
 have:=zdc ds es
 rw[← h,Nat.min_self] at this
 simpa using this
theorem zej {ds es:List Dt} (h:ds.length≠es.length):zfw ds es=false:=by
 rw[← zdc ds es]
 simp[h]
end
section
variable {X:Cx}{pins:List (Addr×Obj)}{σ:St}{H:Hp}{s:Shared}
theorem Inv.isL (I:Inv X pins σ H s){a:Addr}{xs:List V} (h:SqL X.K H a xs):∃ its:List Value,zaX xs its∧s.heap.IsList a its.toArray:=
 let ⟨its,r,pl,_⟩:=I.list h
 ⟨its,r,pl.isList⟩
theorem Inv.isT (I:Inv X pins σ H s){a:Addr}{xs:List V} (h:SqT X.K H a xs):∃ its:List Value,zaX xs its∧s.heap.IsTuple a its.toArray:=
 let ⟨its,r,pt,_⟩:=I.tuple h
 ⟨its,r,pt⟩
theorem zdT {ds es:List Dt}{j:Nat}{d e:Dt} (h1:ds[j]?=some d) (h2:es[j]?=some e):zeJ ds es j=eqD d e:=by
 unfold zeJ
 rw[List.getD_eq_getElem?_getD,List.getD_eq_getElem?_getD,h1,h2]
 rfl
theorem zbo {α:Type}{l:List α}{j:Nat} (h:j<l.length):∃ x,l[j]?=some x:=⟨l[j],by simp[h]⟩
mutual
theorem Inv.eqAt (I:Inv X pins σ H s):∀ {d e:Dt}{x y:V}{u v:Value}{n:Nat}{A:Around},DtV X.K H d x→DtV X.K H e y→zaQ x u→zaQ y v→zdb n d→A.units + n<cLine→EqAt A s u v (eqD d e)
 | .non,e,x,y,u,v,n,A,h,h',rx,ry,_,hu=>by
  have hu:A.units<cLine:=Nat.lt_of_le_of_lt (Nat.le_add_right _ _) hu
  have h:x=V.non:=h
  subst h
  cases e with
  | non=>
   have h':y=V.non:=h'
   subst h'
   exact zbD rx ry rfl rfl
  | bl c=>
   have h':y=V.bl c:=h'
   subst h'
   exact zbD rx ry rfl rfl
  | int c=>
   have h':y=V.int c:=h'
   subst h'
   exact zbD rx ry rfl rfl
  | str c=>
   have h':y=V.str c:=h'
   subst h'
   exact zbD rx ry rfl rfl
  | lst es=>
   obtain⟨a,ys,rfl,h1,_⟩:=h'
   obtain rfl:v=Value.ref a:=ry
   obtain⟨its,_,hl⟩:=I.isL h1
   obtain rfl:u=Value.none:=rx
   exact EqAt.none_list hl hu
  | tup es=>
   obtain⟨a,ys,rfl,h1,_⟩:=h'
   obtain rfl:v=Value.ref a:=ry
   obtain⟨its,_,hl⟩:=I.isT h1
   obtain rfl:u=Value.none:=rx
   exact EqAt.none_tuple hl hu
 | .bl b,e,x,y,u,v,n,A,h,h',rx,ry,_,hu=>by
  have hu:A.units<cLine:=Nat.lt_of_le_of_lt (Nat.le_add_right _ _) hu
  have h:x=V.bl b:=h
  subst h
  cases e with
  | non=>
   have h':y=V.non:=h'
   subst h'
   exact zbD rx ry rfl rfl
  | bl c=>
   have h':y=V.bl c:=h'
   subst h'
   exact zbD rx ry rfl rfl
  | int c=>
   have h':y=V.int c:=h'
   subst h'
   exact zbD rx ry rfl rfl
  | str c=>
   have h':y=V.str c:=h'
   subst h'
   exact zbD rx ry rfl rfl
  | lst es=>
   obtain⟨a,ys,rfl,h1,_⟩:=h'
   obtain rfl:v=Value.ref a:=ry
   obtain⟨its,_,hl⟩:=I.isL h1
   obtain rfl:u=Value.bool b:=rx
   exact EqAt.bool_list b hl hu
  | tup es=>
   obtain⟨a,ys,rfl,h1,_⟩:=h'
   obtain rfl:v=Value.ref a:=ry
   obtain⟨its,_,hl⟩:=I.isT h1
   obtain rfl:u=Value.bool b:=rx
   exact EqAt.bool_tuple b hl hu
 | .int b,e,x,y,u,v,n,A,h,h',rx,ry,_,hu=>by
  have hu:A.units<cLine:=Nat.lt_of_le_of_lt (Nat.le_add_right _ _) hu
  have h:x=V.int b:=h
  subst h
  cases e with
  | non=>
   have h':y=V.non:=h'
   subst h'
   exact zbD rx ry rfl rfl
  | bl c=>
   have h':y=V.bl c:=h'
   subst h'
   exact zbD rx ry rfl rfl
  | int c=>
   have h':y=V.int c:=h'
   subst h'
   exact zbD rx ry rfl rfl
  | str c=>
   have h':y=V.str c:=h'
   subst h'
   exact zbD rx ry rfl rfl
  | lst es=>
   obtain⟨a,ys,rfl,h1,_⟩:=h'
   obtain rfl:v=Value.ref a:=ry
   obtain⟨its,_,hl⟩:=I.isL h1
   obtain⟨t,rfl⟩:=rx
   exact EqAt.int_list b t hl hu
  | tup es=>
   obtain⟨a,ys,rfl,h1,_⟩:=h'
   obtain rfl:v=Value.ref a:=ry
   obtain⟨its,_,hl⟩:=I.isT h1
   obtain⟨t,rfl⟩:=rx
   exact EqAt.int_tuple b t hl hu
 | .str b,e,x,y,u,v,n,A,h,h',rx,ry,_,hu=>by
  have hu:A.units<cLine:=Nat.lt_of_le_of_lt (Nat.le_add_right _ _) hu
  have h:x=V.str b:=h
  subst h
  cases e with
  | non=>
   have h':y=V.non:=h'
   subst h'
   exact zbD rx ry rfl rfl
  | bl c=>
   have h':y=V.bl c:=h'
   subst h'
   exact zbD rx ry rfl rfl
  | int c=>
   have h':y=V.int c:=h'
   subst h'
   exact zbD rx ry rfl rfl
  | str c=>
   have h':y=V.str c:=h'
   subst h'
   exact zbD rx ry rfl rfl
  | lst es=>
   obtain⟨a,ys,rfl,h1,_⟩:=h'
   obtain rfl:v=Value.ref a:=ry
   obtain⟨its,_,hl⟩:=I.isL h1
   obtain⟨t,rfl⟩:=rx
   exact EqAt.str_list b t hl hu
  | tup es=>
   obtain⟨a,ys,rfl,h1,_⟩:=h'
   obtain rfl:v=Value.ref a:=ry
   obtain⟨its,_,hl⟩:=I.isT h1
   obtain⟨t,rfl⟩:=rx
   exact EqAt.str_tuple b t hl hu
 | .lst ds,e,x,y,u,v,n,A,h,h',rx,ry,hd,hu=>by
  obtain⟨a,xs,rfl,g1,g2⟩:=h
  obtain rfl:u=Value.ref a:=rx
  obtain⟨its,rv,hl⟩:=I.isL g1
  cases n with
  | zero=>exact False.elim hd
  | succ n=>
  have hu0:A.units<cLine:=Nat.lt_of_le_of_lt (Nat.le_add_right _ _) hu
  cases e with
  | non=>
   have h':y=V.non:=h'
   subst h'
   obtain rfl:v=Value.none:=ry
   exact EqAt.list_none hl hu0
  | bl c=>
   have h':y=V.bl c:=h'
   subst h'
   obtain rfl:v=Value.bool c:=ry
   exact EqAt.list_bool c hl hu0
  | int c=>
   have h':y=V.int c:=h'
   subst h'
   obtain⟨t,rfl⟩:=ry
   exact EqAt.list_int c t hl hu0
  | str c=>
   have h':y=V.str c:=h'
   subst h'
   obtain⟨t,rfl⟩:=ry
   exact EqAt.list_str c t hl hu0
  | tup es=>
   obtain⟨b,ys,rfl,h1,_⟩:=h'
   obtain rfl:v=Value.ref b:=ry
   obtain⟨its',_,hl'⟩:=I.isT h1
   exact EqAt.list_tuple hl hl' hu0
  | lst es=>
   obtain⟨b,ys,rfl,h1,h2⟩:=h'
   obtain rfl:v=Value.ref b:=ry
   obtain⟨its',rv',hl'⟩:=I.isL h1
   show EqAt A s (.ref a) (.ref b) (zfw ds es)
   by_cases hab:a=b
   ·subst hab
    have e:Dt.lst ds=Dt.lst es:=I.dtUniq ⟨a,xs,rfl,g1,g2⟩ ⟨a,ys,rfl,h1,h2⟩
    injection e with e
    subst e
    rw[zct]
    exact EqAt.same _
   ·have n1:ds.length=its.length:=g2.length.trans rv.length
    have n2:es.length=its'.length:=h2.length.trans rv'.length
    have items:∀ j (h1:j<its.toArray.size) (h2:j<its'.toArray.size),EqAt A.in1 s its.toArray[j] its'.toArray[j] (zeJ ds es j):=fun j j1 j2=>by
     have j1:j<its.length:=by simpa using j1
     have j2:j<its'.length:=by simpa using j2
     obtain⟨d',hd'⟩:=zbo (l:=ds) (j:=j) (by omega)
     obtain⟨e',he'⟩:=zbo (l:=es) (j:=j) (by omega)
     obtain⟨x',hx',kx⟩:=g2.get hd'
     obtain⟨y',hy',ky⟩:=h2.get he'
     obtain⟨u',hu',ru⟩:=rv.get hx'
     obtain⟨v',hv',rv2⟩:=rv'.get hy'
     have q1:its.toArray[j]=u':=by
      have:=List.getElem?_eq_some_iff.mp hu'
      simpa using this.2
     have q2:its'.toArray[j]=v':=by
      have:=List.getElem?_eq_some_iff.mp hv'
      simpa using this.2
     rw[q1,q2,zdT hd' he']
     exact Inv.eqAtI I ds j hd' kx ky ru rv2 (za6.get hd hd') (show A.units + 1 + n<cLine by omega)
    by_cases hsz:its.toArray.size=its'.toArray.size
    ·have hsz':ds.length=es.length:=by simpa [n1,n2] using hsz
     rw[← zgr hsz',n1,← List.size_toArray]
     exact EqAt.of_refs hab (RcAt.lists hl hl' hsz hu0 items)
    ·rw[zej (by simpa [n1,n2] using hsz)]
     exact EqAt.of_refs hab (RcAt.lists_lengths hl hl' (by simpa using hsz) hu0)
 | .tup ds,e,x,y,u,v,n,A,h,h',rx,ry,hd,hu=>by
  obtain⟨a,xs,rfl,g1,g2⟩:=h
  obtain rfl:u=Value.ref a:=rx
  obtain⟨its,rv,hl⟩:=I.isT g1
  cases n with
  | zero=>exact False.elim hd
  | succ n=>
  have hu0:A.units<cLine:=Nat.lt_of_le_of_lt (Nat.le_add_right _ _) hu
  cases e with
  | non=>
   have h':y=V.non:=h'
   subst h'
   obtain rfl:v=Value.none:=ry
   exact EqAt.tuple_none hl hu0
  | bl c=>
   have h':y=V.bl c:=h'
   subst h'
   obtain rfl:v=Value.bool c:=ry
   exact EqAt.tuple_bool c hl hu0
  | int c=>
   have h':y=V.int c:=h'
   subst h'
   obtain⟨t,rfl⟩:=ry
   exact EqAt.tuple_int c t hl hu0
  | str c=>
   have h':y=V.str c:=h'
   subst h'
   obtain⟨t,rfl⟩:=ry
   exact EqAt.tuple_str c t hl hu0
  | lst es=>
   obtain⟨b,ys,rfl,h1,_⟩:=h'
   obtain rfl:v=Value.ref b:=ry
   obtain⟨its',_,hl'⟩:=I.isL h1
   exact EqAt.tuple_list hl hl' hu0
  | tup es=>
   obtain⟨b,ys,rfl,h1,h2⟩:=h'
   obtain rfl:v=Value.ref b:=ry
   obtain⟨its',rv',hl'⟩:=I.isT h1
   show EqAt A s (.ref a) (.ref b) (zfw ds es)
   by_cases hab:a=b
   ·subst hab
    have e:Dt.tup ds=Dt.tup es:=I.dtUniq ⟨a,xs,rfl,g1,g2⟩ ⟨a,ys,rfl,h1,h2⟩
    injection e with e
    subst e
    rw[zct]
    exact EqAt.same _
   ·have n1:ds.length=its.length:=g2.length.trans rv.length
    have n2:es.length=its'.length:=h2.length.trans rv'.length
    have items:∀ j (h1:j<its.toArray.size) (h2:j<its'.toArray.size),EqAt A.in1 s its.toArray[j] its'.toArray[j] (zeJ ds es j):=fun j j1 j2=>by
     have j1:j<its.length:=by simpa using j1
     have j2:j<its'.length:=by simpa using j2
     obtain⟨d',hd'⟩:=zbo (l:=ds) (j:=j) (by omega)
     obtain⟨e',he'⟩:=zbo (l:=es) (j:=j) (by omega)
     obtain⟨x',hx',kx⟩:=g2.get hd'
     obtain⟨y',hy',ky⟩:=h2.get he'
     obtain⟨u',hu',ru⟩:=rv.get hx'
     obtain⟨v',hv',rv2⟩:=rv'.get hy'
     have q1:its.toArray[j]=u':=by
      have:=List.getElem?_eq_some_iff.mp hu'
      simpa using this.2
     have q2:its'.toArray[j]=v':=by
      have:=List.getElem?_eq_some_iff.mp hv'
      simpa using this.2
     rw[q1,q2,zdT hd' he']
     exact Inv.eqAtI I ds j hd' kx ky ru rv2 (za6.get hd hd') (show A.units + 1 + n<cLine by omega)
    have q:=EqAt.of_refs hab (RcAt.tuples hl hl' hu0 items)
    rw[← zdc ds es,n1,n2]
    simpa using q
theorem Inv.eqAtI (I:Inv X pins σ H s):∀ (ds:List Dt) (j:Nat){d e:Dt}{x y:V}{u v:Value}{n:Nat}{A:Around},ds[j]?=some d→DtV X.K H d x→DtV X.K H e y→zaQ x u→zaQ y v→zdb n d→A.units + n<cLine→EqAt A s u v (eqD d e)
 | [],j,_,_,_,_,_,_,_,_,h,_,_,_,_,_,_=>by simp at h
 | c::_,0,d,e,x,y,u,v,n,A,h,hx,hy,ru,rv,hd,hu=>by
  simp at h
  subst h
  exact Inv.eqAt I hx hy ru rv hd hu
 | _::cs,j + 1,d,e,x,y,u,v,n,A,h,hx,hy,ru,rv,hd,hu=>Inv.eqAtI I cs j (by simpa using h) hx hy ru rv hd hu
end
theorem Inv.items (I:Inv X pins σ H s){ds es:List Dt}{xs ys:List V}{its its':List Value}{n:Nat}{A:Around} (g2:zb4 X.K H ds xs) (h2:zb4 X.K H es ys) (rv:zaX xs its) (rv':zaX ys its') (hd:za6 n ds)
  (hu:A.units + 1 + n<cLine):∀ j (h1:j<its.toArray.size) (h2:j<its'.toArray.size),EqAt A.in1 s its.toArray[j] its'.toArray[j] (zeJ ds es j):=fun j j1 j2=>by
 have n1:ds.length=its.length:=g2.length.trans rv.length
 have n2:es.length=its'.length:=h2.length.trans rv'.length
 have j1:j<its.length:=by simpa using j1
 have j2:j<its'.length:=by simpa using j2
 obtain⟨d',hd'⟩:=zbo (l:=ds) (j:=j) (by omega)
 obtain⟨e',he'⟩:=zbo (l:=es) (j:=j) (by omega)
 obtain⟨x',hx',kx⟩:=g2.get hd'
 obtain⟨y',hy',ky⟩:=h2.get he'
 obtain⟨u',hu',ru⟩:=rv.get hx'
 obtain⟨v',hv',rv2⟩:=rv'.get hy'
 have q1:its.toArray[j]=u':=by
  have:=List.getElem?_eq_some_iff.mp hu'
  simpa using this.2
 have q2:its'.toArray[j]=v':=by
  have:=List.getElem?_eq_some_iff.mp hv'
  simpa using this.2
 rw[q1,q2,zdT hd' he']
 exact I.eqAt kx ky ru rv2 (za6.get hd hd') hu
def zji:Dt→Bool
 | .lst _=>true
 | .tup _=>true
 | _=>false
theorem Inv.rcAt (I:Inv X pins σ H s){d e:Dt}{x y:V}{u v:Value}{n:Nat}{A:Around} (bd:zji d=true) (be:zji e=true) (h:DtV X.K H d x) (h':DtV X.K H e y) (rx:zaQ x u) (ry:zaQ y v) (hd:zdb n d) (hu:A.units + n<cLine) :
  RcAt A s u v (eqD d e)∧RcNeAt A s u v (!eqD d e):=by
 cases n with
 | zero=>cases d <;> first | exact False.elim hd | cases bd
 | succ n=>
 have hu0:A.units<cLine:=Nat.lt_of_le_of_lt (Nat.le_add_right _ _) hu
 have hu1:A.units + 1 + n<cLine:=by omega
 cases d with
 | lst ds=>
  obtain⟨a,xs,rfl,g1,g2⟩:=h
  obtain rfl:u=Value.ref a:=rx
  obtain⟨its,rv,hl⟩:=I.isL g1
  cases e with
  | lst es=>
   obtain⟨b,ys,rfl,h1,h2⟩:=h'
   obtain rfl:v=Value.ref b:=ry
   obtain⟨its',rv',hl'⟩:=I.isL h1
   have n1:ds.length=its.length:=g2.length.trans rv.length
   have n2:es.length=its'.length:=h2.length.trans rv'.length
   show RcAt A s (.ref a) (.ref b) (zfw ds es)∧RcNeAt A s (.ref a) (.ref b) (!zfw ds es)
   by_cases hsz:its.toArray.size=its'.toArray.size
   ·have hsz':ds.length=es.length:=by simpa [n1,n2] using hsz
    rw[← zgr hsz',n1,← List.size_toArray]
    exact⟨RcAt.lists hl hl' hsz hu0 (I.items g2 h2 rv rv' hd hu1),RcNeAt.lists hl hl' hsz hu0 (I.items g2 h2 rv rv' hd hu1)⟩
   ·rw[zej (by simpa [n1,n2] using hsz)]
    exact⟨RcAt.lists_lengths hl hl' (by simpa using hsz) hu0,RcNeAt.lists_lengths hl hl' (by simpa using hsz) hu0⟩
  | tup es=>
   obtain⟨b,ys,rfl,h1,_⟩:=h'
   obtain rfl:v=Value.ref b:=ry
   obtain⟨its',_,hl'⟩:=I.isT h1
   exact⟨RcAt.list_tuple hl hl' hu0,RcNeAt.list_tuple hl hl' hu0⟩
  | _=>cases be
 | tup ds=>
  obtain⟨a,xs,rfl,g1,g2⟩:=h
  obtain rfl:u=Value.ref a:=rx
  obtain⟨its,rv,hl⟩:=I.isT g1
  cases e with
  | tup es=>
   obtain⟨b,ys,rfl,h1,h2⟩:=h'
   obtain rfl:v=Value.ref b:=ry
   obtain⟨its',rv',hl'⟩:=I.isT h1
   have n1:ds.length=its.length:=g2.length.trans rv.length
   have n2:es.length=its'.length:=h2.length.trans rv'.length
   have q:=RcAt.tuples hl hl' hu0 (I.items g2 h2 rv rv' hd hu1)
   have q':=RcNeAt.tuples hl hl' hu0 (I.items g2 h2 rv rv' hd hu1)
   show RcAt A s (.ref a) (.ref b) (zfw ds es)∧RcNeAt A s (.ref a) (.ref b) (!zfw ds es)
   rw[← zdc ds es,n1,n2]
   exact⟨by simpa using q,by simpa using q'⟩
  | lst es=>
   obtain⟨b,ys,rfl,h1,_⟩:=h'
   obtain rfl:v=Value.ref b:=ry
   obtain⟨its',_,hl'⟩:=I.isL h1
   exact⟨RcAt.tuple_list hl hl' hu0,RcNeAt.tuple_list hl hl' hu0⟩
  | _=>cases be
 | _=>cases bd
def rEqD (K:PySem.W.Frag) (neg:Bool):R2:=fun x y H Q=>∃ d e,zji d=true∧zji e=true∧DtV K H d x∧DtV K H e y∧zdb 60 d∧Q (.bl (if neg then !eqD d e else eqD d e)) H
theorem op_eqD (hu:X.A.units + 64<cLine):OpR X (compareOp .Eq) (rEqD X.K false):=by
 intro pins s σ H x y v u Q I rx ry h
 obtain⟨d,e,bd,be,h1,h2,hd,q⟩:=h
 exact(I.rcAt bd be h1 h2 rx ry hd (by omega)).1 X.prog X.w _ _ ⟨.bl _,H,I,rfl,q⟩
theorem op_neD (hu:X.A.units + 64<cLine):OpR X (compareOp .NotEq) (rEqD X.K true):=by
 intro pins s σ H x y v u Q I rx ry h
 obtain⟨d,e,bd,be,h1,h2,hd,q⟩:=h
 exact(I.rcAt bd be h1 h2 rx ry hd (by omega)).2 X.prog X.w _ _ ⟨.bl _,H,I,rfl,q⟩
end
end L2
namespace L2
open PySem PySem.Spec PyProof.Rows
section
variable {X:Cx}
theorem zj2 {x:Str}{a:Addr}{pos:Pos} (hg:Gl X x) (hm:X.mg x=some (.ref a)) (hd:(x == ("__debug__":Str))=false:=by decide):PE X (.Name x pos) (tC (.ref a)):=zhp hg hm rfl hd
def clsOf:V→Option Value
 | .ref a=>some (.ref a)
 | .ty n=>some (.type n)
 | _=>none
theorem zhO {c:V}{u k:Value} (r:zaQ c u) (e:clsOf c=some k):u=k:=by
 cases c with
 | ref a=>
  cases e
  exact r
 | ty n=>
  cases e
  exact r
 | _=>cases e
theorem zbO:zc2 X (.builtin "isinstance") (fun xs H Q=>∃ x c k t b,xs=[x,c]∧clsOf c=some k∧zgk X.K H x t∧PySem.W.kitOne X.K t k=some b∧Q (.bl b) H):=by
 intro pins s σ H xs us Q I r h
 obtain⟨x,c,k,t,b,rfl,ec,ty,eb,q⟩:=h
 obtain⟨u,v,rfl,rx,rc⟩:=zhz r
 have e:=zhO rc ec
 subst e
 exact zhB I rx ty eb fun tk=>⟨.bl b,H,I.tok tk,rfl,q⟩
end
end L2
namespace L2
open PySem PySem.Spec PyProof.Rows
structure ExcAt (H:Hp) (h:Heap) (a:Addr) (c:Value) (dd:Option Addr) (tb:Option (Addr×Value)):Prop where
 ob:∃ o vs,h.get? a=some o∧o.cls=c∧o.dict=dd∧o.data=.fields vs∧vs.size=6∧(∃ cs,zho H cs∧vs[2]?=some (nxt cs 0))∧vs[1]?=some (match tb with|none=>.none|some p=>.ref p.1)
 tr:∀ p,tb=some p→p.1≠a∧∃ oT ts,h.get? p.1=some oT∧oT.data=.fields ts∧ts[3]?=some p.2
structure Exc (X:Cx) (pins:List (Addr×Obj)) (H:Hp) (h:Heap) (a:Addr) (c:Value) (dd:Option Addr) (tb:Option (Addr×Value)):Prop where
 fp:zcm X pins H a
 fpT:∀ p,tb=some p→zcm X pins H p.1
 at_:ExcAt H h a c dd tb
theorem zd9 (o:Obj) (f:Array Value→Array Value):(o.mapFields f).dict=o.dict:=by
 obtain⟨c,d,dt,sl⟩:=o
 cases dt <;> rfl
section
variable {X:Cx}{pins:List (Addr×Obj)}{σ:St}{H:Hp}{s:Shared}{a:Addr}{c:Value}{dd:Option Addr}
theorem Inv.slot0 {h':Heap}{ch:List Addr}{tk:Nat} (I:Inv X pins σ H s) (hch:∀ b∈ch,zcm X pins H b) (keep:∀ b o,b∉frs X.stack→b∉ch→s.heap.get? b=some o→h'.get? b=some o)
  (slot:∀ b o,b∈frs X.stack→s.heap.get? b=some o→∃ sl,h'.get? b=some { o with slots:=sl }):Inv X pins σ H { s with heap:=h',toks:=tk }:=by
 have any:∀ b o,b∉ch→s.heap.get? b=some o→∃ sl,h'.get? b=some { o with slots:=sl }:=fun b o hc e=>by
  by_cases hb:b∈frs X.stack
  ·exact slot b o hb e
  ·exact⟨o.slots,keep b o hb hc e⟩
 have sub:∀ b,b∈frs X.stack→b=X.env.locals∨b∈X.fs:=fun b hb=>List.mem_cons.mp (I.stkSub b hb)
 refine I.step (g':=s.gens) (d':=s.drawn) (ch:=ch) (fun b hb=>?_) (fun b o hL hf hc e _=>keep b o (fun z=>(sub b z).elim hL hf) hc e) (fun b o _ _ hc e _=>any b o hc e) (fun _ _ _ _ n=>n) (fun b o hc e=>?_)
  (fun _ _ e=>e) (fun _ _ _ e=>e) (fun _ _ _ e=>e) (fun m hm=>?_) (fun b u e=>?_) I.bare
 ·obtain⟨_,f1,_,f3,f4,f5⟩:=hch b hb
  exact⟨f3,f1,f4,f5⟩
 ·obtain⟨sl,q⟩:=any b o hc e
  exact⟨_,q⟩
 ·obtain⟨o,es,ep,ho,r⟩:=hm
  obtain⟨sl,q⟩:=any _ o (fun z=>(hch _ z).2.1 rfl) ho
  exact⟨_,es,ep,q,r⟩
 ·have nf:∀ d v,H d=some v→d∉frs X.stack∧d∉ch:=fun d v q=>⟨fun z=>(by rw[I.stkFree d z] at q;cases q),fun z=>(by rw[(hch d z).1] at q;cases q)⟩
  refine(I.hok b u e).stay (fun d v hd q=>?_) (fun _ q=>q) fun _ _ q=>q
  rcases hd with z|z
  ·subst z
   exact keep d v (nf d _ e).1 (nf d _ e).2 q
  ·exact keep d v (nf d _ z).1 (nf d _ z).2 q
theorem Inv.slots {h':Heap}{ch:List Addr}{tk:Nat} (I:Inv X pins σ H s) (hch:∀ b∈ch,zcm X pins H b) (keep:∀ b o,b∉frs X.stack→b∉ch→s.heap.get? b=some o→h'.get? b=some o)
  (slot:∀ b o,b∈frs X.stack→s.heap.get? b=some o→∃ sl,h'.get? b=some { o with slots:=sl }) (_:∀ b∈ch,∀ o,s.heap.get? b=some o→∃ o',h'.get? b=some o'):Inv X pins σ H { s with heap:=h',toks:=tk }:=I.slot0 hch keep slot
def Body (X:Cx):Prop:=X.stack=X.env::X.outer∧X.env.frame=some X.env.locals
theorem zek {M:Model}{E:Value→Shared→Prop}{Q:Unit→Shared→Prop}{o:Obj}{vs:Array Value}{head:Value}{hadNext:Bool} (B:Body X) (I:Inv X pins σ H s) (fp:zcm X pins H a) (he:s.heap.get? a=some o) (hd:o.data=.fields vs) (hz:vs.size=6)
  (hQ:∀ s' T,Inv X pins σ H s'→s.heap.objs.size≤T→zcm X pins H T→T≠a→s'.heap.get? a=some (o.mapFields (·.setIfInBounds 1 (.ref T)))→(∃ oT ts,s'.heap.get? T=some oT∧oT.data=.fields ts∧ts[3]?=some (rawInt X.env.locals))→Q () s') :
  wpAny M X.A (do let f ← frameOf X.env;let pl ← entryPlaceOf X.env.locals hadNext;let b ← EntryCells.newEntry head f .none (rawInt X.env.locals) .none pl;setField (.ref a) 1 b) Q E s:=by
 have hl:=I.stack
 rw[B.1] at hl
 have hfr:X.A.frames=some (X.env::X.outer):=by rw[I.ok.frames,B.1]
 have nfr:∀ b,zcm X pins H b→b∉frs X.stack:=fun b f z=>(List.mem_cons.mp (I.stkSub b z)).elim f.2.1 f.2.2.1
 refine wpAny_bind (wpAny_frameOf_fun hfr hl B.2 fun h₁ hs₁=>?_)
 rw[← B.1] at hs₁
 refine wpAny_bind (wpAny_entryPlaceOf fun pl hpl=>?_)
 simp only[EntryCells.newEntry,newFields]
 refine wpAny_bind (wpAny_newObj_type ?_ (hpl.sizeOk5 _ _ _ _ _))
 generalize hoT:({ cls:=.type "traceback",dict:=none,data:=.fields ([head,.ref X.env.locals,.none,rawInt X.env.locals,.none]++(if pl.isEmpty then List.replicate 6 Value.none else pl)).toArray }:Obj)=oT
 have e1:h₁.get? a=some o:=(hs₁.2.1 a (nfr a fp)).trans he
 have e2:(h₁.push oT).get? a=some o:=Heap.get?_push_of_some _ e1
 have hsz:s.heap.objs.size=h₁.objs.size:=hs₁.1.symm
 have hTa:h₁.objs.size≠a:=Nat.ne_of_gt (Heap.lt_size e1)
 have hd3:=Obj.data_mapFields hd (·.setIfInBounds 1 (Value.ref h₁.objs.size))
 have e3:=Heap.get?_update_self (Obj.mapFields (·.setIfInBounds 1 (Value.ref h₁.objs.size))) e2 (Obj.isFreed_of_fields hd3)
 have eT:((h₁.push oT).update a (Obj.mapFields (·.setIfInBounds 1 (Value.ref h₁.objs.size)))).get? h₁.objs.size=some oT:=
  (Heap.get?_update_other _ _ (Ne.symm hTa)).trans (Heap.get?_push_size h₁ (by rw[← hoT];rfl))
 have kp:∀ b q,b≠a→h₁.get? b=some q→((h₁.push oT).update a (Obj.mapFields (·.setIfInBounds 1 (Value.ref h₁.objs.size)))).get? b=some q:=fun b q hb e=>
  (Heap.get?_update_other _ _ (Ne.symm hb)).trans (Heap.get?_push_of_some _ e)
 refine wpAny_setField e2 hd (by rw[hz];decide) ?_
 refine hQ _ h₁.objs.size (I.slots (ch:=[a]) (tk:=s.toks) (fun b hb=>?_) (fun b q hb hc e=>?_) (fun b q hb e=>?_) (fun b hb q e=>?_)) (Nat.le_of_eq hsz) (I.fpOk (Nat.le_of_eq hsz) (I.hok.fresh (Nat.le_of_eq hsz))) hTa e3 ⟨oT,_,eT,by rw[← hoT],?_⟩
 ·rw[List.mem_singleton.mp hb];exact fp
 ·exact kp b q (fun z=>hc (by simp[z])) ((hs₁.2.1 b hb).trans e)
 ·obtain⟨sl,q'⟩:=hs₁.2.2 b q e
  refine⟨sl,kp b _ (fun z=>?_) q'⟩
  subst z
  exact nfr b fp hb
 ·rw[List.mem_singleton.mp hb];exact⟨_,e3⟩
 ·first|(simp;done)|(rcases hpl with rfl|⟨_,_,_,_,_,_,_,rfl⟩ <;> simp)
theorem vs_set {vs:Array Value}{v:Value}{H:Hp} (hz:vs.size=6) (h2:∃ cs,zho H cs∧vs[2]?=some (nxt cs 0)):(vs.setIfInBounds 1 v).size=6∧(∃ cs,zho H cs∧(vs.setIfInBounds 1 v)[2]?=some (nxt cs 0))∧(vs.setIfInBounds 1 v)[1]?=some v:=by
 refine⟨by simpa using hz,?_,?_⟩
 ·obtain⟨cs,hc,h2⟩:=h2
  exact⟨cs,hc,by rw[Array.getElem?_setIfInBounds_ne (by decide)];exact h2⟩
 ·simp[hz]
theorem Inv.note {M:Model}{E:Value→Shared→Prop}{Q:Unit→Shared→Prop}{tb:Option (Addr×Value)} (B:Body X) (I:Inv X pins σ H s) (x:Exc X pins H s.heap a c dd tb) (hfl:∀ p,tb=some p→p.2=.none∨p.2=rawInt X.env.locals)
  (hQ:∀ s' T,Inv X pins σ H s'→Exc X pins H s'.heap a c dd (some (T,rawInt X.env.locals))→Q () s'):wpAny M X.A (noteFrame (.ref a) X.env) Q E s:=by
 obtain⟨o,vs,h1,hc,hdd,hd,hz,h2,hv1⟩:=x.at_.ob
 have fin:∀ s' T,Inv X pins σ H s'→zcm X pins H T→T≠a→s'.heap.get? a=some (o.mapFields (·.setIfInBounds 1 (.ref T)))→(∃ oT ts,s'.heap.get? T=some oT∧oT.data=.fields ts∧ts[3]?=some (rawInt X.env.locals))→Q () s':=fun s' T I' fT ne e' tr=>by
  obtain⟨z1,z2,z3⟩:=vs_set (v:=.ref T) hz h2
  refine hQ s' T I' ⟨x.fp,fun p q=>?_,⟨_,_,e',(Obj.cls_mapFields _ _).trans hc,(zd9 _ _).trans hdd,Obj.data_mapFields hd _,z1,z2,z3⟩,fun p q=>?_⟩
  ·cases q;exact fT
  ·cases q;exact⟨ne,tr⟩
 unfold noteFrame
 simp only[B.2]
 cases tb with
 | none=>
  refine wpAny_bind (wpAny_field h1 hd hv1 ?_)
  rw[if_neg (by decide)]
  exact zek B I x.fp h1 hd hz fun s' T I' _ fT ne e' tr=>fin s' T I' fT ne e' tr
 | some p=>
  obtain⟨T,fl⟩:=p
  obtain⟨ne,oT,ts,hT,hdT,h3⟩:=x.at_.tr _ rfl
  refine wpAny_bind (wpAny_field h1 hd hv1 ?_)
  rw[if_pos (show(Value.ref T != Value.none)=true from by simp)]
  refine wpAny_bind (wpAny_field hT hdT h3 ?_)
  rcases hfl _ rfl with z|z
  ·have z:fl=.none:=z
   subst z
   rw[if_neg (show ¬ ((Value.none == rawInt X.env.locals)=true) from by simp[rawInt])]
   refine wpAny_bind (wpAny_setField hT hdT (Array.getElem?_eq_some_iff.mp h3).1 ?_)
   have other:∀ b,b≠T→(s.heap.update T (Obj.mapFields (·.setIfInBounds 3 Value.none))).get? b=s.heap.get? b:=fun b hb=>Heap.get?_update_other _ _ (Ne.symm hb)
   have nfr:T∉frs X.stack:=fun z=>(List.mem_cons.mp (I.stkSub T z)).elim (x.fpT _ rfl).2.1 (x.fpT _ rfl).2.2.1
   have I1:Inv X pins σ H { s with heap:=s.heap.update T (Obj.mapFields (·.setIfInBounds 3 Value.none)) }:=I.slots (ch:=[T]) (tk:=s.toks) (fun b hb=>by rw[List.mem_singleton.mp hb];exact x.fpT _ rfl)
    (fun b q _ hc e=>(other b fun z=>hc (by simp[z])).trans e) (fun b q hb e=>⟨q.slots,(other b fun z=>nfr (z ▸ hb)).trans e⟩)
    (fun b hb q e=>(by obtain rfl:=List.mem_singleton.mp hb;exact⟨_,Heap.get?_update_self _ hT (Obj.isFreed_of_fields (Obj.data_mapFields hdT _))⟩))
   exact zek B I1 x.fp ((other a (Ne.symm ne)).trans h1) hd hz fun s' T' I' _ fT' ne' e' tr=>fin s' T' I' fT' ne' e' tr
  ·have z:fl=rawInt X.env.locals:=z
   subst z
   rw[if_pos (show(rawInt X.env.locals == rawInt X.env.locals)=true from beq_self_eq_true _)]
   exact wpAny_pure (hQ s T I x)
theorem Inv.land {M:Model}{E:Value→Shared→Prop}{Q:Unit→Shared→Prop}{T:Addr}{fl:Value}{A:Around} (I:Inv X pins σ H s) (x:Exc X pins H s.heap a c dd (some (T,fl)))
  (hQ:∀ s',Inv X pins σ H s'→Exc X pins H s'.heap a c dd (some (T,.none))→Q () s'):wpAny M A (setFlight (.ref a) none) Q E s:=by
 obtain⟨o,vs,h1,hc,hdd,hd,hz,h2,hv1⟩:=x.at_.ob
 obtain⟨ne,oT,ts,hT,hdT,h3⟩:=x.at_.tr _ rfl
 have h33:3<ts.size:=(Array.getElem?_eq_some_iff.mp h3).1
 unfold setFlight
 refine wpAny_bind (wpAny_field h1 hd hv1 ?_)
 rw[if_pos (show(Value.ref T != Value.none)=true from by simp)]
 refine wpAny_setField hT hdT h33 ?_
 have other:∀ b,b≠T→(s.heap.update T (Obj.mapFields (·.setIfInBounds 3 ((none:Option Addr).elim Value.none fun f=>rawInt f)))).get? b=s.heap.get? b:=fun b hb=>Heap.get?_update_other _ _ (Ne.symm hb)
 have self:=Heap.get?_update_self (Obj.mapFields (·.setIfInBounds 3 ((none:Option Addr).elim Value.none fun f=>rawInt f))) hT (Obj.isFreed_of_fields (Obj.data_mapFields hdT _))
 have nfr:T∉frs X.stack:=fun z=>(List.mem_cons.mp (I.stkSub T z)).elim (x.fpT _ rfl).2.1 (x.fpT _ rfl).2.2.1
 refine hQ _ (I.slots (ch:=[T]) (tk:=s.toks) (fun b hb=>by rw[List.mem_singleton.mp hb];exact x.fpT _ rfl) (fun b q _ hc e=>(other b fun z=>hc (by simp[z])).trans e)
  (fun b q hb e=>⟨q.slots,(other b fun z=>nfr (z ▸ hb)).trans e⟩) (fun b hb q e=>(by obtain rfl:=List.mem_singleton.mp hb;exact⟨_,self⟩))) ⟨x.fp,fun p q=>?_,⟨o,vs,(other a (Ne.symm ne)).trans h1,hc,hdd,hd,hz,h2,hv1⟩,fun p q=>?_⟩
 ·cases q;exact x.fpT (T,fl) rfl
 ·cases q;exact⟨ne,_,_,self,Obj.data_mapFields hdT _,by simp[h33]⟩
end
def CXe (P:Program) (w:World):CXT:=fun outer H s E e s'=>∃ a c dd T H',e=.ref a∧s'.os=s.os∧AllBare s'.gens∧Un (frs outer) [] H H' s.heap s'.heap∧HOk P w H' s'.heap ∧
 (s.heap.objs.size≤a∧H' a=none)∧(s.heap.objs.size≤T∧H' T=none)∧ExcAt H' s'.heap a c dd (some (T,.none))∧E c dd H'
abbrev RK:=St→XK
def PX (X:Cx) (R:RK):Prop:=∀ (pins:List (Addr×Obj)) (σ:St) (H:Hp) (s:Shared) (a:Addr) (c:Value) (dd:Option Addr) (tb:Option Addr),Inv X pins σ H s→Exc X pins H s.heap a c dd (tb.map fun T=>(T,Value.none))→R σ c dd H→X.xe (.ref a) s
theorem zj3 {tb:Option Addr}{v:Value}:∀ p,(tb.map fun T=>(T,Value.none))=some p→p.2=Value.none∨p.2=v:=fun p e=>by
 cases tb with
 | none=>cases e
 | some T=>cases e;exact .inl rfl
theorem zhP {P:Program}{w:World}{K:PySem.W.Frag}{mg:Str→Option Value}{base:Heap}{N:List Str}{qual:Str}{scope:Scope}{f:Addr}{cd:Value}{A:Around}{outer:List Env}{s:Shared}{H:Hp}{E:XK} :
  PX (zhC (CXe P w) P w K mg base N qual scope f cd A outer s H E) (fun _=>E):=by
 intro pins σ H' s1 a c dd tb I x hE
 have B:Body (zhC (CXe P w) P w K mg base N qual scope f cd A outer s H E):=⟨rfl,rfl⟩
 show wpAny _ _ (leaving _ (.ref a)) _ _ s1
 unfold leaving
 refine wpAny_bind (I.note B x zj3 fun s2 T I2 x2=>?_)
 refine I2.land x2 fun s3 I3 x3=>?_
 have sz:∀ b,zcm (zhC (CXe P w) P w K mg base N qual scope f cd A outer s H E) pins H' b→s.heap.objs.size≤b∧H' b=none:=fun b fb=>by
  refine⟨?_,fb.1⟩
  rcases fb.2.2.2.1 with z|z
  ·exact absurd (show b∈([]:List Addr) from z) (by simp)
  ·exact z
 exact⟨a,c,dd,T,H',rfl,I3.os,I3.bare,I3.base,I3.hok,sz a x3.fp,sz T (x3.fpT _ rfl),x3.at_,hE⟩
theorem zkO {X:Cx}{R:RK} (hp:PX X R):∀ (pins:List (Addr×Obj)) (σ:St) (H:Hp) (s:Shared) (e:Value) (s':Shared),Inv X pins σ H s→CXe X.prog X.w X.stack H s (R σ) e s'→X.xe e s':=by
 intro pins σ H s e s' I h
 obtain⟨a,c,dd,T,H',rfl,os,bare,un,hok,ha,hT,x,hE⟩:=h
 have I':Inv X pins σ H' s':=I.call' os un hok bare fun b z=>absurd z (by simp)
 refine hp pins σ H' s' a c dd (some T) I' ⟨I.fpOk ha.1 ha.2,fun p q=>?_,x⟩ hE
 cases q
 exact I.fpOk hT.1 hT.2
end L2
namespace L2
open PySem PySem.Spec PyProof.Rows
section
variable {prog:Program}{w:World}{A:Around}{E:Value→Shared→Prop}{h:Heap}{g:Array GenState}{d:Drawn}{t:Nat}{os:OsState}
variable {nm q:Str}{C N:Addr}{bs bm bmB:List Value}{hdct:Bool}{sn:List Str}{sub:List Value}{ab:Bool}{col:Option Bool}{dd:Option Addr}{k0 k1 k2 k3 k5:Option Value}{B newId initId:String}
abbrev zel (C t:Addr):Obj:={ cls:=.ref C,data:=.fields #[.ref t,.none,.none,.none,.bool false,.none] }
abbrev zem (zbe:List Value):Obj:={ cls:=.type "tuple",data:=.seq zbe.toArray }
theorem zhQ (F:ExcBaseFacts B newId initId bmB) (T:OwnTail h bmB bm){zbe:List Value}{fI:Addr}{oI:Obj}{Q:Value→Shared→Prop}
  (oC:h.get? C=some (excClassObj nm q C N bs bm hdct sn sub ab col dd k0 k1 k2 k3 k5 newId)) (lk:PySem.W.Looks (model prog w) h (typeLookup (.ref C) "__init__") (some (.ref fI))) (oF:h.get? fI=some oI) (fF:oI.cls=.type "function") (few:zbe.length≤sizeLine)
  (fin:wpAny (model prog w) (A.under (.builtin "type.__call__" ⟨.ref C::zbe,[]⟩)) (call (.ref fI) (.ref (h.objs.size + 1)::zbe)) (fun r s'=>r=.none∧Q (.ref (h.objs.size + 1)) s') E ⟨(h.push (zem zbe)).push (zel C h.objs.size),g,d,t,os⟩) :
  wpAny (model prog w) A (call (.ref C) zbe) Q E ⟨h,g,d,t,os⟩:=by
 have l1:=tc_lookup
 have l2:=tc_bind (.ref C)
 have tyC:(⟨h,g,d,t,os⟩:Shared).TypeIs (.ref C) "type":=⟨_,oC,rfl⟩
 refine wpAny_call (codeAny_of_tree ?_)
 show wpAny _ _ (callAny (.ref C) _) _ _ _
 repeat (any_goals (first|assumption|(with_reducible refine wpAny_loadPart_at oC ?_)|wp_step))
 refine⟨rfl,codeAny_call_builtin_at (Code.quiet_builtin _ (by decide +kernel)) entry_typeCall (wpAny_check_type_call_sub oC ?_)⟩
 show wpAny _ (A.under (.builtin "type.__call__" ⟨.ref C::zbe,[]⟩)) (Builtin.«type.__call__» ⟨.ref C::zbe,[]⟩) _ _ _
 repeat (first|(with_reducible refine wpAny_loadPart_at oC ?_)|(with_reducible refine wpAny_madeBy_exc oC ?_)|wp_step)
 refine codeAny_call_builtin_code (Code.quiet_builtin _ F.quiet) (wpAny_check_new_subT F T oC (codeAny_exc_new_subT F T oC ?_ few))
 show wpAny _ _ _ _ _ _
 have kk:∀ b o,h.get? b=some o→((h.push (zem zbe)).push (zel C h.objs.size)).get? b=some o:=fun b o e=>Heap.get?_push_of_some _ (Heap.get?_push_of_some _ e)
 have oC1:=kk _ _ oC
 have oF1:=kk _ _ oF
 have oX:((h.push (zem zbe)).push (zel C h.objs.size)).get? (h.objs.size + 1)=some { cls:=.ref C,data:=.fields #[.ref h.objs.size,.none,.none,.none,.bool false,.none] }:=by heap_get
 have isC:(Value.ref C::bm).contains (.ref C)=true:=by simp
 unfold isInstance
 repeat (first|(with_reducible refine wpAny_loadPart_at oX ?_)|(with_reducible refine wpAny_isSubtype_exc oC1 ?_;rw[isC])|wp_step)
 show wpAny _ _ (typeLookup (.ref C) _) _ _ _
 refine lk _ _ _ _ kk ?_
 refine wpAny_holding (wpAny_bind ?_)
 unfold bindSpecial
 refine wpAny_bind (wpAny_typeOf (T:="function") ⟨_,oF1,fF⟩ ?_)
 rw[if_pos (by decide)]
 refine wpAny_pure (wpAny_bind (wpAny_mono fin (fun r s' z=>?_) fun _ _ x=>x))
 obtain⟨rfl,z⟩:=z
 wp_walk
 exact z
theorem zg1 {M:Model}{env:Env}{s:Shared}{x:Sem Value}{Q:Flow→Shared→Prop} (hb:bm.contains (.type "BaseException")=true)
  (hx:wpAny M A x (fun v s₁=>∃ e t dx,v=.ref e∧s₁.heap.get? C=some (excClassObj nm q C N bs bm hdct sn sub ab col dd k0 k1 k2 k3 k5 newId)∧s₁.heap.get? e=some { cls:=.ref C,dict:=dx,data:=.fields #[.ref t,.none,.none,.none,.bool false,.none] }∧wpAny M A (raiseNew (.ref e):Sem Flow) Q E s₁) E s) :
  wpAny M A (raiseStmt env (some x) none) Q E s:=by
 have isB:(Value.ref C::bm).contains (.type "BaseException")=true:=by rw[List.contains_cons,hb,Bool.or_true]
 unfold raiseStmt
 refine wpAny_bind (wpAny_mono hx (fun v s₁ z=>?_) fun _ _ y=>y)
 obtain⟨e,t,dx,rfl,oC,oe,z⟩:=z
 obtain⟨hp,g,d,tk,os⟩:=s₁
 repeat (first|exact z|(with_reducible refine wpAny_loadPart_at oe ?_)|(with_reducible refine wpAny_loadPart_at oC ?_)|(with_reducible refine wpAny_isSubtype_exc oC ?_;rw[isB])|wp_step)
end
def zhR (K:PySem.W.Frag) (C:Addr) (bmB:List Value) (newId:String):Bool:=match K.lookup C with
 | some ⟨.type "type",_,.cls cd,sl⟩=>(match cd.mro,sl.toList with
  | .ref C1::bm,[_,_,_,_,some (.builtin n),_]=>C1 == C && n == newId && !cd.hasDel && PySem.W.tailIn K bmB bm
  | _,_=>false)
 | _=>false
structure XCls (h:Heap) (C:Addr) (bmB bm:List Value) (newId:String):Prop where
 obj:∃ nm q N bs hdct sn sub ab col dd k0 k1 k2 k3 k5,h.get? C=some (excClassObj nm q C N bs bm hdct sn sub ab col dd k0 k1 k2 k3 k5 newId)
 tail:OwnTail h bmB bm
theorem zeK {K:PySem.W.Frag}{h:Heap}{C:Addr}{bmB:List Value}{newId:String} (X:K.In h) (e:zhR K C bmB newId=true):∃ bm,XCls h C bmB bm newId:=by
 unfold zhR at e
 split at e
 ·rename_i d1 c1 s1 at1
  split at e
  ·rename_i C1 bm j0 j1 j2 j3 n1 j5 m1 z1
   simp only[Bool.and_eq_true,beq_iff_eq,Bool.not_eq_true'] at e
   obtain⟨⟨⟨rfl,rfl⟩,nd⟩,tl⟩:=e
   obtain⟨f1,f2,f3,f4,f5,f6,f7,f8,f9,f10,f11⟩:=c1
   dsimp only at m1 nd
   subst m1 nd
   obtain rfl:s1=#[j0,j1,j2,j3,some (.builtin n1),j5]:=by
    obtain⟨l1⟩:=s1
    simp only at z1
    rw[z1]
   exact⟨bm,⟨f1,f5,f4,f2,f6,f7,f8,f9,f10,d1,j0,j1,j2,j3,j5,X _ _ at1⟩,PySem.W.tail_of_in X tl⟩
  ·cases e
 ·cases e
end L2
namespace L2
open PySem PySem.Spec PyProof.Rows PySem.Builtin.ObjectAttr
abbrev bmV:List Value:=[.type "ValueError",.type "Exception",.type "BaseException",.type "object"]
theorem passV (self:Value):refuseLoop self "__setattr__" bmV=pure ():=by kernel_rfl
def zlS:List Value→Bool
 | .ref _::r=>zlS r
 | l=>l == bmV
theorem zfx (self:Value):∀ {l:List Value},zlS l=true→refuseLoop self "__setattr__" l=pure ()
 | .ref c::r,e=>by rw[refuseLoop_ref];exact zfx self (l:=r) (by simpa [zlS] using e)
 | [],e=>by cases e
 | .type n::r,e=>by rw[beq_iff_eq.mp (show((Value.type n::r) == bmV)=true from e)];exact passV self
 | .none::r,e=>by cases e
 | .bool _::r,e=>by cases e
 | .int _ _::r,e=>by cases e
 | .str _ _::r,e=>by cases e
 | .bytes _ _::r,e=>by cases e
 | .float _ _::r,e=>by cases e
 | .builtin _::r,e=>by cases e
 | .notImplemented::r,e=>by cases e
 | .ellipsis::r,e=>by cases e
theorem zgs:∀ {l:List Value},zlS l=true→l.contains (.type "object")=true
 | .ref c::r,e=>by rw[List.contains_cons,zgs (l:=r) (by simpa [zlS] using e),Bool.or_true]
 | [],e=>by cases e
 | .type n::r,e=>by rw[beq_iff_eq.mp (show((Value.type n::r) == bmV)=true from e)];rfl
 | .none::r,e=>by cases e
 | .bool _::r,e=>by cases e
 | .int _ _::r,e=>by cases e
 | .str _ _::r,e=>by cases e
 | .bytes _ _::r,e=>by cases e
 | .float _ _::r,e=>by cases e
 | .builtin _::r,e=>by cases e
 | .notImplemented::r,e=>by cases e
 | .ellipsis::r,e=>by cases e
def zj4 (K:PySem.W.Frag) (C:Addr):Bool:=(PySem.W.clsIn K C).any fun cd=>zlS cd.mro
structure XSet (K:PySem.W.Frag) (C:Addr) (f:Str):Prop where
 sa:PySem.W.findIn K (.ref C) "__setattr__"=some (some (.builtin "object.__setattr__"))
 ov:zj4 K C=true
 tk:PySem.W.takerIn K C f=some none
 hd:PySem.W.hasDictIn K C=true
section
variable {prog:Program}{w:World}{A:Around}{E:Value→Shared→Prop}{s:Shared}{K:PySem.W.Frag}{C x:Addr}{name:Str}{v:Value}{vs:Array Value}
theorem zkP {Q:Unit→Shared→Prop} (X:K.In s.heap) (hx:s.heap.get? x=some { cls:=.ref C,data:=.fields vs }) (Z:XSet K C name)
  (fin:∀ h',(∀ b o,b≠x→s.heap.get? b=some o→h'.get? b=some o)→h'.get? x=some { cls:=.ref C,dict:=some s.heap.objs.size,data:=.fields vs } →
   h'.Ns1 s.heap.objs.size (fun y=>if y=name then some v else none)→Q () { s with heap:=h',toks:=s.toks + 2 }):wpAny (model prog w) A (setAttr (.ref x) name v) Q E s:=by
 have J:PySem.W.InstAt s.heap x { cls:=.ref C,data:=.fields vs } C none:=⟨hx,rfl,rfl,True.intro⟩
 refine PySem.W.set_plain X J Z.sa ?_
 have SF:=PySem.F.store_object
 obtain⟨cd,hc,ho⟩:=PySem.W.any_some Z.ov
 have ne:cd.mro.isEmpty=false:=by cases q:cd.mro with|nil=>rw[q] at ho;cases ho|cons _ _=>rfl
 have isO:PySem.W.Looks (model prog w) s.heap (isInstance (.ref x) (.type "object")) true:=J.type.andThen (PySem.W.looks_mroIn X (by unfold PySem.W.mroIn;rw[hc,Option.bind_some,if_neg (by rw[ne];decide),zgs ho]))
 refine codeAny_call_builtin SF.slot.plain SF.entry (@PySem.W.check_slot (model prog w) _ _ { s with toks:=s.toks + 1 } "object.__setattr__" "object" "__setattr__" (.ref x) [.str name s.toks,v] [] _ SF.kind SF.split isO (SF.args (.ref x) (.str name s.toks) v) ?_)
 obtain⟨attr,ha,hr⟩:=Option.bind_eq_some_iff.mp Z.tk
 have mr:PySem.W.Looks (model prog w) s.heap (mroOf (.ref C)) cd.mro:=(PySem.W.looks_clsIn X hc).andThen .now
 have tk:PySem.W.Looks (model prog w) s.heap (storeTaker? attr) none:=by
  cases attr with
  | none=>cases hr;exact .now
  | some a=>
   obtain⟨b,hb,z⟩:=Option.map_eq_some_iff.mp hr
   refine(PySem.W.looks_takesIn X hb).andThen ?_
   cases b with
   | true=>cases z
   | false=>exact .now
 rw[PySem.W.osa_eq,refuse_eq]
 refine wpAny_bind (wpAny_bind (PySem.W.Looks.here (s:={ s with toks:=s.toks + 1 }) J.type (wpAny_bind (PySem.W.Looks.here (s:={ s with toks:=s.toks + 1 }) mr ?_))))
 rw[zfx _ ho]
 refine wpAny_pure (wpAny_bind (PySem.W.Looks.here (s:={ s with toks:=s.toks + 1 }) J.type (wpAny_bind (PySem.W.Looks.here (s:={ s with toks:=s.toks + 1 }) (PySem.W.looks_findIn X ha) (wpAny_bind (PySem.W.Looks.here (s:={ s with toks:=s.toks + 1 }) tk ?_))))))
 obtain⟨cd',hc',hd'⟩:=PySem.W.any_some Z.hd
 refine wpAny_bind (wpAny_pure (wpAny_bind (wpAny_bind (wpAny_loadPart hx (wpAny_bind (PySem.W.Looks.here (s:={ s with toks:=s.toks + 1 }) (PySem.W.looks_clsIn X hc') ?_))))))
 rw[hd']
 have lt:=Heap.lt_size hx
 have xs:x≠s.heap.objs.size:=Nat.ne_of_lt lt
 have hx1:(s.heap.push { cls:=.type "dict",data:=.dict #[] }).get? x=some { cls:=.ref C,data:=.fields vs }:=Heap.get?_push_of_some _ hx
 refine wpAny_bind (wpAny_alloc' (wpAny_bind (wpAny_update' hx1 (wpAny_pure (wpAny_bind (wpAny_pure (wpAny_bind ?_)))))))
 generalize hG:(s.heap.push { cls:=.type "dict",data:=.dict #[] }).update x (fun o=>{ cls:=o.cls,dict:=some s.heap.objs.size,data:=o.data,slots:=o.slots })=G
 have oth:∀ b,b≠x→G.get? b=(s.heap.push { cls:=.type "dict",data:=.dict #[] }).get? b:=fun b hb=>by rw[← hG];exact Heap.get?_update_other _ _ (Ne.symm hb)
 have gd:G.get? s.heap.objs.size=some { cls:=.type "dict",data:=.dict #[] }:=(oth _ (Ne.symm xs)).trans (Heap.get?_push_size _ rfl)
 have gx:G.get? x=some { cls:=.ref C,dict:=some s.heap.objs.size,data:=.fields vs }:=by rw[← hG,Heap.get?_update_self _ hx1 rfl]
 have n0:G.Ns s.heap.objs.size (fun _=>none):=⟨_,#[],_,gd,rfl,fun e he=>absurd he (by simp),fun _=>rfl⟩
 refine wpAny_nsSet1 (s:=⟨G,s.gens,s.drawn,s.toks + 1,s.os⟩) (Heap.Ns1.of_empty n0) fun h' hn2 hs2=>?_
 obtain⟨oD,esD,epD,hoD,hdD,hcD⟩:=hn2.count (ns:=[name]) (fun y hy=>by
  split at hy
  ·rename_i z;simp[z]
  ·exact absurd rfl hy)
 refine wpAny_bind (wpAny_lookBehind hoD (by rw[hdD];exact pastItsLine_dict (Nat.le_trans hcD (by simp[sizeLine_eq]))) ?_)
 refine wpAny_pure (fin h' (fun b o hb q=>?_) ((hs2.2 _ xs).trans gx) hn2)
 exact(hs2.2 b (Nat.ne_of_lt (Heap.lt_size q))).trans ((oth b hb).trans (Heap.get?_push_of_some _ q))
end
structure XGet (K:PySem.W.Frag) (C:Addr) (f:Str):Prop where
 ga:PySem.W.findIn K (.ref C) "__getattribute__"=some (some (.builtin "BaseException.__getattribute__"))
 gt:PySem.W.findIn K (.ref C) "__getattr__"=some none
 ba:PySem.W.mroIn K C (.type "BaseException")=some true
 na:PySem.W.findIn K (.ref C) f=some none
 hd:PySem.W.hasDictIn K C=true
section
variable {prog:Program}{w:World}{A:Around}{E:Value→Shared→Prop}{s:Shared}{K:PySem.W.Frag}{C x dx:Addr}{name:Str}{v:Value}{o:Obj}{mA:Str→Option Value}
theorem zkQ {expr:Bool}{Q:Value→Shared→Prop} (X:K.In s.heap) (hx:s.heap.get? x=some o) (hc:o.cls=.ref C) (hf:∃ vs,o.data=.fields vs) (hdx:o.dict=some dx) (hn:s.heap.Ns1 dx mA) (Z:XGet K C name) (hv:mA name=some v) (hh:PySem.W.handedIn v=true)
  (fin:Q v { s with toks:=s.toks + 1 }):wpAny (model prog w) A (getAttr (.ref x) name expr) Q E s:=by
 obtain⟨od,hod,hl⟩:=zdK hn
 have J:PySem.W.InstAt s.heap x o C (some od):=⟨hx,hc,by obtain⟨vs,hf⟩:=hf;unfold PySem.W.notCls;rw[hf],by rw[hdx];exact hod⟩
 have L1:=PySem.W.looks_findIn (M:=model prog w) X Z.ga
 have L2:=PySem.W.looks_findIn (M:=model prog w) X Z.gt
 have L3:=PySem.W.looks_find (M:=model prog w) X J (PySem.W.findObj_own Z.hd Z.na rfl (by rw[hl,hv]))
 have L0:=J.type (M:=model prog w)
 have isB:PySem.W.Looks (model prog w) s.heap (isInstance (.ref x) (.type "BaseException")) true:=J.type.andThen (PySem.W.looks_mroIn X Z.ba)
 obtain⟨hp,g,d,t,os⟩:=s
 unfold getAttr getAttrBy
 refine wpAny_bind (wpAny_mkText (wpAny_holding (wpAny_bind (L0.at (wpAny_bind (L1.at ?_))))))
 show wpAny _ _ (if _ then _ else _) _ _ _
 rw[if_neg (by rw[show(Value.builtin "BaseException.__getattribute__" == Value.builtin "object.__getattribute__")=false by decide +kernel,Bool.and_false];decide)]
 unfold getAttrByItsOwn
 refine wpAny_bind (L2.at (wpAny_bind (wpAny_attempt (wpAny_holding ?_))))
 unfold callGetattribute
 rw[if_neg (by cases expr <;> decide)]
 unfold boundAndCalled
 have G:=PySem.F.excAttr_ValueError.ga
 refine wpAny_bind ?_
 rw[G.bind]
 refine wpAny_pure (wpAny_call (codeAny_call_builtin G.plain PySem.F.entry_bexc_ga (@PySem.W.check_slot (model prog w) _ _ ⟨hp,g,d,t + 1,os⟩ "BaseException.__getattribute__" "BaseException" "__getattribute__" (.ref x) [.str name t] [] _ (by decide +kernel) (by decide +kernel) isB (PySem.F.args_bexc_ga (.ref x) (.str name t)) ?_)))
 refine wpAny_bind (wpAny_pure (wpAny_bind (wpAny_pure (wpAny_bind (L0.at (wpAny_bind (L3.at (wpAny_pure ?_))))))))
 show wpAny _ _ (handedOut v) _ _ _
 rw[PySem.W.handedOut_of hh]
 exact wpAny_pure fin
end
end L2
namespace L2
open PySem PySem.Spec PyProof.Rows
def del (H:Hp) (a:Addr):Hp:=fun b=>if b=a then none else H b
theorem zgt {H:Hp}{a:Addr}:del H a a=none:=by unfold del;rw[if_pos rfl]
theorem zdU {H:Hp}{a b:Addr} (h:b≠a):del H a b=H b:=by unfold del;rw[if_neg h]
def zi5 (C t a:Addr) (dx:Option Addr):HO:=.ext fun h=>h.get? a=some { cls:=.ref C,dict:=dx,data:=.fields #[.ref t,.none,.none,.none,.bool false,.none] }
section
variable {X:Cx}{pins:List (Addr×Obj)}{σ:St}{H:Hp}{s:Shared}
theorem Inv.del {a:Addr}{φ:Heap→Prop} (I:Inv X pins σ H s) (e:H a=some (.ext φ)):Inv X pins σ (del H a) s:=by
 have ne:∀ b u,H b=some u→(∀ ψ,u≠.ext ψ)→b≠a:=fun b u q n z=>by rw[z,e] at q;cases q;exact n _ rfl
 have un:Un X.fs X.ex X.H₀ (L2.del H a) X.s₀.heap s.heap:=by
  obtain⟨b1,b2,b3,b4,b5,b6,b7⟩:=I.base
  refine⟨b1,b2,fun b o q n x=>?_,b4,fun b xs q=>?_,fun b o u q=>?_,fun b pp pq q=>?_⟩
  ·unfold L2.del;split
   ·rfl
   ·exact b3 b o q n x
  ·have:=b5 b xs q
   rw[zdU (ne b _ this (by intro ψ z;cases z))];exact this
  ·have:=b6 b o u q
   rw[zdU (ne b _ this (by intro ψ z;cases z))];exact this
  ·have:=b7 b pp pq q
   rw[zdU (ne b _ this (by intro ψ z;cases z))];exact this
 have none_of:∀ b,H b=none→L2.del H a b=none:=fun b q=>by unfold L2.del;split <;> first|rfl|exact q
 refine { I with base:=un,free:=none_of _ I.free,freeC:=fun x c q=>none_of _ (I.freeC x c q),pin:=fun p hp=>?_,hok:=fun b o q=>?_ }
 ·obtain⟨p1,p2,p3⟩:=I.pin p hp
  exact⟨p1,none_of _ p2,p3⟩
 ·by_cases hb:b=a
  ·subst hb;rw[zgt] at q;cases q
  ·rw[zdU hb] at q
   refine(I.hok b o q).stay (fun c u _ r=>r) (fun c r=>?_) (fun c xs r=>?_) fun c ob r=>?_
   ·rw[zdU (ne c _ r (by intro ψ z;cases z))];exact r
   ·rw[zdU (ne c _ r (by intro ψ z;cases z))];exact r
   ·rw[zdU (ne c _ r (by intro ψ z;cases z))];exact r
theorem zhS {R:RK}{C t a:Addr}{dx:Option Addr}{Q:Flow→Shared→Prop} (hp:PX X R) (I:Inv X pins σ H s) (fp:zcm X pins H a)
  (he:s.heap.get? a=some { cls:=.ref C,dict:=dx,data:=.fields #[.ref t,.none,.none,.none,.bool false,.none] }) (hR:R σ (.ref C) dx H):wpAny (model X.prog X.w) X.A (raiseNew (.ref a):Sem Flow) Q X.xe s:=by
 obtain⟨f0,f1,f2,f3,f4,f5⟩:=id fp
 refine zgh (s:=s) ?_ he rfl (by simp) fun h' o' vs' k1 k2 k3 k4 k5 k6 k7 k8=>?_
 ·rcases I.hdAt with z|⟨b,cs,z,c⟩
  ·exact .inl z
  ·exact .inr ⟨b,cs,z,c.chn I.hok,c.not_mem f0⟩
 ·have I':Inv X pins σ H { s with heap:=h' }:=I.turned (t':=s.toks) k1 f0 f1 f3 f4 f5
  refine hp pins σ H _ a (.ref C) dx none I' ⟨fp,fun p q=>(by cases q),⟨⟨o',vs',k2,k3,k4,k5,k6,?_,?_⟩,fun p q=>(by cases q)⟩⟩ hR
  ·rcases I.hdAt with z|⟨b,cs,z,c⟩
   ·rw[z] at k8
    exact⟨[],⟨List.nodup_nil,fun j a q=>by simp at q⟩,k8⟩
   ·rw[z] at k8
    exact⟨b::cs,c,k8⟩
  ·exact k7
end
structure XC0 (K:PySem.W.Frag) (C:Addr):Prop where
 at_:zhR K C bmV "ValueError.__new__"=true
 kp:PySem.W.keepIn K (.ref C)=true
 init:PySem.W.findIn K (.ref C) "__init__"=some (some (.builtin "ValueError.__init__"))
structure XCI (K:PySem.W.Frag) (C f:Addr):Prop where
 at_:zhR K C bmV "ValueError.__new__"=true
 kp:PySem.W.keepIn K (.ref C)=true
 init:PySem.W.findIn K (.ref C) "__init__"=some (some (.ref f))
 fn:PySem.W.isFn K (.ref f)=true
def zhT (C:Addr) (sp:Sp) (dvs:List V) (R:RK) (t:TA):TS:=fun _ σ H=>t σ H fun vs H1=>vs.length≤sizeLine∧∀ a t',H1 a=none →
 sp (.ref a::(vs++dvs)) (upd H1 a (zi5 C t' a none)) (fun v H2=>v=.non∧∃ dx,H2 a=some (zi5 C t' a dx)∧R σ (.ref C) dx (del H2 a)) (R σ)
section
variable {X:Cx}{R:RK}{C:Addr}{x:Str}{np cpos pos:Pos}{e:Expr}{es:List Expr}{t:TA}
theorem zjj {a:List Expr}{s:Shared}{bm:List Value}{Q:Flow→Shared→Prop} (hx:XCls s.heap C bmV bm "ValueError.__new__")
  (h:wpAny (model X.prog X.w) X.A (eval (.Call (.Name x np) a [] cpos) X.env) (fun v s₁=>∃ b t dx,v=.ref b∧(∀ o,s.heap.get? C=some o→s₁.heap.get? C=some o)∧s₁.heap.get? b=some { cls:=.ref C,dict:=dx,data:=.fields #[.ref t,.none,.none,.none,.bool false,.none] }∧wpAny (model X.prog X.w) X.A (raiseNew (.ref b):Sem Flow) Q X.xe s₁) X.xe s) :
  wpAny (model X.prog X.w) X.A (exec (.Raise (some (.Call (.Name x np) a [] cpos)) none pos) X.env) Q X.xe s:=by
 obtain⟨⟨nm,q,N,bs,hdct,sn,sub,ab,col,dd,k0,k1,k2,k3,k5,oC⟩,T⟩:=hx
 rw[arm_exec_Raise]
 refine wpAny_bind (wpAny_standAt (zg1 (C:=C) (nm:=nm) (q:=q) (N:=N) (bs:=bs) (bm:=bm) (hdct:=hdct) (sn:=sn) (sub:=sub) (ab:=ab) (col:=col) (dd:=dd) (k0:=k0) (k1:=k1) (k2:=k2) (k3:=k3) (k5:=k5) (newId:="ValueError.__new__") (T.hasType rfl) (wpAny_bind (wpAny_mono h (fun v s1 z=>wpAny_bind (wpAny_standAt (wpAny_pure ?_))) fun _ _ y=>y))))
 obtain⟨b,t,dx,z1,z2,z3,z4⟩:=z
 exact⟨b,t,dx,z1,z2 _ oC,z3,z4⟩
variable {CX:CXT}{k:Nat}{f:Addr}{fd:FuncData}{ps:List Str}{sp:Sp}{dvs:List V}{ds:List Value}
theorem zhU (hp:PX X R) (c:XCI X.K C f) (F:zdx X.prog X.w X.K X.mg X.base CX k f fd ps sp) (hr:zb9 (k + 1) X.A) (hb:zcq X.K fd ps ds) (hd:zaX dvs ds) (hxx:∀ σ,zdO CX X (R σ)) (hg:Gl X x) (hm:X.mg x=some (.ref C)) (ha:PA X (e::es) t)
  (hdb:(x == ("__debug__":Str))=false:=by decide) (he:starEach (e::es) X.env=(false,eval e X.env)::starEach es X.env:=by rfl) (hpl:(backTo cpos (starEach es X.env)).any (·.1)=false:=by rfl) :
  PS X (.Raise (some (.Call (.Name x np) (e::es) [] cpos)) none pos) (zhT C sp dvs R t):=by
 intro pins s σ H D I h
 obtain⟨bm0,xc⟩:=zeK I.kIn c.at_
 refine zjj xc (wpAny_Call_Name_kw (zdH I hg hm ?_ hdb))
 refine PySem.W.callWith_K (h₀:=X.base) I.ok.mod.kin c.kp (thn (ha cpos pins s σ H _ I h) fun us s1 ⟨vs,H1,I1,r,z,q⟩=>⟨I1.kIn,?_⟩) he hpl
 obtain⟨bm2,⟨nm2,q2,N2,bs2,hdct2,sn2,sub2,ab2,col2,dd2,l0,l1,l2,l3,l5,oC2⟩,_⟩:=zeK I.ok.mod.kin c.at_
 have C0:∀ o,s.heap.get? C=some o→X.base.get? C=some o:=fun o q=>by rw[I.bk _ _ oC2] at q;rw[← q];exact oC2
 obtain⟨bm,⟨nm,qn,N,bs,hdct,sn,sub,ab,col,dd,k0,k1,k2,k3,k5,oC⟩,T⟩:=zeK I1.kIn c.at_
 have fnC:(X.K.lookup f).map (·.cls)=some (.type "function"):=beq_iff_eq.mp c.fn
 obtain⟨oF,hF,hFc⟩:∃ oF,X.K.lookup f=some oF∧oF.cls=.type "function":=by
  cases hk:X.K.lookup f with
  | none=>rw[hk] at fnC;cases fnC
  | some oF=>rw[hk] at fnC;exact⟨oF,rfl,Option.some.inj fnC⟩
 have hz:us.length≤sizeLine:=by rw[← r.length];exact z
 have J:=I1
 obtain⟨hp1,g,d,tk,os⟩:=s1
 refine zhQ PySem.F.excBase_ValueError T oC (PySem.W.looks_findIn I1.kIn c.init) (I1.kIn _ _ hF) hFc hz ?_
 have kk:∀ b o,hp1.get? b=some o→((hp1.push (zem us)).push (zel C hp1.objs.size)).get? b=some o:=fun b o e=>Heap.get?_push_of_some _ (Heap.get?_push_of_some _ e)
 have oX:((hp1.push (zem us)).push (zel C hp1.objs.size)).get? (hp1.objs.size + 1)=some { cls:=.ref C,data:=.fields #[.ref hp1.objs.size,.none,.none,.none,.bool false,.none] }:=by heap_get
 have fr:H1 (hp1.objs.size + 1)=none:=J.hok.fresh (Nat.le_succ _)
 have I2:Inv X pins σ (upd H1 (hp1.objs.size + 1) (zi5 C hp1.objs.size (hp1.objs.size + 1) none)) ⟨(hp1.push (zem us)).push (zel C hp1.objs.size),g,d,tk,os⟩:=
  J.laid (t':=tk) kk (Nat.le_succ _) ⟨oX,⟨_,oX⟩,fun h1 h2 p1 p2=>p2 _ p1⟩
 have q':=q (hp1.objs.size + 1) hp1.objs.size fr
 have r2:zaX (V.ref (hp1.objs.size + 1)::(vs++dvs)) (Value.ref (hp1.objs.size + 1)::(us++ds)):=.cons rfl (r.append hd)
 have hl:(Value.ref (hp1.objs.size + 1)::us++ds).length=ps.length:=by
  have e:=r2.length
  rw[F.len _ _ _ _ q'] at e
  exact e.symm
 refine wpAny_call (codeAny_mono (F.run _ X.stack _ _ ⟨Value.ref (hp1.objs.size + 1)::us,[]⟩ (Value.ref (hp1.objs.size + 1)::(us++ds)) _ _ (R σ) (hr.make C us []) (I2.env0.make C us []) (hb _ (Value.ref (hp1.objs.size + 1)::us) I2.kIn hl) r2 q') fun rr s' hq'=>?_)
 cases rr with
 | error e=>exact hxx σ pins σ _ _ e s' I2 hq'
 | ok fl=>
  cases fl with
  | ret u=>
   obtain⟨v,H',I3,rv,ev,dx,e3,q3⟩:=I2.after hq'
   subst ev
   refine⟨rv,_,hp1.objs.size,dx,rfl,fun o q=>I3.bk _ _ (C0 o q),(I3.hok _ _ e3).1,?_⟩
   refine zhS hp (I3.del e3) ?_ (I3.hok _ _ e3).1 q3
   exact J.fpOk (s:=⟨hp1,g,d,tk,os⟩) (Nat.le_succ _) zgt
  | next=>exact False.elim hq'
  | brk=>exact False.elim hq'
  | cont=>exact False.elim hq'
def sFldX (K:PySem.W.Frag) (ta tv:TE) (f:Str):TS:=fun D σ H=>tv σ H fun y H1=>ta σ H1 fun x H2=>∃ a C t,x=.ref a∧H2 a=some (zi5 C t a none)∧XSet K C f ∧
 ∀ dx,H2 dx=none→D.nx σ (upd (upd H2 dx (.xd [(f,y)])) a (zi5 C t a (some dx)))
theorem zkR {o value:Expr}{ta tv:TE}{f:Str}{pos':Pos} (ha:PE X o ta) (hv:PE X value tv) (hs:swapsWith value (some (.Attribute o f pos')) pos.line X.env=pure false):PS X (.Assign [.Attribute o f pos'] value pos) (sFldX X.K ta tv f):=by
 intro pins s σ H D I h
 refine plainObj_wpAny_Assign_Attribute (thn (hv pins s σ H _ I h) fun v s1=>L2.ex5 fun y H1 I1 ry q1=>thn (ha pins s1 σ H1 _ I1 q1) fun u s2=>L2.ex5 fun x H2 I2 rx q2=>?_) hs
 obtain⟨a,C,t,rfl,e2,Z,q2⟩:=q2
 obtain rfl:u=Value.ref a:=rx
 have oa:=(I2.hok _ _ e2).1
 refine zkP I2.kIn oa Z fun h' k1 k2 k3=>?_
 have dn:H2 s2.heap.objs.size=none:=I2.hok.fresh (Nat.le_refl _)
 have da:s2.heap.objs.size≠a:=(zac e2 dn).symm
 have old:∀ b o,s2.heap.get? b=some o→b≠s2.heap.objs.size:=fun b o q=>Nat.ne_of_lt (Heap.lt_size q)
 have na:∀ b u,H2 b=some u→(∀ ψ,u≠.ext ψ)→b≠a:=fun b u q n z=>by rw[z,e2] at q;cases q;exact n _ rfl
 have nd:∀ b u,H2 b=some u→b≠s2.heap.objs.size:=fun b u q=>zac q dn
 have keepH:∀ b u,H2 b=some u→(∀ ψ,u≠.ext ψ)→upd (upd H2 s2.heap.objs.size (.xd [(f,y)])) a (zi5 C t a (some s2.heap.objs.size)) b=some u:=fun b u q n=>by rw[zag (na b u q n),zag (nd b u q)];exact q
 refine⟨σ,_,I2.un (t':=s2.toks + 2) ⟨fun b o q n _ _=>k1 b o (fun z=>?_) q,fun b o q n _ _=>⟨o.slots,k1 b o (fun z=>?_) q⟩,fun b o q n _=>?_,fun b o q _=>?_,fun b xs q=>?_,fun b o u q=>?_,fun b pp pq q=>?_⟩ (fun b o q=>?_),q2 _ dn⟩
 ·rw[z,e2] at n;cases n
 ·rw[z,e2] at n;cases n
 ·rw[zag (fun z=>by rw[z,e2] at n;cases n),zag (old b o q)];exact n
 ·by_cases z:b=a
  ·subst z;exact⟨_,k2⟩
  ·exact⟨o,k1 b o z q⟩
 ·exact keepH b _ q (by intro ψ z;cases z)
 ·exact keepH b _ q (by intro ψ z;cases z)
 ·exact keepH b _ q (by intro ψ z;cases z)
 ·by_cases z:b=a
  ·subst z
   rw[zaa] at q;cases q
   exact⟨k2,⟨_,k2⟩,fun h1 h2 p1 p2=>p2 _ p1⟩
  ·rw[zag z] at q
   by_cases z2:b=s2.heap.objs.size
   ·subst z2
    rw[zaa] at q;cases q
    refine⟨_,k3,fun g=>?_⟩
    by_cases hg:g=f
    ·subst hg;simpa [zec] using ry
    ·have e0:([(f,y)]:List (Str×V)).lookup g=none:=by rw[List.lookup_cons,show(g == f)=false from by simpa using hg];rfl
     rw[e0,if_neg hg];exact True.intro
   ·rw[zag z2] at q
    refine(I2.hok b o q).stay (fun c u hc r=>k1 c u ?_ r) (fun c r=>keepH c _ r (by intro ψ z;cases z)) (fun c xs r=>keepH c _ r (by intro ψ z;cases z)) fun c ob r=>keepH c _ r (by intro ψ z;cases z)
    rcases hc with hc|hc
    ·rw[hc];exact z
    ·exact na c _ hc (by intro ψ z;cases z)
end
end L2
namespace L2
open PySem PySem.Spec PyProof.Rows PySem.Builtin.ObjectAttr
structure XIs (K:PySem.W.Frag) (C:Addr):Prop where
 ga:PySem.W.findIn K (.ref C) "__getattribute__"=some (some (.builtin "BaseException.__getattribute__"))
 gt:PySem.W.findIn K (.ref C) "__getattr__"=some none
 ba:PySem.W.mroIn K C (.type "BaseException")=some true
 ob:PySem.W.mroIn K C (.type "object")=some true
 cl:PySem.W.findIn K (.ref C) "__class__"=some (some (.builtin "object.__class__"))
 gs:PySem.W.specialIn K (.builtin "object.__class__") "__get__"=some (some (.builtin "getset_descriptor.__get__"))
 tk:PySem.W.takesIn K (.builtin "object.__class__")=some true
 hd:PySem.W.hasDictIn K C=true
theorem zf9 {K:PySem.W.Frag}{C:Addr}{od:Option Obj} (Z:XIs K C):PySem.W.findObj K C od "__class__"=some (.bind (.builtin "getset_descriptor.__get__") (.builtin "object.__class__")):=by
 obtain⟨cd,hc,_⟩:=PySem.W.any_some Z.hd
 unfold PySem.W.findObj
 rw[hc,Option.bind_some,Z.cl,Option.bind_some]
 dsimp only
 rw[Z.gs,Option.bind_some]
 dsimp only
 rw[Z.tk,Option.bind_some]
section
variable {prog:Program}{w:World}{A:Around}{E:Value→Shared→Prop}{s:Shared}{K:PySem.W.Frag}{C x:Addr}{ox:Obj}{od:Option Obj}
theorem zhV {Q:Option Value→Shared→Prop} (Z:XIs K C) (X:K.In s.heap) (J:PySem.W.InstAt s.heap x ox C od) (fin:Q (some (.ref C)) { s with toks:=s.toks + 1 }):wpAny (model prog w) A (getAttr? (.ref x) "__class__") Q E s:=by
 have L1:=PySem.W.looks_findIn (M:=model prog w) X Z.ga
 have L2:=PySem.W.looks_findIn (M:=model prog w) X Z.gt
 have L3:=PySem.W.looks_find (M:=model prog w) X J (zf9 Z)
 have L0:=J.type (M:=model prog w)
 have isB:PySem.W.Looks (model prog w) s.heap (isInstance (.ref x) (.type "BaseException")) true:=J.type.andThen (PySem.W.looks_mroIn X Z.ba)
 obtain⟨hp,g,d,t,os⟩:=s
 unfold getAttr? getAttrBy? getAttrBy
 refine wpAny_bind (wpAny_mkText (wpAny_bind (wpAny_attempt (wpAny_holding (wpAny_bind (L0.at (wpAny_bind (L1.at ?_))))))))
 show wpAny _ _ (if _ then _ else _) _ _ _
 rw[if_neg (by rw[show(Value.builtin "BaseException.__getattribute__" == Value.builtin "object.__getattribute__")=false by decide +kernel,Bool.and_false];decide)]
 unfold getAttrByItsOwn
 refine wpAny_bind (L2.at (wpAny_bind (wpAny_attempt (wpAny_holding ?_))))
 unfold callGetattribute
 rw[if_neg (by decide)]
 unfold boundAndCalled
 have G:=PySem.F.excAttr_ValueError.ga
 refine wpAny_bind ?_
 rw[G.bind]
 refine wpAny_pure (wpAny_call (codeAny_call_builtin G.plain PySem.F.entry_bexc_ga (@PySem.W.check_slot (model prog w) _ _ ⟨hp,g,d,t + 1,os⟩ "BaseException.__getattribute__" "BaseException" "__getattribute__" (.ref x) [.str "__class__" t] [] _ (by decide +kernel) (by decide +kernel) isB (PySem.F.args_bexc_ga (.ref x) (.str "__class__" t)) ?_)))
 refine wpAny_bind (wpAny_pure (wpAny_bind (wpAny_pure (wpAny_bind (L0.at (wpAny_bind (L3.at ?_)))))))
 refine wpAny_bind (wpAny_holding (wpAny_call (PySem.W.class_get (s:=⟨hp,g,d,t + 1,os⟩) (ox:=ox) (od:=od) X J Z.ob (wpAny_pure ?_))))
 show wpAny _ _ (handedOut (.ref C)) _ _ _
 exact wpAny_pure (wpAny_pure fin)
theorem zjk (Z:XIs K C):PySem.W.KitX K (.ref x) (.ref C) (fun h=>PySem.W.InstAt h x ox C od) where
 ty:=fun _ _ _ I=>I.type
 it:=fun _ _ X _=>by
  obtain⟨cD,hcD,_⟩:=PySem.W.any_some Z.hd
  unfold PySem.W.clsIn at hcD
  split at hcD
  ·rename_i c1 d1 e1 s1 at1
   intro A' Q' E' s' k q
   unfold isType loadHead
   exact wpAny_bind (wpAny_loadPart (k _ _ (X _ _ at1)) (wpAny_pure q))
  ·cases hcD
 ne:=fun h tp dd its n sl X htp=>by
  obtain⟨cD,hcD,_⟩:=PySem.W.any_some Z.hd
  refine Bool.eq_false_iff.mpr fun q=>?_
  obtain rfl:C=tp:=Value.ref.inj (beq_iff_eq.mp q)
  unfold PySem.W.clsIn at hcD
  split at hcD
  ·rename_i c1 d1 e1 s1 at1
   have z:=(X _ _ at1).symm.trans htp
   cases z
  ·cases hcD
 ca:=fun X I k=>zhV Z X I k
end
structure IsX (H:Hp) (a C:Addr) (dd:Option Addr):Prop where
 at_:∃ o u,H a=some (.frz o u)∧o.cls=.ref C∧o.dict=dd∧∃ vs,o.data=.fields vs
section
variable {X:Cx}
theorem IsX.inst {pins:List (Addr×Obj)}{σ:St}{H:Hp}{s:Shared}{a C:Addr} (I:Inv X pins σ H s) (x:IsX H a C none):∃ o,PySem.W.InstAt s.heap a o C none:=by
 obtain⟨o,u,h1,h2,h3,vs,h4⟩:=x.at_
 exact⟨o,(I.hok _ _ h1).1,h2,by unfold PySem.W.notCls;rw[h4],by rw[h3];exact True.intro⟩
theorem IsX.instD {pins:List (Addr×Obj)}{σ:St}{H:Hp}{s:Shared}{a C dx:Addr}{fs:List (Str×V)} (I:Inv X pins σ H s) (x:IsX H a C (some dx)) (hd:H dx=some (.xd fs)):∃ o od,PySem.W.InstAt s.heap a o C (some od):=by
 obtain⟨o,u,h1,h2,h3,vs,h4⟩:=x.at_
 obtain⟨mA,n,_⟩:=I.hok _ _ hd
 obtain⟨od,hod,_⟩:=zdK n
 exact⟨o,od,(I.hok _ _ h1).1,h2,by unfold PySem.W.notCls;rw[h4],by rw[h3];exact hod⟩
def XDs (H:Hp):Option Addr→Prop
 | none=>True
 | some dx=>∃ fs,H dx=some (.xd fs)
theorem IsX.any {pins:List (Addr×Obj)}{σ:St}{H:Hp}{s:Shared}{a C:Addr}{dd:Option Addr} (I:Inv X pins σ H s) (x:IsX H a C dd) (hd:XDs H dd):∃ o od,PySem.W.InstAt s.heap a o C od:=by
 cases dd with
 | none=>obtain⟨o,h⟩:=x.inst I;exact⟨o,none,h⟩
 | some dx=>obtain⟨fs,hd⟩:=hd;obtain⟨o,od,h⟩:=x.instD I hd;exact⟨o,some od,h⟩
theorem zcu:zc2 X (.builtin "isinstance") (fun xs H Q=>∃ a C dd vc c b,xs=[.ref a,vc]∧IsX H a C dd∧XDs H dd∧XIs X.K C∧(∀ u,zaQ vc u→u=c)∧PySem.W.kitOne X.K (.ref C) c=some b∧Q (.bl b) H):=by
 intro pins s σ H xs us Q I r h
 obtain⟨a,C,dd,vc,c,b,rfl,x,hd,Z,hc,e,q⟩:=h
 obtain⟨u,u',rfl,rx,ry⟩:=zhz r
 obtain rfl:u=Value.ref a:=rx
 obtain rfl:=hc u' ry
 obtain⟨o,od,J⟩:=x.any I hd
 exact PySem.W.kia_one (zjk Z) I.kIn J e (fun z=>nomatch z) fun tk=>⟨.bl b,H,I.tok _,rfl,q⟩
def tFldX (K:PySem.W.Frag) (ta:TE) (f:Str):TE:=fun σ H Q=>ta σ H fun x H1=>∃ a C dx fs v,x=.ref a∧IsX H1 a C (some dx)∧H1 dx=some (.xd fs)∧XGet K C f∧fs.lookup f=some v∧Q v H1
theorem zkS {e:Expr}{ta:TE}{f:Str}{pos:Pos} (he:PE X e ta) (hb:attributeBase e f X.env (eval e X.env)=eval e X.env):PE X (.Attribute e f pos) (tFldX X.K ta f):=by
 intro pins s σ H Q I h
 refine zhA hb (thn (he pins s σ H _ I h) fun u s1=>L2.ex5 fun x H1 I1 rx hq_=>?_)
 obtain⟨a,C,dx,fs,v,ex,ix,hd,Z,l,q⟩:=hq_
 subst ex
 obtain rfl:u=Value.ref a:=rx
 obtain⟨o,u',h1,h2,h3,hf⟩:=ix.at_
 obtain⟨mA,n,hm⟩:=I1.hok _ _ hd
 have r:=hm f
 rw[l] at r
 obtain⟨w',e',r'⟩:=r.some_of
 exact zkQ I1.kIn (I1.hok _ _ h1).1 h2 hf h3 n Z e' (zfi r') ⟨v,H1,I1.tok _,r',q⟩
end
end L2
namespace L2
open PySem PySem.Spec PyProof.Rows
abbrev Cx.tr (X:Cx) (pn:List (Addr×Obj)) (E:Value→Shared→Prop):Cx:={ X with pn:=pn,xe:=E }
abbrev Cx.hnd (X:Cx) (a:Addr) (H₀:Hp):Cx:={ X with A:=X.A.mark (some (.ref a)),H₀:=H₀,xe:=fun _ _=>False }
def zeL (H H₀:Hp):Hp:=fun b=>match H b with|some (.frz o u)=>some (.frz o u)|_=>H₀ b
theorem zeM {H H₀:Hp}{b:Addr}{o:Obj}{u:HO} (e:H b=some (.frz o u)):zeL H H₀ b=some (.frz o u):=by unfold zeL;rw[e]
theorem zdz {H H₀:Hp}{b:Addr} (n:∀ o u,H b≠some (.frz o u)):zeL H H₀ b=H₀ b:=by
 unfold zeL
 split
 ·rename_i o u e;exact absurd e (n o u)
 ·rfl
section
variable {X:Cx}{pins:List (Addr×Obj)}{σ:St}{H:Hp}{s:Shared}{a:Addr}{c:Value}{dd:Option Addr}{tb:Option (Addr×Value)}
theorem Inv.enter (hex:X.ex=[]) (I:Inv X pins σ H s) (x:Exc X pins H s.heap a c dd tb):∃ o,o.cls=c∧o.dict=dd∧(∃ vs,o.data=.fields vs)∧Inv (X.hnd a (zeL (upd H a (.frz o (.own a))) X.H₀)) pins σ (upd H a (.frz o (.own a))) s:=by
 obtain⟨o,vs,h1,hc,hdd,hd,hz,⟨cs,ch,h2⟩,hv1⟩:=x.at_.ob
 obtain⟨f0,f1,f2,f3,f4,f5⟩:=x.fp
 have f3':X.s₀.heap.objs.size≤a:=by
  rcases f3 with z|z
  ·rw[hex] at z;cases z
  ·exact z
 refine⟨o,hc,hdd,⟨vs,hd⟩,?_⟩
 have na:∀ b u,H b=some u→b≠a:=fun b u q=>zac q f0
 have old:∀ b ob,X.s₀.heap.get? b=some ob→b≠a:=fun b ob q=>Nat.ne_of_lt (Nat.lt_of_lt_of_le (Heap.lt_size q) f3')
 have keepH:∀ b u,H b=some u→upd H a (.frz o (.own a)) b=some u:=fun b u q=>by rw[zag (na b u q)];exact q
 have noneH:∀ b,b≠a→H b=none→upd H a (.frz o (.own a)) b=none:=fun b z q=>by rw[zag z];exact q
 have noneO:∀ b,b≠a→H b=none→zeL (upd H a (.frz o (.own a))) X.H₀ b=X.H₀ b:=fun b z q=>zdz fun o' u' q'=>by rw[noneH b z q] at q';cases q'
 have K:=I.ok
 refine { I with ok:=?_,base:=?_,free:=noneH _ (Ne.symm f1) I.free,freeC:=fun y cl q=>noneH _ (f4 y cl q) (I.freeC y cl q),pin:=fun p hp=>?_,hok:=fun b u q=>?_ }
 ·refine { mod:=K.mod,kind:=K.kind,glob:=K.glob,blt:=K.blt,above:=K.above,inj:=K.inj,has:=K.has,cab:=K.cab,hd:=?_,frames:=K.frames,stk:=K.stk,exf:=K.exf,bs:=fun b ob q=>?_,bsz:=K.bsz,noex:=K.noex,exfs:=K.exfs,funs:=K.funs,frf:=fun b hb=>?_ }
  ·refine .inr ⟨a,cs,rfl,List.nodup_cons.mpr ⟨ch.not_mem f0,ch.1⟩,fun j b hj=>?_⟩
   cases j with
   | zero=>
    obtain rfl:a=b:=by simpa using hj
    exact⟨o,.own a,vs,zeM zaa,hd,h2⟩
   | succ j=>
    have hj':cs[j]?=some b:=by simpa using hj
    obtain⟨o',u',vs',q1,q2,q3⟩:=ch.2 j b hj'
    exact⟨o',u',vs',zeM (keepH _ _ q1),q2,q3⟩
  ·obtain⟨q1,q2⟩:=K.bs b ob q
   obtain⟨_,q3⟩:=I.bs b ob q
   exact⟨q1,(noneO b (old b ob q1) q3).trans q2⟩
  ·have hb':b∈X.fs:=hb
   have:=K.frf b hb'
   have hbn:b≠a:=fun z=>f2 (z ▸ hb')
   have h3:H b=none:=I.stkFree b (by
    rcases K.stk with z|⟨z,y⟩
    ·rw[z];exact hb'
    ·rw[z];unfold frs;rw[List.filterMap_cons,y];exact List.mem_cons_of_mem _ hb')
   exact(noneO b hbn h3).trans this
 ·obtain⟨b1,b2,b3,b4,b5,b6,b7⟩:=I.base
  have back:∀ b ob,X.s₀.heap.get? b=some ob→zeL (upd H a (.frz o (.own a))) X.H₀ b=none→X.H₀ b=none:=fun b ob q n=>by
   unfold zeL at n
   split at n
   ·cases n
   ·exact n
  refine⟨fun b ob q n=>b1 b ob q (back b ob q n),fun b ob q n=>b2 b ob q (back b ob q n),fun b ob q n z=>noneH b (old b ob q) (b3 b ob q (back b ob q n) z),b4,fun b xs q=>?_,fun b ob u q=>?_,fun b pp pq q=>?_⟩
  ·replace q:zeL (upd H a (.frz o (.own a))) X.H₀ b=_:=q
   unfold zeL at q
   split at q
   ·cases q
   ·exact keepH _ _ (b5 b xs q)
  ·replace q:zeL (upd H a (.frz o (.own a))) X.H₀ b=_:=q
   unfold zeL at q
   split at q
   ·rename_i e;rw[← q];exact e
   ·exact keepH _ _ (b6 b ob u q)
  ·replace q:zeL (upd H a (.frz o (.own a))) X.H₀ b=_:=q
   unfold zeL at q
   split at q
   ·cases q
   ·exact keepH _ _ (b7 b pp pq q)
 ·obtain⟨p1,p2,p3⟩:=I.pin p hp
  exact⟨p1,noneH _ (f5 p hp) p2,p3⟩
 ·by_cases z:b=a
  ·subst z
   rw[zaa] at q;cases q
   exact⟨h1,⟨_,h1⟩⟩
  ·rw[zag z] at q
   exact(I.hok b u q).stay (fun c' u' _ r=>r) (fun c' r=>keepH _ _ r) (fun c' xs r=>keepH _ _ r) fun c' ob r=>keepH _ _ r
theorem Inv.leave {σ':St}{H':Hp}{s':Shared}{o:Obj} (hex:X.ex=[]) (I:Inv X pins σ H s) (fp:zcm X pins H a) (J:Inv (X.hnd a (zeL (upd H a (.frz o (.own a))) X.H₀)) pins σ' H' s'):Inv X pins σ' H' s':=by
 obtain⟨f0,f1,f2,f3,f4,f5⟩:=fp
 have f3':X.s₀.heap.objs.size≤a:=by
  rcases f3 with z|z
  ·rw[hex] at z;cases z
  ·exact z
 have na:∀ b u,H b=some u→b≠a:=fun b u q=>zac q f0
 have old:∀ b ob,X.s₀.heap.get? b=some ob→b≠a:=fun b ob q=>Nat.ne_of_lt (Nat.lt_of_lt_of_le (Heap.lt_size q) f3')
 have e1:∀ b ob,X.s₀.heap.get? b=some ob→X.H₀ b=none→zeL (upd H a (.frz o (.own a))) X.H₀ b=none:=fun b ob q n=>by
  have hb:H b=none:=I.base.free b ob q n (by rw[hex];simp)
  rw[zdz fun o' u' q'=>by rw[zag (old b ob q),hb] at q';cases q'];exact n
 obtain⟨b1,b2,b3,b4,b5,b6,b7⟩:=J.base
 refine { J with ok:=I.ok,base:=⟨fun b ob q n=>b1 b ob q (e1 b ob q n),fun b ob q n=>b2 b ob q (e1 b ob q n),fun b ob q n=>b3 b ob q (e1 b ob q n),b4,fun b xs q=>b5 b xs ?_,fun b ob u q=>b6 b ob u ?_,fun b pp pq q=>b7 b pp pq ?_⟩ }
 ·have h:=I.base.tups b xs q
  show zeL _ _ _=_
  rw[zdz fun o' u' q'=>by rw[zag (na _ _ h),h] at q';cases q'];exact q
 ·have h:=I.base.frzs b ob u q
  exact zeM (by rw[zag (na _ _ h)];exact h)
 ·have h:=I.base.tbls b pp pq q
  show zeL _ _ _=_
  rw[zdz fun o' u' q'=>by rw[zag (na _ _ h),h] at q';cases q'];exact q
theorem zen {M:Model}{A:Around}{E:Value→Shared→Prop}{Q:Bool→Shared→Prop}{K:PySem.W.Frag}{e C D:Addr}{oe:Obj}{b:Bool} (X:K.In s.heap) (he:s.heap.get? e=some oe) (hc:oe.cls=.ref C) (hb:PySem.W.mroIn K C (.ref D)=some b)
  (hB:PySem.W.mroIn K D (.type "BaseException")=some true) (hT:PySem.W.typeIn K (.ref D)=some (.type "type")) (fin:Q b s):wpAny M A (excMatches (.ref e) (.ref D)) Q E s:=by
 have L1:=PySem.W.looks_typeIn (M:=M) X hT
 have L2:=PySem.W.looks_mroIn (M:=M) X hB
 have L3:=PySem.W.looks_mroIn (M:=M) X hb
 have L4:PySem.W.Looks M s.heap (isType (.ref D)) true:=by
  obtain⟨cd,h1,_⟩:=Option.bind_eq_some_iff.mp hB
  unfold PySem.W.clsIn at h1
  split at h1
  ·rename_i c1 d1 e1 s1 at1
   intro A' Q' E' s' k q
   unfold isType loadHead
   exact wpAny_bind (wpAny_loadPart (k _ _ (X _ _ at1)) (wpAny_pure q))
  ·cases h1
 have L5:PySem.W.Looks M s.heap (isInstance (.ref D) (.type "tuple")) false:=L1.andThen (PySem.W.Looks.of_pure tc_notTuple)
 have L6:PySem.W.Looks M s.heap (typeOf (.ref e)) (.ref C):=(PySem.W.Looks.ld he).andThen (by rw[hc];exact .now)
 have L7:PySem.W.Looks M s.heap (isExcClass (.ref D)) true:=L4.andThen L2
 unfold excMatches
 refine wpAny_bind (L5.here ?_)
 simp only[Bool.false_eq_true,if_false]
 refine wpAny_bind (wpAny_pure (wpAny_bind ?_))
 simp only[List.forIn_cons,List.forIn_nil]
 refine wpAny_bind (wpAny_bind (L7.here ?_))
 simp only[Bool.not_true,Bool.false_eq_true,if_false]
 refine wpAny_pure (wpAny_pure (wpAny_bind (L6.here (wpAny_bind (wpAny_bind (wpAny_bind (L3.here ?_)))))))
 cases b with
 | true=>
  simp only[if_true]
  exact wpAny_pure (wpAny_pure (wpAny_pure fin))
 | false=>
  simp only[Bool.false_eq_true,if_false]
  exact wpAny_pure (wpAny_pure (wpAny_pure fin))
theorem zdd {M:Model}{A:Around}{E:Value→Shared→Prop}{i:Nat}{n:Str}{pos:Pos}{Q:Unit→Shared→Prop} (I:Inv X pins σ H s) (hN:X.N.Nodup) (hi:X.N[i]?=some n) (hk:X.env.kindOf n=some .local)
  (fin:∀ s',Inv X pins (σ.set i none) H s'→Q () s'):wpAny M A (do bindName X.env n .none;unbindBehindTheSuite X.env n pos) Q E s:=by
 obtain⟨m,hn,hl⟩:=id I.loc
 have hcls:(X.env.scope.kind == .class || (X.env.scope.kind == .module && X.env.locals != X.env.globals))=false:=by rw[I.ok.kind];rfl
 obtain⟨oL,_,_,hoL,_⟩:=id hn
 refine wpAny_nameGoes_keeps hk hn hcls fun h' v hn' hs=>fin _ ?_
 have lo:∀ b o,X.s₀.heap.get? b=some o→b≠X.env.locals:=fun b o e=>Nat.ne_of_lt (Nat.lt_of_lt_of_le (Heap.lt_size e) I.ok.above)
 refine { ok:=I.ok,os:=I.os,bare:=I.bare,base:=⟨fun b o e n hb hx=>(hs.2 b (lo b o e)).trans (I.base.keep b o e n hb hx),fun b o e n hb hx=>?_,I.base.free,fun b o e hx=>?_,I.base.tups,I.base.frzs,I.base.tbls⟩,loc:=⟨_,hn',fun j y v' e1 e2 e3=>?_⟩,cell:=fun y c e=>?_,free:=I.free,freeC:=I.freeC,pin:=fun p hp=>?_,hok:=fun b ob e=>?_,len:=by simpa using I.len }
 ·obtain⟨sl,e1⟩:=I.base.slot b o e n hb hx
  exact⟨sl,(hs.2 b (lo b o e)).trans e1⟩
 ·obtain⟨o',e1⟩:=I.base.there b o e hx
  exact⟨o',(hs.2 b (lo b o e)).trans e1⟩
 ·have hj:j≠i:=fun z=>by
   subst z
   have hiσ:j<σ.length:=by rw[I.len];exact(List.getElem?_eq_some_iff.mp hi).1
   rw[List.getElem?_set_self hiσ] at e2
   cases e2
  rw[List.getElem?_set_ne (Ne.symm hj)] at e2
  obtain⟨u',r',q⟩:=hl j y v' e1 e2 e3
  refine⟨u',r',?_⟩
  rcases q with⟨k,e⟩|⟨k,c,e,z⟩
  ·refine .inl ⟨k,?_⟩
   have:y≠n:=fun e=>hj (zeA hN e1 (e ▸ hi))
   simp[this,e]
  ·exact .inr ⟨k,c,e,z.sameBut hs (I.cne y c e)⟩
 ·obtain⟨w',z⟩:=I.cell y c e
  exact⟨w',z.sameBut hs (I.cne y c e)⟩
 ·obtain⟨e,n,ne,nf,d⟩:=I.pin p hp
  exact⟨(hs.2 p.1 ne).trans e,n,ne,nf,d⟩
 ·refine(I.hok b ob e).stay (fun c w' hc q=>(hs.2 c ?_).trans q) (fun _ q=>q) fun _ _ q=>q
  rintro rfl
  rcases hc with hc|hc
  ·rw[← hc,I.free] at e;cases e
  ·rw[I.free] at hc;cases hc
end
abbrev Hd1:=Addr×Option Nat×TS
def zfd.as (D:zfd) (i:Nat):zfd:=⟨fun σ H=>D.nx (σ.set i none) H,D.rt,fun σ H=>D.bk (σ.set i none) H,fun σ H=>D.ct (σ.set i none) H⟩
def zjl (K:PySem.W.Frag):List Hd1→zfd→RK
 | [],_,_,_,_,_=>False
 | (D,i,t)::r,En,σ,c,dd,H=>∃ C b,c=.ref C∧PySem.W.mroIn K C (.ref D)=some b∧if b=true then ∀ a o,H a=none→o.cls=c→o.dict=dd→(∃ vs,o.data=.fields vs) →
   (match i with|none=>t En σ (upd H a (.frz o (.own a)))|some i=>t (En.as i) (σ.set i (some (.ref a))) (upd H a (.frz o (.own a)))) else zjl K r En σ c dd H
inductive PHs (X:Cx):List ExceptHandler→List Hd1→Prop where
 | nil:PHs X [] []
 | one {x:Str}{np pos:Pos}{b₀:Stmt}{su:List Stmt}{D:Addr}{t:TS}{hs:List ExceptHandler}{ts:List Hd1} (hg:Gl X x) (hm:X.mg x=some (.ref D)) (hB:PySem.W.mroIn X.K D (.type "BaseException")=some true) (hT:PySem.W.typeIn X.K (.ref D)=some (.type "type"))
   (hdb:(x == ("__debug__":Str))=false) (hb:∀ a H₀,PSs (X.hnd a H₀) (b₀::su) t) (r:PHs X hs ts):PHs X (.ExceptHandler (some (.Name x np)) none (b₀::su) pos::hs) ((D,none,t)::ts)
 | as_ {x n:Str}{i:Nat}{np pos:Pos}{b₀:Stmt}{su:List Stmt}{D:Addr}{t:TS}{hs:List ExceptHandler}{ts:List Hd1} (hg:Gl X x) (hm:X.mg x=some (.ref D)) (hB:PySem.W.mroIn X.K D (.type "BaseException")=some true) (hT:PySem.W.typeIn X.K (.ref D)=some (.type "type"))
   (hdb:(x == ("__debug__":Str))=false) (hN:X.N.Nodup) (hi:X.N[i]?=some n) (hk:X.env.kindOf n=some .local) (hb:∀ a H₀,PSs (X.hnd a H₀) (b₀::su) t) (r:PHs X hs ts):PHs X (.ExceptHandler (some (.Name x np)) (some n) (b₀::su) pos::hs) ((D,some i,t)::ts)
section
variable {X:Cx}
theorem zgu {A:Around}{E:Value→Shared→Prop}{pins:List (Addr×Obj)}{s:Shared}{σ:St}{H:Hp}{x:Str}{u:Value}{pos:Pos}{Q:Value→Shared→Prop} (I:Inv X pins σ H s) (hg:Gl X x) (hm:X.mg x=some u) (h:Q u s)
  (hd:(x == ("__debug__":Str))=false):wpAny (model X.prog X.w) A (eval (.Name x pos) X.env) Q E s:=
 Calls.Name_function_global I.ok.kind hg (Calls.loadGlobal_global (by rw[I.ok.glob];exact I.mod.glob.keeps I.bk) hm h) hd
theorem SP.leave {pins:List (Addr×Obj)}{σ:St}{H:Hp}{s s':Shared}{a:Addr}{o:Obj}{D:zfd}{f:Flow} (hex:X.ex=[]) (I:Inv X pins σ H s) (fp:zcm X pins H a) (h:SP (X.hnd a (zeL (upd H a (.frz o (.own a))) X.H₀)) pins D f s'):SP X pins D f s':=by
 cases f with
 | next=>obtain⟨σ',H',J,q⟩:=h;exact⟨σ',H',I.leave hex fp J,q⟩
 | brk=>obtain⟨σ',H',J,q⟩:=h;exact⟨σ',H',I.leave hex fp J,q⟩
 | cont=>obtain⟨σ',H',J,q⟩:=h;exact⟨σ',H',I.leave hex fp J,q⟩
 | ret u=>obtain⟨v,σ',H',J,q⟩:=h;exact⟨v,σ',H',I.leave hex fp J,q⟩
theorem SP.as_ {A:Around}{E:Value→Shared→Prop}{pins:List (Addr×Obj)}{s:Shared}{i:Nat}{n:Str}{pos:Pos}{D:zfd}{f:Flow} (hN:X.N.Nodup) (hi:X.N[i]?=some n) (hk:X.env.kindOf n=some .local) (h:SP X pins (D.as i) f s) :
  wpAny (model X.prog X.w) A (do bindName X.env n .none;unbindBehindTheSuite X.env n pos) (fun _ s'=>SP X pins D f s') E s:=by
 cases f with
 | next=>obtain⟨σ',H',J,q⟩:=h;exact zdd J hN hi hk fun s' J'=>⟨_,H',J',q⟩
 | brk=>obtain⟨σ',H',J,q⟩:=h;exact zdd J hN hi hk fun s' J'=>⟨_,H',J',q⟩
 | cont=>obtain⟨σ',H',J,q⟩:=h;exact zdd J hN hi hk fun s' J'=>⟨_,H',J',q⟩
 | ret u=>obtain⟨v,σ',H',J,q⟩:=h;exact zdd J hN hi hk fun s' J'=>⟨v,_,H',J',q⟩
theorem zhW {hs:List ExceptHandler}{ts:List Hd1} (hex:X.ex=[]) (P:PHs X hs ts):∀ {pins:List (Addr×Obj)}{σ:St}{H:Hp}{s:Shared}{a:Addr}{c:Value}{dd:Option Addr}{T:Addr}{D:zfd},Inv X pins σ H s→Exc X pins H s.heap a c dd (some (T,.none))→zjl X.K ts D σ c dd H →
  wpAny (model X.prog X.w) X.A (handleBy (.ref a) X.env hs) (SP X pins D) X.xe s:=by
 induction P with
 | nil=>intro pins σ H s a c dd T D I x h;exact h.elim
 | @one x np pos b₀ su Dc t hs ts hg hm hB hT hdb hb r ih=>
  intro pins σ H s a c dd T D I x h
  obtain⟨C,b,rfl,hmro,h⟩:=h
  obtain⟨o,vs,h1,hc,_⟩:=x.at_.ob
  refine wpAny_handleBy_cons (codeAny_handlers_test (zgu I hg hm (zen I.kIn h1 hc hmro hB hT ?_) hdb)) (by intro q;cases q)
  cases b with
  | false=>exact ih I x (by simpa using h)
  | true=>
   refine codeAny_handlers_suite (I.land x fun s1 I1 x1=>?_)
   obtain⟨o1,g1,g2,g3,J⟩:=I1.enter hex x1
   rw[if_pos rfl] at h
   refine wpAny_mono (hb a _ pins s1 σ _ D J (h a o1 x1.fp.1 g1 g2 g3)) (fun f s2 z=>z.leave hex I1 x1.fp) fun _ _ z=>z.elim
 | @as_ x n i np pos b₀ su Dc t hs ts hg hm hB hT hdb hN hi hk hb r ih=>
  intro pins σ H s a c dd T D I x h
  obtain⟨C,b,rfl,hmro,h⟩:=h
  obtain⟨o,vs,h1,hc,_⟩:=x.at_.ob
  refine wpAny_handleBy_cons (codeAny_handlers_test (zgu I hg hm (zen I.kIn h1 hc hmro hB hT ?_) hdb)) (by intro q;cases q)
  cases b with
  | false=>exact ih I x (by simpa using h)
  | true=>
   refine codeAny_handlers_suite_as (I.land x fun s1 I1 x1=>?_)
   obtain⟨o1,g1,g2,g3,J⟩:=I1.enter hex x1
   rw[if_pos rfl] at h
   refine zeB (X:=X.hnd a _) J hN hi (.inl hk) (v:=.ref a) rfl (fun s2 J2=>?_) (.inr hk)
   exact wpAny_mono (hb a _ pins s2 _ _ (D.as i) J2 (h a o1 x1.fp.1 g1 g2 g3)) (fun f s3 z=>(z.leave hex I1 x1.fp).as_ hN hi hk) fun _ _ z=>z.elim
def tTry (K:PySem.W.Frag) (ts:List Hd1) (tb:RK→TS) (te:TS):TS:=fun D σ H=>tb (zjl K ts D) { D with nx:=fun σ H=>te D σ H } σ H
theorem ps_try {body orelse:List Stmt}{h₀:ExceptHandler}{hs:List ExceptHandler}{pos:Pos}{ts:List Hd1}{tb:RK→TS}{te:TS} (B:Body X) (hex:X.ex=[]) (P:PHs X (h₀::hs) ts)
  (hb:∀ (pn:List (Addr×Obj)) (E:Value→Shared→Prop) (R:RK),PX (X.tr pn E) R→PassesOwn (model X.prog X.w) X.A X.env E→PSs (X.tr pn E) body (tb R)) (he:PSs X orelse te):PS X (.Try body (h₀::hs) orelse [] pos) (tTry X.K ts tb te):=by
 intro pins s σ H D I h
 refine wpAny_Try_except ?_
 have to:∀ {pins' σ' H' s'},Inv X pins σ' H' s'→Inv (X.tr (X.pn++pins) pins') [] σ' H' s':=fun {pins' σ' H' s'} J=>{ J with pin:=fun p hp=>J.pin p (by simpa using hp),ok:={ J.ok with } }
 have fro:∀ {E' pins' σ' H' s'},Inv (X.tr (X.pn++pins) E') pins' σ' H' s'→Inv X pins σ' H' s':=fun {E' pins' σ' H' s'} J=>{ J with pin:=fun p hp=>J.pin p (List.mem_append_left _ hp),ok:={ J.ok with } }
 refine wpAny_mono (hb (X.pn++pins) (fun e s₁=>wpAny (model X.prog X.w) X.A (noteFrame e X.env) (fun _ s₂=>wpAny (model X.prog X.w) X.A (setFlight e none) (fun _ s₃=>wpAny (model X.prog X.w) X.A (handleBy e X.env (h₀::hs)) (SP X pins D) X.xe s₃) X.xe s₂) X.xe s₁)
  (zjl X.K ts D) ?_ PassesOwn.looking [] s σ H _ (to I) h) (fun f s1 z=>?_) fun _ _ z=>z
 ·intro pins' σ' H' s' a c dd tb J x hR
  have J':=fro J
  have x':Exc X pins H' s'.heap a c dd (tb.map fun T=>(T,Value.none)):=⟨⟨x.fp.1,x.fp.2.1,x.fp.2.2.1,x.fp.2.2.2.1,x.fp.2.2.2.2.1,fun p hp=>x.fp.2.2.2.2.2 p (List.mem_append_left _ hp)⟩,fun p q=>by
   have y:=x.fpT p q
   exact⟨y.1,y.2.1,y.2.2.1,y.2.2.2.1,y.2.2.2.2.1,fun p hp=>y.2.2.2.2.2 p (List.mem_append_left _ hp)⟩,x.at_⟩
  refine J'.note B x' zj3 fun s2 T I2 x2=>?_
  exact I2.land x2 fun s3 I3 x3=>zhW hex P I3 x3 hR
 ·cases f with
  | next=>obtain⟨σ',H',J,q⟩:=z;exact he pins s1 σ' H' D (fro J) q
  | brk=>obtain⟨σ',H',J,q⟩:=z;exact⟨σ',H',fro J,q⟩
  | cont=>obtain⟨σ',H',J,q⟩:=z;exact⟨σ',H',fro J,q⟩
  | ret u=>obtain⟨v,σ',H',J,q⟩:=z;exact⟨v,σ',H',fro J,q⟩
end
end L2
namespace L2
open PySem PySem.Spec PyProof.Rows
structure zfy (K:PySem.W.Frag) (x qual:Str) (st:Stmt) (f:Addr) (fd:FuncData):Prop where
 ex:∃ (oc:Value) (od:Option Addr) (dV kV doc pm:Value) (an:Option Addr) (cdv ct:Value) (osl:Array (Option Value)),
  fd=PySem.W.fnOf x qual (zaB st) (zaw st) (zae st) dV kV doc pm an cdv ct∧K.lookup f=some ⟨oc,od,.func fd,osl⟩∧PySem.W.codeIn K cdv qual=true
theorem zaE {K:PySem.W.Frag}{x qual:Str}{st:Stmt}{f:Addr}{oc:Value}{od an:Option Addr}{osl:Array (Option Value)}{dV kV doc pm cdv ct:Value} (l:K.lookup f=some ⟨oc,od,.func (PySem.W.fnOf x qual (zaB st) (zaw st) (zae st) dV kV doc pm an cdv ct),osl⟩)
  (c:PySem.W.codeIn K cdv qual=true):zfy K x qual st f (PySem.W.fnOf x qual (zaB st) (zaw st) (zae st) dV kV doc pm an cdv ct):=⟨⟨oc,od,dV,kV,doc,pm,an,cdv,ct,osl,rfl,l,c⟩⟩
section
variable {P:Program}{w:World}{K:PySem.W.Frag}{mg:Str→Option Value}{base:Heap}
theorem zfy.ok {x qual:Str}{st:Stmt}{f:Addr}{fd:FuncData}{N ps:List Str}{k:Nat}{sp:Sp} (F:zfy K x qual st f fd) (S:zay N ps (zae st)) (len:∀ vs H Q E,sp vs H Q E→vs.length=ps.length)
  (hbody:∀ (cdv:Value) (A:Around) (outer:List Env) (s:Shared) (H:Hp) (vs:List V) (Q:VK) (E:XK),zb9 k (A.deeper (envOfC qual (zae st) s.heap.objs.size f cdv))→sp vs H Q E →
   ∃ t,PSs (zhC CX0 P w K mg base N qual (zae st) f cdv A outer s H E).nox (zaw st) t∧t { nx:=fun _ H'=>Q .non H',rt:=Q } (start N vs) H):zdx P w K mg base CX0 (k + 1) f fd ps sp:=by
 obtain⟨oc,od,dV,kV,doc,pm,an,cdv,ct,osl,rfl,lk,hcd⟩:=F.ex
 refine zkE lk hcd S len fun A outer s H vs Q E hr hsp=>?_
 obtain⟨t,h,q⟩:=hbody cdv A outer s H vs Q E hr hsp
 exact⟨t,h.nox,q⟩
theorem zfy.okX {x qual:Str}{st:Stmt}{f:Addr}{fd:FuncData}{N ps:List Str}{k:Nat}{sp:Sp} (F:zfy K x qual st f fd) (S:zay N ps (zae st)) (len:∀ vs H Q E,sp vs H Q E→vs.length=ps.length)
  (hbody:∀ (cdv:Value) (A:Around) (outer:List Env) (s:Shared) (H:Hp) (vs:List V) (Q:VK) (E:XK),zb9 k (A.deeper (envOfC qual (zae st) s.heap.objs.size f cdv))→sp vs H Q E →
   ∃ t,PSs (zhC (CXe P w) P w K mg base N qual (zae st) f cdv A outer s H E) (zaw st) t∧t { nx:=fun _ H'=>Q .non H',rt:=Q } (start N vs) H):zdx P w K mg base (CXe P w) (k + 1) f fd ps sp:=by
 obtain⟨oc,od,dV,kV,doc,pm,an,cdv,ct,osl,rfl,lk,hcd⟩:=F.ex
 exact zkE lk hcd S len fun A outer s H vs Q E hr hsp=>hbody cdv A outer s H vs Q E hr hsp
end
structure Def (K:PySem.W.Frag) (mg:Str→Option Value) (x:Str) (st:Stmt) (ps:List Str) (dvs:List V):Prop where
 ex:∃ f fd ds,zfy K x x st f fd∧mg x=some (.ref f)∧PySem.W.keepIn K (.ref f)=true∧zcq K fd ps ds∧zaX dvs ds
structure Met (K:PySem.W.Frag) (C:Addr) (m qual:Str) (st:Stmt) (ps:List Str) (dvs:List V):Prop where
 ex:∃ f fd ds,zfy K m qual st f fd∧Meth K C m f∧zcq K fd ps ds∧zaX dvs ds
structure Ini (K:PySem.W.Frag) (mg:Str→Option Value) (C:Addr) (x qual:Str) (st:Stmt) (ps:List Str):Prop where
 ex:∃ f fd,zfy K "__init__" qual st f fd∧Mk K C f∧mg x=some (.ref C)∧zcq K fd ps []
structure XIni (K:PySem.W.Frag) (mg:Str→Option Value) (C:Addr) (x qual:Str) (st:Stmt) (ps:List Str):Prop where
 ex:∃ f fd,zfy K "__init__" qual st f fd∧XCI K C f∧mg x=some (.ref C)∧zcq K fd ps []
structure Cal (P:Program) (w:World) (K:PySem.W.Frag) (mg:Str→Option Value) (base:Heap) (CX:CXT) (k:Nat) (x:Str) (ps:List Str) (dvs:List V) (sp:Sp):Prop where
 ex:∃ f fd ds,zdx P w K mg base CX k f fd ps sp∧mg x=some (.ref f)∧PySem.W.keepIn K (.ref f)=true∧zcq K fd ps ds∧zaX dvs ds
structure CalM (P:Program) (w:World) (K:PySem.W.Frag) (mg:Str→Option Value) (base:Heap) (CX:CXT) (k:Nat) (C:Addr) (m:Str) (ps:List Str) (dvs:List V) (sp:Sp):Prop where
 ex:∃ f fd ds,zdx P w K mg base CX k f fd ps sp∧Meth K C m f∧zcq K fd ps ds∧zaX dvs ds
structure CalI (P:Program) (w:World) (K:PySem.W.Frag) (mg:Str→Option Value) (base:Heap) (CX:CXT) (k:Nat) (C:Addr) (x:Str) (ps:List Str) (sp:Sp):Prop where
 ex:∃ f fd,zdx P w K mg base CX k f fd ps sp∧Mk K C f∧mg x=some (.ref C)∧zcq K fd ps []
structure zkT (P:Program) (w:World) (K:PySem.W.Frag) (mg:Str→Option Value) (base:Heap) (CX:CXT) (k:Nat) (C:Addr) (x:Str) (ps:List Str) (sp:Sp):Prop where
 ex:∃ f fd,zdx P w K mg base CX k f fd ps sp∧XCI K C f∧mg x=some (.ref C)∧zcq K fd ps []
section
variable {P:Program}{w:World}{K:PySem.W.Frag}{mg:Str→Option Value}{base:Heap}{CX:CXT}{k:Nat}{C:Addr}{x m qual:Str}{st:Stmt}{ps:List Str}{dvs:List V}{sp:Sp}
theorem Def.cal (D:Def K mg x st ps dvs) (h:∀ f fd,zfy K x x st f fd→zdx P w K mg base CX k f fd ps sp):Cal P w K mg base CX k x ps dvs sp:=
 let ⟨f,fd,ds,F,r⟩:=D.ex;⟨f,fd,ds,h f fd F,r⟩
theorem Met.cal (D:Met K C m qual st ps dvs) (h:∀ f fd,zfy K m qual st f fd→zdx P w K mg base CX k f fd ps sp):CalM P w K mg base CX k C m ps dvs sp:=
 let ⟨f,fd,ds,F,r⟩:=D.ex;⟨f,fd,ds,h f fd F,r⟩
theorem Ini.cal (D:Ini K mg C x qual st ps) (h:∀ f fd,zfy K "__init__" qual st f fd→zdx P w K mg base CX k f fd ps sp):CalI P w K mg base CX k C x ps sp:=
 let ⟨f,fd,F,r⟩:=D.ex;⟨f,fd,h f fd F,r⟩
theorem XIni.cal (D:XIni K mg C x qual st ps) (h:∀ f fd,zfy K "__init__" qual st f fd→zdx P w K mg base CX k f fd ps sp):zkT P w K mg base CX k C x ps sp:=
 let ⟨f,fd,F,r⟩:=D.ex;⟨f,fd,h f fd F,r⟩
end
def tCallR (sp:Sp) (dvs:List V) (R:RK) (t:TA):TE:=fun σ H Q=>t σ H fun vs H1=>sp (vs++dvs) H1 Q (R σ)
section
variable {X:Cx}{CX:CXT}{k:Nat}{C:Addr}{ps:List Str}{sp:Sp}{dvs:List V}{R:RK}{x m:Str}{p pos apos:Pos}{e o:Expr}{es:List Expr}{ta:TE}{t:TA}
theorem zkU {f:Addr}{fd:FuncData}{ds:List Value}{pins:List (Addr×Obj)}{σ:St}{H:Hp}{s:Shared}{Q:VK}{us:List Value}{vs:List V} (F:zdx X.prog X.w X.K X.mg X.base (CXe X.prog X.w) k f fd ps sp) (hp:PX X R) (hr:zb9 k X.A)
  (hb:zcq X.K fd ps ds) (hd:zaX dvs ds) (I:Inv X pins σ H s) (r:zaX vs us) (h:sp (vs++dvs) H Q (R σ)):wpAny (model X.prog X.w) X.A (call (.ref f) us) (EP X pins σ Q) X.xe s:=by
 have r2:zaX (vs++dvs) (us++ds):=r.append hd
 have hl:(us++ds).length=ps.length:=by rw[← r2.length];exact F.len _ _ _ _ h
 refine wpAny_call (codeAny_mono (F.run X.A X.stack s H ⟨us,[]⟩ (us++ds) (vs++dvs) Q (R σ) hr I.env0 (hb s us I.kIn hl) r2 h) fun r s' hq=>?_)
 cases r with
 | error e=>exact zkO hp pins σ H s e s' I hq
 | ok fl=>cases fl <;> first | exact I.after hq | exact False.elim hq
theorem zaK (c:Cal X.prog X.w X.K X.mg X.base CX0 k x ps dvs sp) (hr:zb9 k X.A) (hg:Gl X x) (ha:PA X (e::es) t) (hdb:(x == ("__debug__":Str))=false:=by decide)
  (he:starEach (e::es) X.env=(false,eval e X.env)::starEach es X.env:=by rfl) (hpl:(backTo pos (starEach es X.env)).any (·.1)=false:=by rfl):PE X (.Call (.Name x p) (e::es) [] pos) (tCall sp dvs E0 t):=by
 obtain⟨f,fd,ds,F,hm,hk,hb,hd⟩:=c.ex
 exact zkB F hr hg hm hk hb hd zkN ha hdb he hpl
theorem zhX (c:Cal X.prog X.w X.K X.mg X.base (CXe X.prog X.w) k x ps dvs sp) (hp:PX X R) (hr:zb9 k X.A) (hg:Gl X x) (ha:PA X (e::es) t) (hdb:(x == ("__debug__":Str))=false:=by decide)
  (he:starEach (e::es) X.env=(false,eval e X.env)::starEach es X.env:=by rfl) (hpl:(backTo pos (starEach es X.env)).any (·.1)=false:=by rfl):PE X (.Call (.Name x p) (e::es) [] pos) (tCallR sp dvs R t):=by
 obtain⟨f,fd,ds,F,hm,hk,hb,hd⟩:=c.ex
 intro pins s σ H Q I h
 refine wpAny_Call_Name_kw (zdH I hg hm ?_ hdb)
 refine PySem.W.callWith_K (h₀:=X.base) I.ok.mod.kin hk (thn (ha pos pins s σ H _ I h) fun us s1=>L2.ex5 fun vs H1 I1 r q=>⟨I1.kIn,?_⟩) he hpl
 exact zkU F hp hr hb hd I1 r q
theorem zdV {pl:Sem Bool} (he:PE X o ta) (cl:Cls X.K C) (c:CalM X.prog X.w X.K X.mg X.base CX0 k C m ps dvs sp) (hr:zb9 k X.A) (ha:PA X (e::es) t)
  (hst:starEach (e::es) X.env=(false,eval e X.env)::starEach es X.env:=by rfl) (hpl:(backTo pos (starEach es X.env)).any (·.1)=false:=by rfl)
  (ht:eval (.Call (.Attribute o m apos) (e::es) [] pos) X.env=(do
   let ov ← eval o X.env
   standAt apos.atName
   let (f,first) ← holding [ov] (getMethod ov m pl)
   callWith pos f first (backTo pos (starEach (e::es) X.env)) (backToKw pos (keywordEach [] X.env))):=by rfl) :
  PE X (.Call (.Attribute o m apos) (e::es) [] pos) (tMeth C m sp dvs E0 ta t):=by
 obtain⟨f,fd,ds,F,hm,hb,hd⟩:=c.ex
 exact zkC (pl:=pl) he cl hm F hr hb hd zkN ha hst hpl ht
theorem zkV (c:CalI X.prog X.w X.K X.mg X.base CX0 k C x ps sp) (hr:zb9 (k + 1) X.A) (hg:Gl X x) (ha:PA X (e::es) t) (hdb:(x == ("__debug__":Str))=false:=by decide)
  (he:starEach (e::es) X.env=(false,eval e X.env)::starEach es X.env:=by rfl) (hpl:(backTo pos (starEach es X.env)).any (·.1)=false:=by rfl):PE X (.Call (.Name x p) (e::es) [] pos) (tMake C sp [] E0 t):=by
 obtain⟨f,fd,F,M,hm,hb⟩:=c.ex
 exact zkD M F hr hg hm hb .nil zkN ha hdb he hpl
theorem zhY {np cpos:Pos} (hp:PX X R) (c:zkT X.prog X.w X.K X.mg X.base CX0 k C x ps sp) (hr:zb9 (k + 1) X.A) (hg:Gl X x) (ha:PA X (e::es) t)
  (hdb:(x == ("__debug__":Str))=false:=by decide) (he:starEach (e::es) X.env=(false,eval e X.env)::starEach es X.env:=by rfl) (hpl:(backTo cpos (starEach es X.env)).any (·.1)=false:=by rfl) :
  PS X (.Raise (some (.Call (.Name x np) (e::es) [] cpos)) none pos) (zhT C sp [] R t):=by
 obtain⟨f,fd,F,c',hm,hb⟩:=c.ex
 exact zhU hp c' F hr hb .nil (fun _ _ _ _ _ _ _ _ z=>z.elim) hg hm ha hdb he hpl
theorem zeN {i:Int} (hg:Gl X x) (hm:∃ t,X.mg x=some (.int i t)) (hd:(x == ("__debug__":Str))=false:=by decide):PE X (.Name x pos) (tC (.int i)):=let ⟨t,h⟩:=hm;zhp hg h ⟨t,rfl⟩ hd
theorem zeo {n:String} (hg:Gl X x) (hm:X.mg x=none) (hv:bootBuiltins x=some (.type n)) (hn:x≠"__name__":=by decide) (hd:(x == ("__debug__":Str))=false:=by decide):PE X (.Name x pos) (tC (.ty n)):=zkt hg hm hv rfl hn hd
end
end L2
namespace L2
open PySem PySem.Spec PyProof.Rows
def HdC (A:Around) (cs:List Addr):Prop:=(A.handled=none∧cs=[])∨∃ a r,cs=a::r∧A.handled=some (.ref a)
theorem Hd.chain {A:Around}{h:Heap} (x:Hd A h):∃ cs,HdC A cs∧Chn h cs:=by
 rcases x with e|⟨a,cs,e,c⟩
 ·exact⟨[],.inl ⟨e,rfl⟩,List.nodup_nil,fun j a z=>by simp at z⟩
 ·exact⟨a::cs,.inr ⟨a,cs,rfl,e⟩,c⟩
theorem HdC.hd {A:Around}{h:Heap}{cs:List Addr} (x:HdC A cs) (c:Chn h cs):Hd A h:=by
 rcases x with⟨e,rfl⟩|⟨a,r,rfl,e⟩
 ·exact .inl e
 ·exact .inr ⟨a,r,e,c⟩
theorem Chn.but {h h':Heap}{cs:List Addr}{it:Addr} (c:Chn h cs) (hI:it∉cs) (k:∀ b o,b≠it→h.get? b=some o→h'.get? b=some o):Chn h' cs:=
 c.mono fun b o hb e=>k b o (fun z=>hI (z ▸ hb)) e
section
variable {prog:Program}{w:World}{A:Around}{E:Value→Shared→Prop}{s:Shared}{cs:List Addr}
theorem zbv (hc:HdC A cs) (I ax:Addr) (hne:ax≠I) (hI:I∉cs) (items:Array Value) :
  Walks prog w A I (I::ax::cs) [I] items.size (fun i v=>items[i]?=some v) (fun i h=>h.IsListIter I ax i∧h.IsList ax items∧Chn h cs) where
 sub:=fun b hb=>by simp at hb;simp[hb]
 frame:=fun _ _ _ st hk=>⟨st.1.at fun o e=>hk I (by simp) o e,st.2.1.at fun o e=>hk ax (by simp) o e,st.2.2.mono fun b o hb e=>hk b (by simp[hb]) o e⟩
 item:=fun i s Q E hi st hQ=>by
  refine wpAny_pyNext_list_item st.1 st.2.1 (x:=items[i]) (by simp[hi]) fun h' hit' hs'=>?_
  exact hQ _ h' s.toks (by simp[hi]) ⟨hit',st.2.1.extBut hs'.extBut hne,st.2.2.but hI hs'.extBut⟩ fun b o hb e=>hs'.extBut b o (fun h=>hb (by simp[h])) e
 done:=fun s Q E st hQ=>zfb (hc.hd st.2.2) st.1 st.2.1 (by simp) fun h' he'=>hQ h' s.toks fun b o hb e=>he' b o (fun h=>hb (by simp[h])) e
 self:=fun _ _ _ _ st hQ=>wpAny_pyIter_listiter st.1 hQ
theorem zdW {it l:Addr}{i:Nat} {items}{Q:Value→Shared→Prop} (hd:Hd A s.heap) (hit:s.heap.IsListIter it l i) (hl:s.heap.IsList l items) (hx:items[i]?=none)
  (hE:∀ h' e,Heap.ExtBut it s.heap h'→(∃ o,h'.get? e=some o∧o.cls=.type "StopIteration")→E (.ref e) { s with heap:=h' }):wpAny (model prog w) A (Builtin.SmallTypes.nextOf (.ref it)) Q E s:=by
 obtain⟨o,ho,hc,hdat⟩:=id hit
 obtain⟨ol,hol,_,nl,hdl⟩:=hl
 unfold Builtin.SmallTypes.nextOf
 refine wpAny_bind (wpAny_callSpecial?_slot (name:=Str.ofString "__next__") hit.typeIs slot_listiter_next (wpAny_call_entry slot_listiter_next hit.typeIs entry_listiter_next ?_ (args_listiter_next _)))
 refine(show wpAny _ _ (field (.ref it) 0 >>= _) _ _ s from wpAny_bind (wpAny_field ho hdat (x:=.ref l) rfl ?_))
 refine(show wpAny _ _ (if (Value.ref l == Value.none)=true then _ else _) _ _ s from ?_)
 rw[if_neg (show ¬ ((Value.ref l == Value.none)=true) from Bool.false_ne_true)]
 refine(show wpAny _ _ (field (.ref it) 1 >>= _) _ _ s from wpAny_bind (wpAny_field ho hdat (x:=.int i 0) rfl ?_))
 refine(show wpAny _ _ (seqItems? (.ref l) >>= _) _ _ s from wpAny_bind (wpAny_seqItems hol hdl ?_))
 simp only[Int.toNat_natCast,hx]
 refine wpAny_bind (wpAny_rule (wpAny_bind (wpAny_setField ho hdat (by simp) ?_)))
 refine zdh (A:=A.in1) (hd.but ho (fun vs q=>.inl (by rw[hdat] at q;cases q;simp)) (Heap.SameBut.update ..).extBut) fun h' e k' x=>hE h' e (fun b q hb hq=>k' b q ((Heap.SameBut.update ..).extBut b q hb hq)) x
theorem zjm {z TI TO i1 i2 l1 l2:Addr}{k1 k2:Nat}{xs ys:Array Value}{a b:Value}{Q:Option Value→Shared→Prop} (hc:HdC A cs) (c:Chn s.heap cs) (nz:z∉cs) (nT:TO∉cs) (n1:i1∉cs) (n2:i2∉cs) (D:ZipApart z TI TO i1 i2 l1 l2)
  (hz:IsZip s.heap z TI TO .none) (hTI:IsPair s.heap TI (.ref i1) (.ref i2)) (hTO:IsPair s.heap TO a b) (h1:s.heap.IsListIter i1 l1 k1) (h2:s.heap.IsListIter i2 l2 k2) (hl1:s.heap.IsList l1 xs) (hl2:s.heap.IsList l2 ys) (hend:xs[k1]?=none∨ys[k2]?=none)
  (hQ:∀ h',(∀ c o,c≠z→c≠TO→c≠i1→c≠i2→s.heap.get? c=some o→h'.get? c=some o)→Q none { s with heap:=h' }):wpAny (model prog w) A (pyNext (.ref z)) Q E s:=by
 have hT:s.TypeIs (.ref z) "zip":=⟨_,hz,rfl⟩
 have fin:∀ h' e,(∀ c o,c≠z→c≠TO→c≠i1→c≠i2→s.heap.get? c=some o→h'.get? c=some o)→(∃ o,h'.get? e=some o∧o.cls=.type "StopIteration") →
   wpAny (model prog w) A (do if ← isInstance (.ref e) (.type "StopIteration") then pure none else throw (.ref e)) Q E { s with heap:=h' }:=fun h' e k ⟨o,ho,hcl⟩=>
  wpAny_bind (wpAny_isInstance (T:="StopIteration") (b:=true) ⟨o,ho,hcl⟩ isSubtype_stop (wpAny_pure (hQ _ k)))
 unfold pyNext
 refine wpAny_bind (wpAny_attempt (wpAny_callSpecial?_slot (name:=Str.ofString "__next__") hT F.slot_zip_next (wpAny_call_entry F.slot_zip_next hT F.entry_zip_next ?_ (F.args_zip_next_1 _))))
 refine(show wpAny _ _ (field (.ref z) 2 >>= _) _ _ _ from wpAny_bind (wpAny_field hz rfl (x:=.bool false) rfl ?_))
 refine(show wpAny _ _ (field (.ref z) 3 >>= _) _ _ _ from wpAny_bind (wpAny_field hz rfl (x:=.ref TI) rfl (wpAny_bind (wpAny_seqItems hTI rfl ?_))))
 refine(show wpAny _ _ (Builtin.SmallTypes.ownedTupleIsFree (.ref z) >>= _) _ _ _ from wpAny_bind ?_)
 unfold Builtin.SmallTypes.ownedTupleIsFree
 refine wpAny_bind (wpAny_field hz rfl (x:=.none) rfl (wpAny_pure ?_))
 simp only[if_true]
 refine wpAny_bind (wpAny_rule (wpAny_bind (wpAny_field hz rfl (x:=.ref TO) rfl (wpAny_bind (wpAny_setField_rec hz (by simp) fun h₁ hz₁ hs₁=>?_)))))
 replace hz₁:IsZip h₁ z TI TO .ellipsis:=hz₁
 have c₁:Chn h₁ cs:=c.but nz hs₁.extBut
 refine wpAny_bind ?_
 simp only[List.zipIdx_cons,List.zipIdx_nil,List.forIn_cons,List.forIn_nil]
 refine wpAny_bind (wpAny_bind (wpAny_onRaise ?_))
 cases hx:xs[k1]? with
 | none=>
  refine(show wpAny _ _ (Builtin.SmallTypes.nextOf (.ref i1) >>= _) _ _ _ from wpAny_bind (zdW (A:=A.in1) (HdC.hd (A:=A.in1) hc c₁) (h1.extBut hs₁.extBut D.i1z) (hl1.extBut hs₁.extBut D.l1z) hx fun h₂ e hs₂ he=>?_))
  obtain⟨oe,hoe,hce⟩:=he
  have hz₂:IsZip h₂ z TI TO .ellipsis:=hs₂ _ _ D.i1z.symm hz₁
  have hez:e≠z:=fun x=>by subst x;rw[hz₂] at hoe;cases hoe;simp at hce
  exact wpAny_setField_rec hz₂ (by simp) fun h₃ _ hs₃=>fin h₃ e (fun c o c1 _ c3 _ x=>hs₃.extBut _ _ c1 (hs₂ _ _ c3 (hs₁.extBut _ _ c1 x))) ⟨oe,hs₃.extBut _ _ hez hoe,hce⟩
 | some x=>
  have hy:ys[k2]?=none:=by rcases hend with h|h;rw[hx] at h;cases h;exact h
  refine(show wpAny _ _ (Builtin.SmallTypes.nextOf (.ref i1) >>= _) _ _ _ from wpAny_bind (wpAny_nextOf_list_item (h1.extBut hs₁.extBut D.i1z) (hl1.extBut hs₁.extBut D.l1z) hx fun h₂ h1₂ hs₂=>wpAny_pure ?_))
  have hTO₂:IsPair h₂ TO a b:=hs₂.extBut _ _ D.TOi1 (hs₁.extBut _ _ D.TOz hTO)
  refine wpAny_bind (wpAny_seqItems hTO₂ rfl (wpAny_bind (wpAny_updateSeq_pair hTO₂ fun h₃ hTO₃ hs₃=>wpAny_bind (wpAny_letGo (wpAny_pure ?_)))))
  refine wpAny_bind (wpAny_bind (wpAny_onRaise ?_))
  have c₃:Chn h₃ cs:=(c₁.but n1 hs₂.extBut).but nT hs₃.extBut
  refine(show wpAny _ _ (Builtin.SmallTypes.nextOf (.ref i2) >>= _) _ _ _ from wpAny_bind (zdW (A:=A.in1) (HdC.hd (A:=A.in1) hc c₃) (((h2.extBut hs₁.extBut D.i2z).extBut hs₂.extBut D.i12.symm).extBut hs₃.extBut D.TOi2.symm)
   (((hl2.extBut hs₁.extBut D.l2z).extBut hs₂.extBut D.l2i1).extBut hs₃.extBut D.l2TO) hy fun h₄ e hs₄ he=>?_))
  obtain⟨oe,hoe,hce⟩:=he
  have hz₄:IsZip h₄ z TI TO .ellipsis:=hs₄ _ _ D.i2z.symm (hs₃.extBut _ _ D.TOz.symm (hs₂.extBut _ _ D.i1z.symm hz₁))
  have hez:e≠z:=fun x=>by subst x;rw[hz₄] at hoe;cases hoe;simp at hce
  exact wpAny_setField_rec hz₄ (by simp) fun h₅ _ hs₅=>fin h₅ e (fun c o c1 c2 c3 c4 x=>hs₅.extBut _ _ c1 (hs₄ _ _ c4 (hs₃.extBut _ _ c2 (hs₂.extBut _ _ c3 (hs₁.extBut _ _ c1 x))))) ⟨oe,hs₅.extBut _ _ hez hoe,hce⟩
section
variable {κ:Type} [DecidableEq κ] {knd:KeyKind prog w κ}
theorem zhZ {it d:Addr}{i ep:Nat}{kvs:List (κ×Value)}{Q:Option Value→Shared→Prop} (hd:Hd A s.heap) (hit:s.heap.IsKeyIter it d i kvs.length ep) (hm:s.heap.DictAt knd d kvs ep) (hx:kvs[i]?=none)
  (hQ:∀ h',Heap.ExtBut it s.heap h'→Q none { s with heap:=h' }):wpAny (model prog w) A (pyNext (.ref it)) Q E s:=by
 obtain⟨o,ho,hc,hdat⟩:=id hit
 obtain⟨od,es,hod,hcd,hdd,hk,hp,hn⟩:=id hm
 have hsz:es.size=kvs.length:=by rw[← hp.length];simp
 have hge:es.size≤i:=by rw[hsz];simpa using hx
 have hown:Builtin.Dict_items.ownsTuple "dict_keyiterator"=false:=by decide
 unfold pyNext
 refine wpAny_bind (wpAny_attempt (wpAny_callSpecial?_slot (name:=Str.ofString "__next__") hit.typeIs F.slot_dict_keyiterator_next (wpAny_call_entry F.slot_dict_keyiterator_next hit.typeIs F.entry_dict_keyiterator_next ?_ (F.args_dict_keyiterator_next_1 _))))
 refine wpAny_bind (wpAny_pure (wpAny_bind (wpAny_bind ?_)))
 first|refine wpAny_bind (wpAny_typeNameOfWhole_keyiter hit.typeIs (wpAny_pure (wpAny_bind (wpAny_fieldsOf ho hdat ?_))))|refine wpAny_bind (wpAny_typeNameOf_keyiter hit.typeIs (wpAny_pure (wpAny_bind (wpAny_fieldsOf ho hdat ?_))))
 simp only[hown,Bool.false_eq_true,if_false]
 show wpAny _ _ (if (Value.ref d == Value.none)=true then _ else _) _ _ s
 rw[if_neg (show ¬ ((Value.ref d == Value.none)=true) from Bool.false_ne_true)]
 refine wpAny_bind (wpAny_pure (wpAny_bind (wpAny_dictEntries hod hdd ?_)))
 rw[if_neg (by rw[hsz];simp)]
 refine wpAny_bind (wpAny_pure (wpAny_bind (wpAny_dictEpoch hod hdd ?_)))
 rw[if_neg (by simp)]
 refine wpAny_pure ?_
 simp only[show ¬ ((i:Int)<0) from by omega,if_false,Int.toNat_natCast,Array.getElem?_eq_none hge]
 refine wpAny_bind ?_
 first|refine wpAny_bind (wpAny_typeNameOfWhole_keyiter hit.typeIs (wpAny_pure ?_))|refine wpAny_bind (wpAny_typeNameOf_keyiter hit.typeIs (wpAny_pure ?_))
 refine(show wpAny _ _ (setField (.ref it) 0 .none >>= _) _ _ s from wpAny_bind (wpAny_setField ho hdat (by simp) ?_))
 refine zdh (A:=A.in1) (hd.but ho (fun vs q=>.inr (by rw[hdat] at q;cases q;simp)) (Heap.SameBut.update ..).extBut) fun h' e k' ⟨o',e',c'⟩=>?_
 exact wpAny_bind (wpAny_isInstance (T:="StopIteration") (b:=true) ⟨o',e',c'⟩ isSubtype_stop (wpAny_pure (hQ h' fun b q hb hq=>k' b q ((Heap.SameBut.update ..).extBut b q hb hq))))
theorem zg2 {it d:Addr}{i ep:Nat}{kvs:List (κ×Value)}{ok ov:Value}{Q:Option Value→Shared→Prop} (hc:HdC A cs) (c:Chn s.heap cs) (hI:it∉cs) (hit:IsItemIter s.heap it d i kvs.length ep ok ov) (hm:s.heap.DictAt knd d kvs ep) (hx:kvs[i]?=none)
  (hQ:∀ h',Heap.ExtBut it s.heap h'→Q none { s with heap:=h' }):wpAny (model prog w) A (pyNext (.ref it)) Q E s:=by
 obtain⟨od,es,hod,hcd,hdd,hk,hp,hn⟩:=id hm
 have hT:s.TypeIs (.ref it) "dict_itemiterator":=⟨_,hit,rfl⟩
 have hsz:es.size=kvs.length:=by rw[← hp.length];simp
 have hge:es.size≤i:=by rw[hsz];simpa using hx
 have hown:Builtin.Dict_items.ownsTuple "dict_itemiterator"=true:=by decide
 unfold pyNext
 refine wpAny_bind (wpAny_attempt (wpAny_callSpecial?_slot (name:=Str.ofString "__next__") hT F.slot_dict_itemiterator_next (wpAny_call_entry F.slot_dict_itemiterator_next hT F.entry_dict_itemiterator_next ?_ (F.args_dict_itemiterator_next_1 _))))
 refine wpAny_bind (wpAny_pure (wpAny_bind (wpAny_bind ?_)))
 first|refine wpAny_bind (wpAny_typeNameOfWhole_itemiter hT (wpAny_pure (wpAny_bind (wpAny_fieldsOf hit rfl ?_))))|refine wpAny_bind (wpAny_typeNameOf_itemiter hT (wpAny_pure (wpAny_bind (wpAny_fieldsOf hit rfl ?_))))
 simp only[hown,if_true]
 show wpAny _ _ (if (Value.ref d == Value.none)=true then _ else _) _ _ s
 rw[if_neg (show ¬ ((Value.ref d == Value.none)=true) from Bool.false_ne_true)]
 refine wpAny_bind (wpAny_pure (wpAny_bind (wpAny_dictEntries hod hdd ?_)))
 rw[if_neg (by rw[hsz];simp)]
 refine wpAny_bind (wpAny_pure (wpAny_bind (wpAny_dictEpoch hod hdd ?_)))
 rw[if_neg (by simp)]
 refine wpAny_pure ?_
 simp only[show ¬ ((i:Int)<0) from by omega,if_false,Int.toNat_natCast,Array.getElem?_eq_none hge]
 refine wpAny_bind ?_
 first|refine wpAny_bind (wpAny_typeNameOfWhole_itemiter hT (wpAny_pure ?_))|refine wpAny_bind (wpAny_typeNameOf_itemiter hT (wpAny_pure ?_))
 refine(show wpAny _ _ (setField (.ref it) 2 .none >>= _) _ _ s from wpAny_bind (wpAny_setField hit rfl (by simp) ?_))
 refine zdh (A:=A.in1) (HdC.hd (A:=A.in1) hc (c.but hI (Heap.SameBut.update ..).extBut)) fun h' e k' ⟨o',e',c'⟩=>?_
 exact wpAny_bind (wpAny_isInstance (T:="StopIteration") (b:=true) ⟨o',e',c'⟩ isSubtype_stop (wpAny_pure (hQ h' fun b q hb hq=>k' b q ((Heap.SameBut.update ..).extBut b q hb hq))))
end
end
end L2
namespace L2
open PySem PySem.Spec PyProof.Rows
section
variable {X:Cx}{tg:Expr}
end
section
variable {g:TG}{tt:TT}{te:TE}
end
def Itz (K:PySem.W.Frag) (l1 l2:Addr):It:=
  ⟨fun i H=>∃ xs ys x y,SqL K H l1 xs∧SqL K H l2 ys∧xs[i]?=some x∧ys[i]?=some y,
   fun i H v H'=>∃ T x y,v=.ref T∧H T=none∧H'=upd H T (.tup [x,y])∧(∀ xs,SqL K H l1 xs→xs[i]?=some x)∧∀ ys,SqL K H l2 ys→ys[i]?=some y,
   fun i H=>∃ xs ys,SqL K H l1 xs∧SqL K H l2 ys∧(xs.length≤i∨ys.length≤i)⟩
def ZipIt (h:Heap) (z TI TO i1 i2 l1 l2:Addr) (i:Nat):Prop:=IsZip h z TI TO .none∧IsPair h TI (.ref i1) (.ref i2)∧(∃ a b,IsPair h TO a b)∧h.IsListIter i1 l1 i∧h.IsListIter i2 l2 i
theorem zjn {P:Program}{w:World}{K:PySem.W.Frag}{es:List Expr}{k:Nat}{pos:Pos}{z TI TO i1 i2 l1 l2:Addr} (D:ZipApart z TI TO i1 i2 l1 l2) :
  zkv P w K (.Tuple es k pos) (Itz K l1 l2) [z,TI,TO,i1,i2] z (fun i h=>ZipIt h z TI TO i1 i2 l1 l2 i) where
 mem:=by simp
 obj:=fun i h st b hb=>by
  obtain⟨hz,hTI,⟨a,c,hTO⟩,⟨o1,e1,c1,d1⟩,⟨o2,e2,c2,d2⟩⟩:=st
  simp only[List.mem_cons,List.not_mem_nil,or_false] at hb
  rcases hb with rfl|rfl|rfl|rfl|rfl
  ·exact⟨_,hz,fun v q=>by simp at q⟩
  ·exact⟨_,hTI,fun v q=>by simp at q⟩
  ·exact⟨_,hTO,fun v q=>by simp at q⟩
  ·exact⟨_,e1,fun v q=>by rw[d1] at q;cases q⟩
  ·exact⟨_,e2,fun v q=>by rw[d2] at q;cases q⟩
 keep:=fun i h h' st k=>by
  obtain⟨hz,hTI,⟨a,c,hTO⟩,h1,h2⟩:=st
  exact⟨k z (by simp) _ hz,k TI (by simp) _ hTI,⟨a,c,k TO (by simp) _ hTO⟩,h1.at fun o e=>k i1 (by simp) o e,h2.at fun o e=>k i2 (by simp) o e⟩
 item:=by
  intro X hP hw hK hc i pins s σ H E I hf st hg
  subst hP hw hK
  obtain⟨xs,ys,x,y,q1,q2,hx,hy⟩:=hg
  obtain⟨hz,hTI,⟨a,c,hTO⟩,h1,h2⟩:=st
  obtain⟨its,rv,pl,_⟩:=I.list q1
  obtain⟨its',rv',pl',_⟩:=I.list q2
  obtain⟨u,hu,ru⟩:=rv.get hx
  obtain⟨u',hu',ru'⟩:=rv'.get hy
  have nf:∀ b∈[z,TI,TO,i1,i2],b∉frs X.stack:=fun b hb q=>(List.mem_cons.mp (I.stkSub b q)).elim (hf b hb).2.1 (hf b hb).2.2.1
  refine wpAny_pyNext_zip_item D hz hTI hTO h1 h2 pl.isList pl'.isList (x:=u) (y:=u') (by simpa using hu) (by simpa using hu') fun h' a1 a2 a3 a4 a5 a6 hk=>⟨_,rfl,?_⟩
  refine wpAny_letOwnedTupleGo_zip (s:={ s with heap:=h' }) a1 fun h'' hz' hs'=>?_
  have hTn:H s.heap.objs.size=none:=I.hok.fresh (Nat.le_refl _)
  have ltz:=Heap.lt_size hz
  have old:∀ b o,b≠z→b≠TO→b≠i1→b≠i2→s.heap.get? b=some o→h''.get? b=some o:=fun b o n1 n2 n3 n4 e=>hs'.extBut b o n1 (hk b o n1 n2 n3 n4 e)
  have I1:Inv X pins σ (upd H s.heap.objs.size (.tup [x,y])) { s with heap:=s.heap.push { cls:=.type "tuple",data:=.seq #[u,u'] } }:=
   I.laid (t':=s.toks) (fun b o e=>Heap.get?_push_of_some _ e) (Nat.le_refl _) ⟨by show 2≤sizeLine;decide,[u,u'],.cons ru (.cons ru' .nil),⟨_,Heap.get?_push_size _ rfl,rfl,_,rfl⟩⟩
  have fp1:∀ b∈[z,TI,TO,i1,i2],zcm X pins (upd H s.heap.objs.size (.tup [x,y])) b:=fun b hb=>by
   obtain⟨f0,r⟩:=hf b hb
   refine⟨?_,r⟩
   have lt:b<s.heap.objs.size:=by
    simp only[List.mem_cons,List.not_mem_nil,or_false] at hb
    rcases hb with rfl|rfl|rfl|rfl|rfl
    ·exact Heap.lt_size hz
    ·exact Heap.lt_size hTI
    ·exact Heap.lt_size hTO
    ·obtain⟨o,e,_⟩:=h1;exact Heap.lt_size e
    ·obtain⟨o,e,_⟩:=h2;exact Heap.lt_size e
   rw[zag (Nat.ne_of_lt lt)];exact f0
  have I2:Inv X pins σ (upd H s.heap.objs.size (.tup [x,y])) { s with heap:=h'' }:=by
   have back:∀ b o,(s.heap.push { cls:=.type "tuple",data:=.seq #[u,u'] }).get? b=some o→b≠z→b≠TO→b≠i1→b≠i2→h''.get? b=some o:=fun b o e n1 n2 n3 n4=>by
    rcases Heap.get?_push_cases e with⟨rfl,rfl⟩|e
    ·exact hs'.extBut _ _ n1 a5
    ·exact old b o n1 n2 n3 n4 e
   refine I1.slots (ch:=[z,TO,i1,i2]) (tk:=s.toks) (fun b hb=>fp1 b (by simp only[List.mem_cons,List.not_mem_nil,or_false] at hb ⊢;rcases hb with e|e|e|e <;> simp[e])) (fun b o _ hc e=>?_) (fun b o hb e=>⟨o.slots,?_⟩) (fun b hb o e=>?_)
   ·simp only[List.mem_cons,List.not_mem_nil,or_false,not_or] at hc
    exact back b o e hc.1 hc.2.1 hc.2.2.1 hc.2.2.2
   ·exact back b o e (fun q=>nf z (by simp) (q ▸ hb)) (fun q=>nf TO (by simp) (q ▸ hb)) (fun q=>nf i1 (by simp) (q ▸ hb)) (fun q=>nf i2 (by simp) (q ▸ hb))
   ·simp only[List.mem_cons,List.not_mem_nil,or_false] at hb
    rcases hb with rfl|rfl|rfl|rfl
    ·exact⟨_,hz'⟩
    ·exact⟨_,hs'.extBut _ _ D.TOz a2⟩
    ·obtain⟨o,e,_⟩:=a3;exact⟨_,hs'.extBut _ _ D.i1z e⟩
    ·obtain⟨o,e,_⟩:=a4;exact⟨_,hs'.extBut _ _ D.i2z e⟩
  refine⟨.ref s.heap.objs.size,_,I2,rfl,⟨_,x,y,rfl,hTn,rfl,fun xs' q=>by rw[I.list_inj q q1];exact hx,fun ys' q=>by rw[I.list_inj q q2];exact hy⟩,?_,fun b hb=>(fp1 b hb).1⟩
  exact⟨hz',old TI _ D.TIz D.TITO D.TIi1 D.TIi2 hTI,⟨_,_,hs'.extBut _ _ D.TOz a2⟩,a3.extBut hs'.extBut D.i1z,a4.extBut hs'.extBut D.i2z⟩
 done:=by
  intro X hP hw hK hc i pins s σ H E I hf st hg
  subst hP hw hK
  obtain⟨xs,ys,q1,q2,hlen⟩:=hg
  obtain⟨hz,hTI,⟨a,c,hTO⟩,h1,h2⟩:=st
  obtain⟨its,rv,pl,_⟩:=I.list q1
  obtain⟨its',rv',pl',_⟩:=I.list q2
  have e1:=rv.length
  have e2:=rv'.length
  have nf:∀ b∈[z,TI,TO,i1,i2],b∉frs X.stack:=fun b hb q=>(List.mem_cons.mp (I.stkSub b q)).elim (hf b hb).2.1 (hf b hb).2.2.1
  have nc:∃ cs,HdC X.A cs∧Chn s.heap cs∧∀ b∈[z,TI,TO,i1,i2],b∉cs:=by
   rcases I.hdAt with e|⟨b,cs,e,c⟩
   ·exact⟨[],.inl ⟨e,rfl⟩,⟨List.nodup_nil,fun j a q=>by simp at q⟩,fun b _ q=>by simp at q⟩
   ·exact⟨b::cs,.inr ⟨b,cs,rfl,e⟩,c.chn I.hok,fun d hd=>c.not_mem (hf d hd).1⟩
  obtain⟨cs,hcs,ch,ncs⟩:=nc
  refine zjm hcs ch (ncs z (by simp)) (ncs TO (by simp)) (ncs i1 (by simp)) (ncs i2 (by simp)) D hz hTI hTO h1 h2 pl.isList pl'.isList (by rcases hlen with q|q;(left;simp;omega);(right;simp;omega)) fun h' hk=>⟨rfl,?_⟩
  refine I.slot0 (ch:=[z,TI,TO,i1,i2]) (tk:=s.toks) hf (fun b o _ hc e=>?_) (fun b o hb e=>⟨o.slots,?_⟩)
  ·simp only[List.mem_cons,List.not_mem_nil,or_false,not_or] at hc
   exact hk b o hc.1 hc.2.2.1 hc.2.2.2.1 hc.2.2.2.2 e
  ·exact hk b o (fun q=>nf z (by simp) (q ▸ hb)) (fun q=>nf TO (by simp) (q ▸ hb)) (fun q=>nf i1 (by simp) (q ▸ hb)) (fun q=>nf i2 (by simp) (q ▸ hb)) e
 self:=fun _ _ _ _ _ st h=>wpAny_pyIter_zip st.1 h
def iZip (K:PySem.W.Frag) (ta:TA):TI:=fun σ H R=>ta σ H fun vs H1=>∃ l1 l2,vs=[.ref l1,.ref l2]∧(∃ xs,SqL K H1 l1 xs)∧(∃ ys,SqL K H1 l2 ys)∧R (Itz K l1 l2) H1
section
variable {X:Cx}
theorem zep {es:List Expr}{k:Nat}{tpos p pos:Pos}{a b:Expr}{ta:TA} (hg:Gl X "zip") (hm:X.mg "zip"=none) (ha:PA X [a,b] ta) (hs:starEach [a,b] X.env=[(false,eval a X.env),(false,eval b X.env)]:=by rfl) (hs2:starEach [b] X.env=[(false,eval b X.env)]:=by rfl) :
  PI X (.Tuple es k tpos) (.Call (.Name "zip" p) [a,b] [] pos) (iZip X.K ta):=by
 intro pins s σ H R I h
 refine Call_ (zcn I hg hm boot_zip (PyProof.Rows.callWith_type1 (thn (ha pos pins s σ H _ I h) fun us s1=>L2.ex5 fun vs H1 I1 r1 hq_=>?_) (by rw[hs,hs2]) (by rw[hs2];rfl)))
 obtain⟨l1,l2,e,⟨xs,q1⟩,⟨ys,q2⟩,q⟩:=hq_
 subst e
 obtain⟨u,u',rfl,ru,ru'⟩:=zhz r1
 obtain rfl:u=Value.ref l1:=ru
 obtain rfl:u'=Value.ref l2:=ru'
 obtain⟨its,rv,pl,_⟩:=I1.list q1
 obtain⟨its',rv',pl',_⟩:=I1.list q2
 refine call_zip_2 pl.isList pl'.isList fun h' b1 b2 b3 b4 b5 b6 hk=>?_
 refine wpAny_pyIter_zip (s:={ s1 with heap:=h' }) b1 ?_
 have lt1:l1<s1.heap.objs.size:=by obtain⟨o,e,_⟩:=pl.isList;exact Heap.lt_size e
 have lt2:l2<s1.heap.objs.size:=by obtain⟨o,e,_⟩:=pl'.isList;exact Heap.lt_size e
 have nn:∀ (x y:Nat),x<y→∀ j:Nat,x≠y + j:=fun x y h j e=>by omega
 have n0:∀ (y i j:Nat),i≠j→y + i≠y + j:=fun y i j h e=>by omega
 have D:ZipApart (s1.heap.objs.size + 4) (s1.heap.objs.size + 2) (s1.heap.objs.size + 3) s1.heap.objs.size (s1.heap.objs.size + 1) l1 l2:=
  ⟨n0 _ 2 4 (by decide),n0 _ 3 4 (by decide),n0 _ 0 4 (by decide),n0 _ 1 4 (by decide),n0 _ 2 3 (by decide),n0 _ 2 0 (by decide),n0 _ 2 1 (by decide),n0 _ 3 0 (by decide),n0 _ 3 1 (by decide),n0 _ 0 1 (by decide),
   nn _ _ lt1 4,nn _ _ lt1 3,nn _ _ lt1 0,nn _ _ lt1 1,nn _ _ lt2 4,nn _ _ lt2 3,nn _ _ lt2 0,nn _ _ lt2 1⟩
 refine⟨s1.heap.objs.size + 4,[s1.heap.objs.size + 4,s1.heap.objs.size + 2,s1.heap.objs.size + 3,s1.heap.objs.size,s1.heap.objs.size + 1],_,_,H1,rfl,I1.kept (t':=s1.toks) hk,zjn D,⟨b1,b2,⟨_,_,b3⟩,b4,b5⟩,fun b hb=>?_,q⟩
 have ge:s1.heap.objs.size≤b:=by
  simp only[List.mem_cons,List.not_mem_nil,or_false] at hb
  rcases hb with rfl|rfl|rfl|rfl|rfl
  ·exact Nat.le_add_right _ _
  ·exact Nat.le_add_right _ _
  ·exact Nat.le_add_right _ _
  ·exact Nat.le_refl _
  ·exact Nat.le_add_right _ _
 exact I1.fpOk ge (I1.hok.fresh ge)
theorem Inv.freeze {pins:List (Addr×Obj)}{σ:St}{H:Hp}{s:Shared}{d:Addr}{kvs:List (Key×V)}{o:Obj} (I:Inv X pins σ H s) (e:H d=some (.dK kvs)) (ho:s.heap.get? d=some o):Inv X pins σ (upd H d (.frz o (.dK kvs))) s:=by
 have ne:∀ b u,H b=some u→u≠.dK kvs→b≠d:=fun b u q n z=>by rw[z,e] at q;cases q;exact n rfl
 have kp:∀ b u,H b=some u→u≠.dK kvs→upd H d (.frz o (.dK kvs)) b=some u:=fun b u q n=>by rw[zag (ne b u q n)];exact q
 refine I.un (h':=s.heap) (t':=s.toks) ⟨fun b _ q _ _ _=>q,fun b ob q _ _ _=>⟨ob.slots,q⟩,fun b ob q n _=>?_,fun b ob q _=>⟨ob,q⟩,fun b xs q=>kp b _ q (by intro z;cases z),fun b ob u q=>kp b _ q (by intro z;cases z),fun b pp pq q=>kp b _ q (by intro z;cases z)⟩ fun b u q=>?_
 ·rw[zag (fun z=>by rw[z,e] at n;cases n)];exact n
 ·by_cases hb:b=d
  ·subst hb
   rw[zaa] at q;cases q
   exact⟨ho,(I.hok _ _ e)⟩
  ·rw[zag hb] at q
   exact(I.hok b u q).stay (fun c v _ r=>r) (fun c r=>kp c _ r (by intro z;cases z)) (fun c xs r=>kp c _ r (by intro z;cases z)) fun c ob r=>kp c _ r (by intro z;cases z)
theorem Inv.thaw {pins:List (Addr×Obj)}{σ:St}{H:Hp}{s:Shared}{d:Addr}{kvs:List (Key×V)}{o:Obj} (I:Inv X pins σ H s) (hX:∀ o u,X.H₀ d≠some (.frz o u)) (e:H d=some (.frz o (.dK kvs))):Inv X pins σ (upd H d (.dK kvs)) s:=by
 have ne:∀ b u,H b=some u→(∀ o v,u≠.frz o v)→b≠d:=fun b u q n z=>by rw[z,e] at q;cases q;exact n _ _ rfl
 have kp:∀ b u,H b=some u→(∀ o v,u≠.frz o v)→upd H d (.dK kvs) b=some u:=fun b u q n=>by rw[zag (ne b u q n)];exact q
 have nn:∀ b,H b=none→upd H d (.dK kvs) b=none:=fun b q=>by rw[zag (fun z=>by rw[z,e] at q;cases q)];exact q
 have un:Un X.fs X.ex X.H₀ (upd H d (.dK kvs)) X.s₀.heap s.heap:=by
  obtain⟨b1,b2,b3,b4,b5,b6,b7⟩:=I.base
  refine⟨b1,b2,fun b ob q n x=>nn b (b3 b ob q n x),b4,fun b xs q=>kp b _ (b5 b xs q) (by intro _ _ z;cases z),fun b ob u q=>?_,fun b pp pq q=>?_⟩
  ·rw[zag (fun z=>hX ob u (by rw[← z];exact q))];exact b6 b ob u q
  ·exact kp b _ (b7 b pp pq q) (by intro _ _ z;cases z)
 refine { I with base:=un,free:=nn _ I.free,freeC:=fun x c q=>nn _ (I.freeC x c q),pin:=fun p hp=>?_,hok:=fun b u q=>?_ }
 ·obtain⟨p1,p2,p3⟩:=I.pin p hp
  exact⟨p1,nn _ p2,p3⟩
 ·by_cases hb:b=d
  ·subst hb
   rw[zaa] at q;cases q
   exact(I.hok _ _ e).2
  ·rw[zag hb] at q
   exact(I.hok b u q).stay (fun c v _ r=>r) (fun c r=>kp c _ r (by intro _ _ z;cases z)) (fun c xs r=>kp c _ r (by intro _ _ z;cases z)) fun c ob r=>by rw[zag (fun z=>by rw[z,e] at r;cases r)];exact r
theorem Inv.notFrz {pins:List (Addr×Obj)}{σ:St}{H:Hp}{s:Shared}{d:Addr}{kvs:List (Key×V)} (I:Inv X pins σ H s) (e:H d=some (.dK kvs)):∀ o u,X.H₀ d≠some (.frz o u):=fun o u q=>by
 have:=I.base.frzs d o u q
 rw[e] at this;cases this
def zfz (v d:Addr):HO:=.ext fun h=>h.IsItemsView v d
def rItems:V→List V→Hp→VK→Prop:=fun x vs H Q=>∃ d kvs,x=.ref d∧vs=[]∧H d=some (.dK kvs)∧∀ v,H v=none→Q (.ref v) (upd H v (zfz v d))
theorem zjo:MtR X "dict.items" rItems:=by
 intro pins s σ H x xs v us Q I rx r h
 obtain⟨d,kvs,rfl,rfl,e,q⟩:=h
 obtain rfl:v=Value.ref d:=rx
 cases r
 obtain⟨z,hd,vs,rel,dd⟩:=zhI I.hok e
 refine call_meetsIn PySem.F.slot_dict_items dd.typeIs PySem.F.entry_dict_items (PySem.F.args_dict_items_1 _) (meets_dict_items (zaM X.prog X.w) d hd) ⟨⟨vs,dd⟩,?_⟩
 refine⟨.ref s.heap.objs.size,_,I.laid (t':=s.toks) (o:=zfz s.heap.objs.size d) (fun b ob q=>Heap.get?_push_of_some _ q) (Nat.le_refl _) ?_,rfl,q _ (I.hok.fresh (Nat.le_refl _))⟩
 exact⟨⟨_,Heap.get?_push_size _ rfl,rfl,rfl⟩,⟨_,Heap.get?_push_size _ rfl⟩,fun h1 h2 ⟨o,a,r⟩ k=>⟨o,k o a,r⟩⟩
end
def Iti (d:Addr) (o:Obj) (kvs:List (Key×V)):It:=
 ⟨fun i H=>H d=some (.frz o (.dK kvs))∧i<kvs.length,fun i H v H'=>∃ T k x,v=.ref T∧H T=none∧kvs[i]?=some (k,x)∧H'=upd H T (.tup [kV k,x]),fun i H=>H d=some (.frz o (.dK kvs))∧kvs.length≤i⟩
def ItemIt (h:Heap) (it d:Addr) (o:Obj) (n i:Nat):Prop:=∃ es ep ok ov,o.data=.dict es ep∧IsItemIter h it d i n ep ok ov
theorem kV_of {P:Program}{w:World}{k:Key}{u:Value} (h:(zaM P w).is k u=true):zaQ (kV k) u:=by
 rcases zaV (show zfY k u=true from h) with⟨i,t,rfl,rfl⟩|⟨x,t,rfl,rfl⟩
 ·exact⟨t,rfl⟩
 ·exact⟨t,rfl⟩
theorem KV.get {kvs:List (Key×V)}{vs:List (Key×Value)} (r:KV kvs vs):∀ {i:Nat}{k:Key}{x:V},kvs[i]?=some (k,x)→∃ u,vs[i]?=some (k,u)∧zaQ x u:=by
 induction r with
 | nil=>intro i k x e;simp at e
 | @cons p q l1 l2 h t ih=>
  intro i k x e
  cases i with
  | zero=>
   simp at e
   subst e
   exact⟨q.2,by simp only[List.getElem?_cons_zero,Option.some.injEq];exact Prod.ext h.1.symm rfl,h.2⟩
  | succ i=>exact ih (by simpa using e)
theorem zcS:entryFor table "dict_itemiterator.__iter__"=some Builtin.«dict_keyiterator.__iter__»:=entryFor_alias (id':="dict_keyiterator.__iter__") (by kernel_rfl) rfl (by decide +kernel) (by kernel_rfl)
theorem zg3 {P:Program}{w:World}{K:PySem.W.Frag}{es:List Expr}{k:Nat}{pos:Pos}{it d:Addr}{o:Obj}{kvs:List (Key×V)}:zkv P w K (.Tuple es k pos) (Iti d o kvs) [it] it (fun i h=>ItemIt h it d o kvs.length i) where
 mem:=by simp
 obj:=fun i h st b hb=>by
  have e:b=it:=by simpa using hb
  subst e
  obtain⟨_,_,_,_,_,e⟩:=st
  exact⟨_,e,fun v q=>by simp at q⟩
 keep:=fun i h h' st kk=>by
  obtain⟨a,b,c,e,q,y⟩:=st
  exact⟨a,b,c,e,q,kk it (by simp) _ y⟩
 item:=by
  intro X hP hw hK hc i pins s σ H E I hf st hg
  subst hP hw hK
  obtain⟨hd,hlt⟩:=hg
  obtain⟨es',ep,ok,ov,hdat,hit⟩:=st
  obtain⟨f0,f1,f2,f3,f4,f5⟩:=hf it (by simp)
  obtain⟨ho,hdk⟩:=I.hok _ _ hd
  obtain⟨z,hsm,vs,rel,⟨o',es2,ep2,ho2,hx2,hd2,r2⟩⟩:=hdk
  rw[ho] at ho2;cases ho2
  rw[hdat] at hd2;cases hd2
  have dat:s.heap.DictAt (zaM X.prog X.w) d vs ep:=⟨o,es',ho,hx2,hdat,r2⟩
  obtain⟨⟨kk,x⟩,hx⟩:∃ p,kvs[i]?=some p:=⟨kvs[i],by simp[hlt]⟩
  obtain⟨u,hu,ru⟩:=rel.get hx
  have hlen:kvs.length=vs.length:=rel.length
  rw[hlen] at hit
  refine wpAny_pyNext_items_item hit dat hu fun key h' hkey a1 a2 a3 hkp=>⟨_,rfl,?_⟩
  refine wpAny_letOwnedTupleGo_items (s:={ s with heap:=h' }) a1 fun h'' hit' hs'=>?_
  have hTn:H s.heap.objs.size=none:=I.hok.fresh (Nat.le_refl _)
  have nT:s.heap.objs.size≠it:=Ne.symm (Nat.ne_of_lt (Heap.lt_size hit))
  have I1:Inv X pins σ (upd H s.heap.objs.size (.tup [kV kk,x])) { s with heap:=s.heap.push { cls:=.type "tuple",data:=.seq #[key,u] } }:=
   I.laid (t':=s.toks) (fun b o e=>Heap.get?_push_of_some _ e) (Nat.le_refl _) ⟨by show 2≤sizeLine;decide,[key,u],.cons (kV_of hkey) (.cons ru .nil),⟨_,Heap.get?_push_size _ rfl,rfl,_,rfl⟩⟩
  have f0':upd H s.heap.objs.size (.tup [kV kk,x]) it=none:=by rw[zag (Ne.symm nT)];exact f0
  have I2:Inv X pins σ (upd H s.heap.objs.size (.tup [kV kk,x])) { s with heap:=h'' }:=I1.turned (t':=s.toks) (fun b ob hb e=>by
   rcases Heap.get?_push_cases e with⟨rfl,rfl⟩|e
   ·exact hs'.extBut _ _ hb a2
   ·exact hs'.extBut _ _ hb (hkp b ob hb e)) f0' f1 f3 f4 f5
  refine⟨.ref s.heap.objs.size,_,I2,rfl,⟨_,kk,x,rfl,hTn,hx,rfl⟩,⟨es',ep,key,u,hdat,by rw[hlen];exact hit'⟩,fun b hb=>?_⟩
  have e:b=it:=by simpa using hb
  subst e
  exact f0'
 done:=by
  intro X hP hw hK hc i pins s σ H E I hf st hg
  subst hP hw hK
  obtain⟨hd,hge⟩:=hg
  obtain⟨es',ep,ok,ov,hdat,hit⟩:=st
  obtain⟨f0,f1,f2,f3,f4,f5⟩:=hf it (by simp)
  obtain⟨ho,hdk⟩:=I.hok _ _ hd
  obtain⟨z,hsm,vs,rel,⟨o',es2,ep2,ho2,hx2,hd2,r2⟩⟩:=hdk
  rw[ho] at ho2;cases ho2
  rw[hdat] at hd2;cases hd2
  have dat:s.heap.DictAt (zaM X.prog X.w) d vs ep:=⟨o,es',ho,hx2,hdat,r2⟩
  have hlen:kvs.length=vs.length:=rel.length
  rw[hlen] at hit
  have nc:∃ cs,HdC X.A cs∧Chn s.heap cs∧it∉cs:=by
   rcases I.hdAt with e|⟨b,cs,e,c⟩
   ·exact⟨[],.inl ⟨e,rfl⟩,⟨List.nodup_nil,fun j a q=>by simp at q⟩,by simp⟩
   ·exact⟨b::cs,.inr ⟨b,cs,rfl,e⟩,c.chn I.hok,c.not_mem f0⟩
  obtain⟨cs,hcs,ch,ncs⟩:=nc
  exact zg2 hcs ch ncs hit dat (List.getElem?_eq_none (by rw[← hlen];exact hge)) fun h' eb=>⟨rfl,I.turned (t':=s.toks) (fun b o hb e=>eb b o hb e) f0 f1 f3 f4 f5⟩
 self:=fun A i s Q E st h=>by
  obtain⟨es',ep,ok,ov,hdat,hit⟩:=st
  have hT:s.TypeIs (.ref it) "dict_itemiterator":=⟨_,hit,rfl⟩
  refine wpAny_pyIter_slot hT PySem.F.slot_dict_itemiterator_iter (wpAny_call_entry PySem.F.slot_dict_itemiterator_iter hT zcS ?_ (PySem.F.args_dict_itemiterator_iter_1 _))
  show wpAny _ _ (ret (.ref it)) _ _ s
  exact wpAny_pure ⟨_,rfl,"dict_itemiterator",_,hT,PySem.F.slot_dict_itemiterator_next.lookup,h⟩
def iView (tl:TE):TI:=fun σ H R=>tl σ H fun x H1=>∃ v d kvs,x=.ref v∧H1 v=some (zfz v d)∧H1 d=some (.dK kvs)∧∀ o,R (Iti d o kvs) (upd H1 d (.frz o (.dK kvs)))
section
variable {X:Cx}
theorem zkW {es:List Expr}{k:Nat}{tpos:Pos}{l:Expr}{tl:TE} (hl:PE X l tl):PI X (.Tuple es k tpos) l (iView tl):=by
 intro pins s σ H R I h
 refine thn (hl pins s σ H _ I h) fun w s1=>L2.ex5 fun x H1 I1 r1 hq_=>?_
 obtain⟨v,d,kvs,e,hv,hd,q⟩:=hq_
 subst e
 obtain rfl:w=Value.ref v:=r1
 obtain⟨z,hsm,vs,rel,dd⟩:=zhI I1.hok hd
 obtain⟨o,es',ep,ho,hx,hdat,r⟩:=id dd
 have dat:s1.heap.DictAt (zaM X.prog X.w) d vs ep:=⟨o,es',ho,hx,hdat,r⟩
 refine wpAny_pyIter_items (I1.hok _ _ hv).1 dat ?_
 have I2:=(I1.freeze hd ho).kept (t':=s1.toks) (h':=s1.heap.push { cls:=.type "dict_itemiterator",data:=.fields #[.none,.bool false,.ref d,.int 0 0,.int vs.length 0,.int ep 0,.none,.none] }) fun b o e=>Heap.get?_push_of_some _ e
 refine⟨s1.heap.objs.size,[s1.heap.objs.size],_,_,_,rfl,I2,zg3,⟨es',ep,.none,.none,hdat,?_⟩,fun b hb=>?_,q o⟩
 ·rw[rel.length];exact Heap.get?_push_size _ rfl
 ·have e:b=s1.heap.objs.size:=by simpa using hb
  subst e
  refine I1.fpOk (Nat.le_refl _) ?_
  rw[zag (Ne.symm (Nat.ne_of_lt (Heap.lt_size ho)))]
  exact I1.hok.fresh (Nat.le_refl _)
end
end L2
namespace L2
open PySem PySem.Spec PyProof.Rows
section
variable {g:TG}{tt:TT}{te:TE}
theorem zdA {K:PySem.W.Frag}{l1 l2 D:Addr}{xs ys:List V}{τ:St}{H:Hp}{Q:VK} (hlen:xs.length=ys.length) (Pv:Nat→St→Hp→Prop) (h0:Pv 0 τ H) (hl:∀ i τ H,i≤xs.length→Pv i τ H→SqL K H l1 xs∧SqL K H l2 ys)
  (hs:∀ i x y T τ H,xs[i]?=some x→ys[i]?=some y→H T=none→Pv i τ H→g (.ref T) τ (upd H T (.tup [x,y])) fun τ2 H2=>tt τ2 H2 fun b H3=>
   if b=true then te τ2 H3 fun y H4=>∃ ys,H4 D=some (.lst ys)∧ys.length<sizeLine∧Pv (i + 1) τ2 (upd H4 D (.lst (ys++[y]))) else Pv (i + 1) τ2 H3)
  (hd:∀ τ H,Pv xs.length τ H→Q (.ref D) H):zhN (Itz K l1 l2) D τ H g tt te Q:=by
 refine⟨fun i m τ H=>m=xs.length - i∧i≤xs.length∧Pv i τ H,⟨xs.length,by simp,Nat.zero_le _,h0⟩,?_⟩
 rintro i m τ H ⟨rfl,hi,p⟩
 obtain⟨q1,q2⟩:=hl i τ H hi p
 by_cases hlt:i<xs.length
 ·have hlt':i<ys.length:=by omega
  refine .inr ⟨⟨xs,ys,xs[i],ys[i],q1,q2,by simp[hlt],by simp[hlt']⟩,Pv (i + 1),fun τ' H' p'=>⟨xs.length - (i + 1),by omega,rfl,hlt,p'⟩,fun v H' y=>?_⟩
  obtain⟨T,x,y,rfl,hT,rfl,hx,hy⟩:=y
  exact hs i x y T τ H (hx xs q1) (hy ys q2) hT p
 ·have e:i=xs.length:=by omega
  subst e
  exact .inl ⟨⟨xs,ys,q1,q2,.inl (Nat.le_refl _)⟩,hd τ H p⟩
end
end L2
namespace L2
open PySem PySem.Spec PyProof.Rows
theorem bt_int:bootBuiltins "int"=some (.type "int"):=by decide +kernel
theorem zkX:bootBuiltins "bool"=some (.type "bool"):=by decide +kernel
theorem zdX:bootBuiltins "list"=some (.type "list"):=by decide +kernel
theorem zjp:bootBuiltins "tuple"=some (.type "tuple"):=by decide +kernel
theorem zeO:bootBuiltins "ValueError"=some (.type "ValueError"):=by decide +kernel
theorem zaU:bootBuiltins "isinstance"=some (.builtin "isinstance"):=by decide +kernel
theorem zj5:bootBuiltins "all"=some (.builtin "all"):=by decide +kernel
theorem zh0:bootBuiltins "any"=some (.builtin "any"):=by decide +kernel
theorem zde:bootBuiltins "len"=some (.builtin "len"):=by decide +kernel
theorem bt_abs:bootBuiltins "abs"=some (.builtin "abs"):=by decide +kernel
theorem zgv:bootBuiltins "min"=some (.builtin "min"):=by decide +kernel
theorem zh1:bootBuiltins "max"=some (.builtin "max"):=by decide +kernel
theorem zeq:bootBuiltins "sum"=some (.builtin "sum"):=by decide +kernel
theorem zh2 (bs:List Bool) (d:Bool):(List.range bs.length).all (fun i=>bs.getD i d)=bs.all id:=by
 induction bs with
 | nil=>rfl
 | cons b bs ih=>
  rw[List.length_cons,List.range_succ_eq_map,List.all_cons,List.all_map,List.all_cons,← ih]
  rfl
theorem zh3 (bs:List Bool) (d:Bool):(List.range bs.length).any (fun i=>bs.getD i d)=bs.any id:=by
 induction bs with
 | nil=>rfl
 | cons b bs ih=>
  rw[List.length_cons,List.range_succ_eq_map,List.any_cons,List.any_map,List.any_cons,← ih]
  rfl
theorem zfA {bs:List Bool}{us:List Value} (r:zaX (bs.map V.bl) us){i:Nat}{v:Value} (h:us[i]?=some v):v=.bool (bs.getD i true):=by
 have hl:(bs.map V.bl).length=us.length:=r.length
 have hi:i<bs.length:=by
  have:=(List.getElem?_eq_some_iff.mp h).1
  rw[List.length_map] at hl
  omega
 obtain⟨u,hu,ru⟩:=r.get (i:=i) (x:=.bl bs[i]) (by simp[hi])
 rw[h] at hu;cases hu
 rw[List.getD_eq_getElem?_getD,List.getElem?_eq_getElem hi]
 exact ru
section
variable {X:Cx}
theorem zfB:zc2 X (.builtin "all") (fun xs H Q=>∃ p,∃ bs:List Bool,xs=[.ref p]∧SqL X.K H p (bs.map V.bl)∧Q (.bl (bs.all id)) H):=by
 intro pins s σ H xs us Q I r h
 obtain⟨p,bs,rfl,hq,q⟩:=h
 obtain⟨u,rfl,ru⟩:=zdw r
 obtain rfl:u=Value.ref p:=ru
 obtain⟨its,rv,pl,_⟩:=I.list hq
 obtain⟨cs,hcs,ch⟩:=I.hd.chain
 have hlt:p<s.heap.objs.size:=by obtain⟨o,e,_⟩:=pl.isList;exact Heap.lt_size e
 have hnc:s.heap.objs.size∉cs:=fun z=>Nat.lt_irrefl _ (ch.lt _ z)
 have hlen:its.length=bs.length:=by rw[← rv.length,List.length_map]
 refine call_all_walk (wpAny_pyIter_list pl.isList ⟨s.heap.objs.size,_,_,_,_,_,fun i=>bs.getD i true,rfl,zbv (A:=X.A.in1) hcs s.heap.objs.size p (Nat.ne_of_lt hlt) hnc its.toArray,⟨⟨_,Heap.get?_push_size _ rfl,rfl,rfl⟩,pl.isList.push _,ch.mono fun b o _ e=>Heap.get?_push_of_some _ e⟩,?_,fun h' tk hk=>?_⟩)
 ·intro i v s' Q' E' hv hQ'
  have hv':its[i]?=some v:=by simpa using hv
  rw[zfA rv hv']
  exact wpAny_truthy_bool hQ'
 ·have e:(List.range its.toArray.size).all (fun i=>bs.getD i true)=bs.all id:=by rw[List.size_toArray,hlen];exact zh2 bs true
  rw[e]
  exact⟨.bl _,H,I.kept fun b o e=>hk b o (fun z=>by
   have:b=s.heap.objs.size:=by simpa using z
   exact absurd (Heap.lt_size e) (by rw[this];exact Nat.lt_irrefl _)) (Heap.get?_push_of_some _ e),rfl,q⟩
theorem zdY:zc2 X (.builtin "any") (fun xs H Q=>∃ p,∃ bs:List Bool,xs=[.ref p]∧SqL X.K H p (bs.map V.bl)∧Q (.bl (bs.any id)) H):=by
 intro pins s σ H xs us Q I r h
 obtain⟨p,bs,rfl,hq,q⟩:=h
 obtain⟨u,rfl,ru⟩:=zdw r
 obtain rfl:u=Value.ref p:=ru
 obtain⟨its,rv,pl,_⟩:=I.list hq
 obtain⟨cs,hcs,ch⟩:=I.hd.chain
 have hlt:p<s.heap.objs.size:=by obtain⟨o,e,_⟩:=pl.isList;exact Heap.lt_size e
 have hnc:s.heap.objs.size∉cs:=fun z=>Nat.lt_irrefl _ (ch.lt _ z)
 have hlen:its.length=bs.length:=by rw[← rv.length,List.length_map]
 refine call_any_walk (wpAny_pyIter_list pl.isList ⟨s.heap.objs.size,_,_,_,_,_,fun i=>bs.getD i true,rfl,zbv (A:=X.A.in1) hcs s.heap.objs.size p (Nat.ne_of_lt hlt) hnc its.toArray,⟨⟨_,Heap.get?_push_size _ rfl,rfl,rfl⟩,pl.isList.push _,ch.mono fun b o _ e=>Heap.get?_push_of_some _ e⟩,?_,fun h' tk hk=>?_⟩)
 ·intro i v s' Q' E' hv hQ'
  have hv':its[i]?=some v:=by simpa using hv
  rw[zfA rv hv']
  exact wpAny_truthy_bool hQ'
 ·have e:(List.range its.toArray.size).any (fun i=>bs.getD i true)=bs.any id:=by rw[List.size_toArray,hlen];exact zh3 bs true
  rw[e]
  exact⟨.bl _,H,I.kept fun b o e=>hk b o (fun z=>by
   have:b=s.heap.objs.size:=by simpa using z
   exact absurd (Heap.lt_size e) (by rw[this];exact Nat.lt_irrefl _)) (Heap.get?_push_of_some _ e),rfl,q⟩
end
end L2
namespace L2
open PySem PySem.Spec PyProof.Rows
section
variable {X:Cx}{K:PySem.W.Frag} (hK:X.K=K)
include hK
theorem zdB:IxR X (rIxL K):=hK ▸ zav
theorem za4:IxR X (rIxT K):=hK ▸ zbn
theorem zga {e:Expr}{f:Str}{pos:Pos}{ta:TE} (he:PE X e ta) (hb:attributeBase e f X.env (eval e X.env)=eval e X.env):PE X (.Attribute e f pos) (tFld K ta f):=hK ▸ zaJ he hb
theorem zdj {es:List Expr}{k:Nat}{pos:Pos}{t:TGs}{n:Nat} (hc:X.calm=true) (h:PGs X es t) (hn:(assignEach es X.env).length=n:=by rfl) (hst:(assignEach es X.env).findIdx? (·.1)=none:=by rfl):PG X (.Tuple es k pos) (gTup K n t):=hK ▸ zcZ hc h hn hst
def zkY (K:PySem.W.Frag):List V→Hp→VK→Prop:=fun xs H Q=>∃ p ys,xs=[.ref p]∧(SqL K H p ys∨SqT K H p ys)∧Q (.int ys.length) H
theorem zeP:zc2 X (.builtin "len") (zkY K):=by subst hK;exact zaS
end
end L2
namespace L2
open PySem PySem.Spec PyProof.Rows
section
variable {prog:Program}{w:World}{A:Around}{E:Value→Shared→Prop}{s:Shared}{cs:List Addr}
theorem zh4 (hc:HdC A cs) (I ax:Addr) (hne:ax≠I) (hI:I∉cs) (items:Array Value) :
  Walks prog w A I (I::ax::cs) [I] items.size (fun i v=>items[i]?=some v) (fun i h=>h.IsTupleIter I ax i∧h.IsTuple ax items∧Chn h cs) where
 sub:=fun b hb=>by simp at hb;simp[hb]
 frame:=fun _ _ _ st hk=>⟨st.1.at fun o e=>hk I (by simp) o e,st.2.1.at fun o e=>hk ax (by simp) o e,st.2.2.mono fun b o hb e=>hk b (by simp[hb]) o e⟩
 item:=fun i s Q E hi st hQ=>by
  refine wpAny_pyNext_tuple_item st.1 st.2.1 (x:=items[i]) (by simp[hi]) fun h' hit' hs'=>?_
  exact hQ _ h' s.toks (by simp[hi]) ⟨hit',st.2.1.extBut hs'.extBut hne,st.2.2.but hI hs'.extBut⟩ fun b o hb e=>hs'.extBut b o (fun h=>hb (by simp[h])) e
 done:=fun s Q E st hQ=>zgi (hc.hd st.2.2) st.1 st.2.1 (by simp) fun h' he'=>hQ h' s.toks fun b o hb e=>he' b o (fun h=>hb (by simp[h])) e
 self:=fun _ _ _ _ st hQ=>wpAny_pyIter_tupleiter st.1 hQ
theorem min2H {a b:Int}{t u:Tok}{Q:Value→Shared→Prop} (hc:HdC A cs) (ch:Chn s.heap cs)
  (h:∀ h' tk,(∀ c o,s.heap.get? c=some o→h'.get? c=some o)→Q (if b<a then .int b u else .int a t) { s with heap:=h',toks:=tk }) :
  wpAny (model prog w) A (call (.builtin "min") [.int a t,.int b u]) Q E s:=by
 have hT:(s.heap.push { cls:=.type "tuple",data:=.seq #[.int a t,.int b u] }).IsTuple s.heap.objs.size (intItems #[(a,t),(b,u)]):=⟨_,Heap.get?_push_size _ rfl,rfl,0,by simp[intItems]⟩
 refine call_min_two (wpAny_pyIter_tuple hT ?_)
 have hsz:(s.heap.push { cls:=.type "tuple",data:=.seq #[.int a t,.int b u] }).objs.size=s.heap.objs.size + 1:=Heap.size_push ..
 have ns:∀ k,s.heap.objs.size≤k→k∉cs:=fun k hk z=>absurd (ch.lt _ z) (Nat.not_lt.mpr hk)
 refine⟨_,_,[_],_,_,_,_,rfl,zh4 (A:=A.in1) hc _ s.heap.objs.size (by rw[hsz];exact Nat.ne_of_lt (Nat.lt_succ_self _)) (ns _ (by rw[hsz];exact Nat.le_succ _)) (intItems #[(a,t),(b,u)]),
  ⟨⟨_,Heap.get?_push_size _ rfl,rfl,rfl⟩,hT.push _,ch.mono fun b o _ e=>Heap.get?_push_of_some _ (Heap.get?_push_of_some _ e)⟩,fun c hc=>?_,by simp[intItems],CmpOf.ints_lt (numAt #[(a,t),(b,u)]) (fun _ _=>intItems_at),fun v h' tk hP hk=>?_⟩
 ·show c<((s.heap.push _).push _).objs.size
  rw[Heap.size_push,hsz]
  rcases List.mem_cons.mp hc with rfl|hc
  ·rw[hsz];exact Nat.lt_succ_self _
  ·rcases List.mem_cons.mp hc with rfl|hc
   ·exact Nat.lt_succ_of_lt (Nat.lt_succ_self _)
   ·exact Nat.lt_of_lt_of_le (ch.lt _ hc) (by omega)
 ·have hold:∀ c o,s.heap.get? c=some o→h'.get? c=some o:=fun c o e=>by
   refine hk c o (fun hm=>?_) (Heap.get?_push_of_some _ (Heap.get?_push_of_some _ e))
   have e1:=List.mem_singleton.mp hm
   have:=Heap.lt_size e
   rw[e1,hsz] at this
   exact Nat.lt_irrefl _ (Nat.lt_of_succ_lt this)
  have:=h h' tk hold
  have hv:v=if b<a then Value.int b u else Value.int a t:=by
   have hP':(intItems #[(a,t),(b,u)])[argBest (fun i j=>decide (numAt #[(a,t),(b,u)] i<numAt #[(a,t),(b,u)] j)) 1]?=some v:=by
    have hsz2:(intItems #[(a,t),(b,u)]).size - 1=1:=by simp[intItems]
    rw[← hsz2];exact hP
   by_cases hba:b<a
   ·have e:argBest (fun i j=>decide (numAt #[(a,t),(b,u)] i<numAt #[(a,t),(b,u)] j)) 1=1:=by simp[argBest,numAt,hba]
    rw[e] at hP'
    simpa [intItems,hba] using hP'.symm
   ·have e:argBest (fun i j=>decide (numAt #[(a,t),(b,u)] i<numAt #[(a,t),(b,u)] j)) 1=0:=by simp[argBest,numAt,hba]
    rw[e] at hP'
    simpa [intItems,hba] using hP'.symm
  rw[hv];exact this
section
variable {κ:Type} [DecidableEq κ] {knd:KeyKind prog w κ}
end
end
section
variable {X:Cx}
theorem zg4:zc2 X (.builtin "min") (fun xs H Q=>∃ i j,xs=[.int i,.int j]∧Q (.int (if j<i then j else i)) H):=by
 intro pins s σ H xs us Q I r h
 obtain⟨i,j,rfl,q⟩:=h
 obtain⟨u,w',rfl,⟨t,rfl⟩,⟨t',rfl⟩⟩:=zhz r
 obtain⟨cs,hcs,ch⟩:=I.hd.chain
 refine min2H hcs ch fun h' tk k=>⟨_,H,I.kept k,?_,q⟩
 by_cases hj:j<i
 ·rw[if_pos hj,if_pos hj];exact⟨_,rfl⟩
 ·rw[if_neg hj,if_neg hj];exact⟨_,rfl⟩
end
end L2
namespace L2
open PySem PySem.Spec PyProof.Rows
section
variable {prog:Program}{w:World}{A:Around}{E:Value→Shared→Prop}{s:Shared}{cs:List Addr}
end
section
variable {X:Cx}
theorem zbG {ns:List Int}{us:List Value} (r:zaX (ns.map V.int) us){i:Nat}{v:Value} (h:us[i]?=some v):∃ t,v=.int (ns.getD i 0) t:=by
 induction ns generalizing us i with
 | nil=>
  cases r
  simp at h
 | cons n ns ih=>
  cases r with
  | cons rv rr=>
   cases i with
   | zero=>
    obtain⟨t,rfl⟩:=rv
    simp at h
    exact⟨t,h.symm⟩
   | succ i=>exact ih rr (by simpa using h)
theorem zg5 (f:Nat→Int) (ns:List Int) (h:∀ i,f i=ns.getD i 0):preSum f ns.length=ns.sum:=by
 have e:f=fun i=>ns.getD i 0:=funext h
 rw[e,preSum_getD,List.take_length]
theorem zcC:zc2 X (.builtin "sum") (fun xs H Q=>∃ p,∃ ns:List Int,xs=[.ref p]∧SqL X.K H p (ns.map V.int)∧Q (.int ns.sum) H):=by
 intro pins s σ H xs us Q I r h
 obtain⟨p,ns,rfl,hq,q⟩:=h
 obtain⟨u,rfl,ru⟩:=zdw r
 obtain rfl:u=Value.ref p:=ru
 obtain⟨its,rv,pl,_⟩:=I.list hq
 obtain⟨cs,hcs,ch⟩:=I.hd.chain
 have hlt:p<s.heap.objs.size:=by obtain⟨o,e,_⟩:=pl.isList;exact Heap.lt_size e
 have hnc:s.heap.objs.size∉cs:=fun z=>Nat.lt_irrefl _ (ch.lt _ z)
 have hlen:its.length=ns.length:=by rw[← rv.length,List.length_map]
 refine call_sum_walkG (wpAny_pyIter_list pl.isList ⟨s.heap.objs.size,_,_,_,_,_,fun i=>ns.getD i 0,rfl,zbv (A:=X.A.in1) hcs s.heap.objs.size p (Nat.ne_of_lt hlt) hnc its.toArray,⟨⟨_,Heap.get?_push_size _ rfl,rfl,rfl⟩,pl.isList.push _,ch.mono fun b o _ e=>Heap.get?_push_of_some _ e⟩,?_,?_,fun h' tk t' hk=>?_⟩)
 ·intro b hb
  show b<(s.heap.push _).objs.size
  rw[Heap.size_push]
  rcases List.mem_cons.mp hb with rfl|hb
  ·exact Nat.lt_succ_self _
  ·rcases List.mem_cons.mp hb with rfl|hb
   ·exact Nat.lt_succ_of_lt hlt
   ·exact Nat.lt_succ_of_lt (ch.lt _ hb)
 ·intro i v hv
  exact zbG rv (by simpa using hv)
 ·have e:preSum (fun i=>ns.getD i 0) its.toArray.size=ns.sum:=by rw[List.size_toArray,hlen];exact zg5 _ _ fun _=>rfl
  rw[e]
  exact⟨.int _,H,I.kept fun b o e=>hk b o (fun z=>by
   have:b=s.heap.objs.size:=by simpa using z
   exact absurd (Heap.lt_size e) (by rw[this];exact Nat.lt_irrefl _)) (Heap.get?_push_of_some _ e),⟨_,rfl⟩,q⟩
end
end L2
namespace L2
open PySem
theorem zlT {P:List Value→Prop} (h:∀ a0,P [a0]):∀ us:List Value,us.length=1→P us
 | [a0],_=>h a0
theorem zh5 {P:List Value→Prop} (h:∀ a0 a1,P [a0,a1]):∀ us:List Value,us.length=2→P us
 | [a0,a1],_=>h a0 a1
theorem zj6 {P:List Value→Prop} (h:∀ a0 a1 a2,P [a0,a1,a2]):∀ us:List Value,us.length=3→P us
 | [a0,a1,a2],_=>h a0 a1 a2
theorem len5 {P:List Value→Prop} (h:∀ a0 a1 a2 a3 a4,P [a0,a1,a2,a3,a4]):∀ us:List Value,us.length=5→P us
 | [a0,a1,a2,a3,a4],_=>h a0 a1 a2 a3 a4
theorem zbw {A B:Prop}{b:Bool} (hb:b=false) (h:B):if b=true then A else B:=by
 subst hb
 exact zcL h
theorem zj7 {A B:Prop}{b:Bool} (hb:b=true) (h:A):if b=true then A else B:=by
 subst hb
 exact zd8 h
theorem zcT {A B:Prop}{b:Bool} (h1:b=true→A) (h2:b=false→B):if b=true then A else B:=by
 cases b with
 | true=>exact zd8 (h1 rfl)
 | false=>exact zcL (h2 rfl)
def isTup:HO→Bool
 | .tup _=>true
 | .frz _ (.tup _)=>true
 | _=>false
def Tk (H H':Hp):Prop:=∀ b o,H b=some o→isTup o=true→H' b=some o
theorem Tk.upd {H:Hp}{c:Addr}{u o:HO} (h:H c=some u) (n:isTup u=false):Tk H (L2.upd H c o):=fun b w e z=>by
 have:b≠c:=fun q=>by subst q;rw[h] at e;cases e;rw[n] at z;cases z
 rw[zag this]
 exact e
theorem Tk.sqT {K:PySem.W.Frag}{H H':Hp}{a:Addr}{xs:List V} (e:Tk H H') (h:SqT K H a xs):SqT K H' a xs:=by
 rcases h with(h|⟨o,h⟩)|h
 ·exact .inl (.inl (e _ _ h rfl))
 ·exact .inl (.inr ⟨o,e _ _ h rfl⟩)
 ·exact .inr h
mutual
def zjq:Dt→Bool
 | .lst _=>false
 | .tup ds=>zfC ds
 | _=>true
def zfC:List Dt→Bool
 | []=>true
 | d::ds=>zjq d && zfC ds
end
mutual
theorem Tk.dt {K:PySem.W.Frag}{H H':Hp} (e:Tk H H'):∀ {d:Dt}{x:V},zjq d=true→DtV K H d x→DtV K H' d x
 | .non,_,_,h=>h
 | .bl _,_,_,h=>h
 | .int _,_,_,h=>h
 | .str _,_,_,h=>h
 | .lst ds,_,z,h=>by cases z
 | .tup ds,_,z,h=>by
  obtain⟨a,xs,e1,h1,h2⟩:=h
  exact⟨a,xs,e1,e.sqT h1,e.dts z h2⟩
theorem Tk.dts {K:PySem.W.Frag}{H H':Hp} (e:Tk H H'):∀ {ds:List Dt}{xs:List V},zfC ds=true→zb4 K H ds xs→zb4 K H' ds xs
 | [],_,_,h=>h
 | d::ds,_,z,h=>by
  obtain⟨y,ys,e1,h1,h2⟩:=h
  have z':=(Bool.and_eq_true _ _).mp z
  exact⟨y,ys,e1,e.dt z'.1 h1,e.dts z'.2 h2⟩
end
theorem zaD {α:Type}{f:α→Dt} (h:∀ x,zjq (f x)=true):∀ l:List α,zfC (l.map f)=true
 | []=>rfl
 | x::l=>by
  show(zjq (f x) && zfC (l.map f))=true
  rw[h x,zaD h l]
  rfl
theorem zfD {α:Type}{f:α→Dt}{n:Nat} (h:∀ x,zdb n (f x)) (l:List α):za6 n (l.map f):=za6.of fun d hd=>by
 obtain⟨x,_,rfl⟩:=List.mem_map.mp hd
 exact h x
theorem zaR {K:PySem.W.Frag}{H:Hp}{α:Type}{f:α→Dt}{l:List α}{xs:List V}{i:Nat}{x:V} (h:zb4 K H (l.map f) xs) (e:xs[i]?=some x):∃ q,l[i]?=some q∧DtV K H (f q) x:=by
 have hi:i<l.length:=by
  have h1:=h.length
  rw[List.length_map] at h1
  have:=(List.getElem?_eq_some_iff.mp e).1
  omega
 obtain⟨q,hq⟩:=zbo hi
 obtain⟨y,hy,hd⟩:=h.get (j:=i) (d:=f q) (by rw[List.getElem?_map,hq];rfl)
 rw[e] at hy
 cases hy
 exact⟨q,hq,hd⟩
theorem zan {α:Type}{l:List α}{i:Nat}{q:α} (h:l[i]?=some q):l.take (i + 1)=l.take i++[q]:=by
 rw[List.take_add_one,h]
 rfl
theorem at_int {ns:List Int}{k:Int} (h0:0≤k) (h1:k<ns.length):∃ c,atI (ns.map V.int) k=some (.int c):=by
 refine⟨ns.getD k.toNat 0,?_⟩
 unfold atI ixN
 rw[if_pos h0,if_pos (by rw[List.length_map];exact h1)]
 show(ns.map V.int)[k.toNat]?=_
 rw[List.getElem?_map,List.getD_eq_getElem?_getD,List.getElem?_eq_getElem (show k.toNat<ns.length by omega)]
 rfl
theorem zjr (ns:List Int) (lo hi:Option Int):∃ ms:List Int,zjd (ns.map V.int) lo hi=ms.map V.int∧ms.length≤ns.length:=by
 refine⟨(ns.drop (HT.sIx (ns.map V.int).length 0 lo)).take (HT.sIx (ns.map V.int).length (ns.map V.int).length hi - HT.sIx (ns.map V.int).length 0 lo),?_,?_⟩
 ·unfold zjd
  rw[List.map_take,List.map_drop]
 ·rw[List.length_take,List.length_drop]
  omega
theorem zdZ {α:Type}{f:St→Hp→Prop} (σ:α→St) (I:α→Hp→Prop){G:Prop} (h:∀ x H,I x H→f (σ x) H) (g:(∀ x H,I x H→f (σ x) H)→G):G:=g h
def pz (ps:List Int) (k:Int):Int:=ps.getD k.toNat 0
theorem at_pz {ps:List Int}{k:Int} (h0:0≤k) (h1:k<ps.length):atI (ps.map V.int) k=some (.int (pz ps k)):=by
 unfold atI ixN pz
 rw[if_pos h0,if_pos (by rw[List.length_map];exact h1)]
 show(ps.map V.int)[k.toNat]?=_
 rw[List.getElem?_map,List.getD_eq_getElem?_getD,List.getElem?_eq_getElem (show k.toNat<ps.length by omega)]
 rfl
theorem zdr {n:Nat}{k:Int} (h0:0≤k) (h1:k<n):ixN n k=some k.toNat:=by
 unfold ixN
 rw[if_pos h0,if_pos h1]
theorem zch {α:Type}{xs:List α}{k:Int} (h0:0≤k):atI xs k=xs[k.toNat]?:=by
 unfold atI ixN
 rw[if_pos h0]
 by_cases h:k<xs.length
 ·rw[if_pos h];rfl
 ·rw[if_neg h]
  show none=_
  rw[List.getElem?_eq_none (by omega)]
theorem zgw {K:PySem.W.Frag}{H:Hp}:∀ ns:List Int,zb4 K H (ns.map Dt.int) (ns.map V.int)
 | []=>rfl
 | _::r=>⟨_,_,rfl,rfl,zgw r⟩
theorem zg6 {n:Nat} (ns:List Int):za6 n (ns.map Dt.int):=zfD (fun _=>by cases n <;> trivial) _
end L2
namespace L2
open PySem PySem.Spec PyProof.Rows
def Ite (K:PySem.W.Frag) (l:Addr):It:=
  ⟨fun i H=>∃ xs x,SqL K H l xs∧xs[i]?=some x,
   fun i H v H'=>∃ T x,v=.ref T∧H T=none∧H'=upd H T (.tup [.int i,x])∧∀ xs,SqL K H l xs→xs[i]?=some x,
   fun i H=>∃ xs,SqL K H l xs∧xs.length≤i⟩
section
variable {prog:Program}{w:World}{A:Around}{E:Value→Shared→Prop}{s:Shared}
theorem zh6 {e it l:Addr}{i:Nat}{items:Array Value}{old:Value}{Q:Option Value→Shared→Prop} (hd:Hd A s.heap)
  (he:IsEnum s.heap e it i old) (hit:s.heap.IsListIter it l i) (hl:s.heap.IsList l items) (hx:items[i]?=none)
  (hQ:∀ h',Heap.ExtBut it s.heap h'→Q none { s with heap:=h' }):wpAny (model prog w) A (pyNext (.ref e)) Q E s:=by
 have ht:s.TypeIs (.ref e) "enumerate":=⟨_,he,rfl⟩
 unfold pyNext
 refine wpAny_bind (wpAny_attempt (wpAny_callSpecial?_slot (name:=Str.ofString "__next__") ht F.slot_enumerate_next (wpAny_call_entry F.slot_enumerate_next ht F.entry_enumerate_next ?_ (F.args_enumerate_next_1 _))))
 refine(show wpAny _ _ (field (.ref e) 2 >>= _) _ _ _ from wpAny_bind (wpAny_field he rfl (x:=.ref it) rfl ?_))
 refine wpAny_bind (zdW (A:=A.in1) hd hit hl hx fun h' x he' hx'=>?_)
 obtain⟨o,ho,hc⟩:=hx'
 exact wpAny_bind (wpAny_isInstance (T:="StopIteration") (b:=true) ⟨o,ho,hc⟩ isSubtype_stop (wpAny_pure (hQ _ he')))
end
def EnumIt (h:Heap) (e it l:Addr) (i:Nat):Prop:=∃ old,IsEnum h e it (i:Int) old∧h.IsListIter it l i
theorem zh7 {P:Program}{w:World}{K:PySem.W.Frag}{es:List Expr}{k:Nat}{pos:Pos}{e it l:Addr} (hne:e≠it) :
  zkv P w K (.Tuple es k pos) (Ite K l) [e,it] e (fun i h=>EnumIt h e it l i) where
 mem:=by simp
 obj:=fun i h st b hb=>by
  obtain⟨old,he,⟨o1,e1,c1,d1⟩⟩:=st
  simp only[List.mem_cons,List.not_mem_nil,or_false] at hb
  rcases hb with rfl|rfl
  ·exact⟨_,he,fun v q=>by simp at q⟩
  ·exact⟨_,e1,fun v q=>by rw[d1] at q;cases q⟩
 keep:=fun i h h' st k=>by
  obtain⟨old,he,h1⟩:=st
  exact⟨old,k e (by simp) _ he,h1.at fun o q=>k it (by simp) o q⟩
 item:=by
  intro X hP hw hK hc i pins s σ H E I hf st hg
  subst hP hw hK
  obtain⟨xs,x,q1,hx⟩:=hg
  obtain⟨old,he,h1⟩:=st
  obtain⟨its,rv,pl,_⟩:=I.list q1
  obtain⟨u,hu,ru⟩:=rv.get hx
  have nf:∀ b∈[e,it],b∉frs X.stack:=fun b hb q=>(List.mem_cons.mp (I.stkSub b q)).elim (hf b hb).2.1 (hf b hb).2.2.1
  refine wpAny_pyNext_enum_item he h1 pl.isList (x:=u) (by simpa using hu) hne fun h' a1 a2 a3 a4 hk=>⟨_,rfl,?_⟩
  refine wpAny_letOwnedTupleGo_enum (s:={ s with heap:=h',toks:=s.toks + 1 }) a1 fun h'' hz' hs'=>?_
  replace hs':Heap.SameBut e h' h'':=hs'
  have hTn:H s.heap.objs.size=none:=I.hok.fresh (Nat.le_refl _)
  have lte:=Heap.lt_size he
  have old':∀ b o,b≠e→b≠it→s.heap.get? b=some o→h''.get? b=some o:=fun b o n1 n2 q=>hs'.extBut b o n1 (hk b o n1 n2 q)
  have I1:Inv X pins σ (upd H s.heap.objs.size (.tup [.int i,x])) { s with heap:=s.heap.push { cls:=.type "tuple",data:=.seq #[.int i s.toks,u] },toks:=s.toks + 1 }:=
   I.laid (t':=s.toks + 1) (fun b o q=>Heap.get?_push_of_some _ q) (Nat.le_refl _) ⟨by show 2≤sizeLine;decide,[.int i s.toks,u],.cons ⟨_,rfl⟩ (.cons ru .nil),⟨_,Heap.get?_push_size _ rfl,rfl,_,rfl⟩⟩
  have fp1:∀ b∈[e,it],zcm X pins (upd H s.heap.objs.size (.tup [.int i,x])) b:=fun b hb=>by
   obtain⟨f0,r⟩:=hf b hb
   refine⟨?_,r⟩
   have lt:b<s.heap.objs.size:=by
    simp only[List.mem_cons,List.not_mem_nil,or_false] at hb
    rcases hb with rfl|rfl
    ·exact lte
    ·obtain⟨o,q,_⟩:=h1;exact Heap.lt_size q
   rw[zag (Nat.ne_of_lt lt)];exact f0
  have I2:Inv X pins σ (upd H s.heap.objs.size (.tup [.int i,x])) { s with heap:=h'',toks:=s.toks + 1 }:=by
   have back:∀ b o,(s.heap.push { cls:=.type "tuple",data:=.seq #[.int i s.toks,u] }).get? b=some o→b≠e→b≠it→h''.get? b=some o:=fun b o q n1 n2=>by
    rcases Heap.get?_push_cases q with⟨rfl,rfl⟩|q
    ·exact hs'.extBut _ _ n1 a3
    ·exact old' b o n1 n2 q
   refine I1.slots (ch:=[e,it]) (tk:=s.toks + 1) fp1 (fun b o _ hc q=>?_) (fun b o hb q=>⟨o.slots,?_⟩) (fun b hb o q=>?_)
   ·simp only[List.mem_cons,List.not_mem_nil,or_false,not_or] at hc
    exact back b o q hc.1 hc.2
   ·exact back b o q (fun z=>nf e (by simp) (z ▸ hb)) (fun z=>nf it (by simp) (z ▸ hb))
   ·simp only[List.mem_cons,List.not_mem_nil,or_false] at hb
    rcases hb with rfl|rfl
    ·exact⟨_,hz'⟩
    ·obtain⟨o,q,_⟩:=a2;exact⟨_,hs'.extBut _ _ hne.symm q⟩
  refine⟨.ref s.heap.objs.size,_,I2,rfl,⟨_,x,rfl,hTn,rfl,fun xs' q=>by rw[I.list_inj q q1];exact hx⟩,?_,fun b hb=>(fp1 b hb).1⟩
  exact⟨u,hz',a2.extBut hs'.extBut hne.symm⟩
 done:=by
  intro X hP hw hK hc i pins s σ H E I hf st hg
  subst hP hw hK
  obtain⟨xs,q1,hlen⟩:=hg
  obtain⟨old,he,h1⟩:=st
  obtain⟨its,rv,pl,_⟩:=I.list q1
  have e1:=rv.length
  have nf:∀ b∈[e,it],b∉frs X.stack:=fun b hb q=>(List.mem_cons.mp (I.stkSub b q)).elim (hf b hb).2.1 (hf b hb).2.2.1
  refine zh6 I.hd he h1 pl.isList (by simp;omega) fun h' hk=>⟨rfl,?_⟩
  refine I.slot0 (ch:=[e,it]) (tk:=s.toks) hf (fun b o _ hc q=>?_) (fun b o hb q=>⟨o.slots,?_⟩)
  ·simp only[List.mem_cons,List.not_mem_nil,or_false,not_or] at hc
   exact hk b o hc.2 q
  ·exact hk b o (fun z=>nf it (by simp) (z ▸ hb)) q
 self:=fun _ _ s _ _ st h=>by
  obtain⟨old,he,_⟩:=st
  exact wpAny_pyIter_enum he h
def iEnum (K:PySem.W.Frag) (ta:TA):TI:=fun σ H R=>ta σ H fun vs H1=>∃ l,vs=[.ref l]∧(∃ xs,SqL K H1 l xs)∧R (Ite K l) H1
section
variable {X:Cx}
theorem zcv {es:List Expr}{k:Nat}{tpos p pos:Pos}{a:Expr}{ta:TA} (hg:Gl X "enumerate") (hm:X.mg "enumerate"=none) (ha:PA X [a] ta) (hs:starEach [a] X.env=[(false,eval a X.env)]:=by rfl) :
  PI X (.Tuple es k tpos) (.Call (.Name "enumerate" p) [a] [] pos) (iEnum X.K ta):=by
 intro pins s σ H R I h
 refine Call_ (zcn I hg hm boot_enumerate (PyProof.Rows.callWith_type1 (thn (ha pos pins s σ H _ I h) fun us s1=>L2.ex5 fun vs H1 I1 r1 hq_=>?_) hs rfl))
 obtain⟨l,e,⟨xs,q1⟩,q⟩:=hq_
 subst e
 obtain⟨u,rfl,ru⟩:=zdw r1
 obtain rfl:u=Value.ref l:=ru
 obtain⟨its,rv,pl,_⟩:=I1.list q1
 refine call_enumerate_list pl.isList fun h' b1 b2 b3 hk=>?_
 refine wpAny_pyIter_enum (s:={ s1 with heap:=h' }) b1 ?_
 refine⟨s1.heap.objs.size + 1,[s1.heap.objs.size + 1,s1.heap.objs.size],_,_,H1,rfl,I1.kept (t':=s1.toks) hk,zh7 (Nat.ne_of_gt (Nat.lt_succ_self _)),⟨_,b1,b2⟩,fun b hb=>?_,q⟩
 have ge:s1.heap.objs.size≤b:=by
  simp only[List.mem_cons,List.not_mem_nil,or_false] at hb
  rcases hb with rfl|rfl
  ·exact Nat.le_add_right _ _
  ·exact Nat.le_refl _
 exact I1.fpOk ge (I1.hok.fresh ge)
theorem zeQ {K:PySem.W.Frag}{l:Addr}{xs:List V}{g:TG}{tb:TS}{D:zfd}{σ:St}{H:Hp} (Pv:Nat→St→Hp→Prop) (h0:Pv 0 σ H) (hl:∀ i σ H,i≤xs.length→Pv i σ H→SqL K H l xs)
  (hs:∀ i x T σ H,xs[i]?=some x→H T=none→Pv i σ H→g (.ref T) σ (upd H T (.tup [.int i,x])) fun σ2 H2=>tb { D with nx:=Pv (i + 1),ct:=Pv (i + 1),bk:=D.nx } σ2 H2) (hd:∀ σ H,Pv xs.length σ H→D.nx σ H) :
  ∃ W:Nat→Nat→St→Hp→Prop,(∃ m,W 0 m σ H)∧∀ i m σ H,W i m σ H →
   ((Ite K l).stop i H∧D.nx σ H)∨((Ite K l).go i H∧∃ N:St→Hp→Prop,(∀ σ' H',N σ' H'→∃ m',m'<m∧W (i + 1) m' σ' H')∧∀ x H',(Ite K l).yld i H x H'→g x σ H' fun σ2 H2=>tb { D with nx:=N,ct:=N,bk:=D.nx } σ2 H2):=by
 refine⟨fun i m σ H=>m=xs.length - i∧i≤xs.length∧Pv i σ H,⟨xs.length,by simp,Nat.zero_le _,h0⟩,?_⟩
 rintro i m σ H ⟨rfl,hi,p⟩
 have q:=hl i σ H hi p
 by_cases hlt:i<xs.length
 ·refine .inr ⟨⟨xs,xs[i],q,by simp[hlt]⟩,Pv (i + 1),fun σ' H' p'=>⟨xs.length - (i + 1),by omega,rfl,hlt,p'⟩,fun v H' y=>?_⟩
  obtain⟨T,x,rfl,hT,rfl,hx⟩:=y
  exact hs i x T σ H (hx xs q) hT p
 ·have e:i=xs.length:=by omega
  subst e
  exact .inl ⟨⟨xs,q,Nat.le_refl _⟩,hd σ H p⟩
theorem zh8 {K:PySem.W.Frag}{l1 l2:Addr}{xs ys:List V}{g:TG}{tb:TS}{D:zfd}{σ:St}{H:Hp} (hlen:xs.length=ys.length) (Pv:Nat→St→Hp→Prop) (h0:Pv 0 σ H) (hl:∀ i σ H,i≤xs.length→Pv i σ H→SqL K H l1 xs∧SqL K H l2 ys)
  (hs:∀ i x y T σ H,xs[i]?=some x→ys[i]?=some y→H T=none→Pv i σ H→g (.ref T) σ (upd H T (.tup [x,y])) fun σ2 H2=>tb { D with nx:=Pv (i + 1),ct:=Pv (i + 1),bk:=D.nx } σ2 H2) (hd:∀ σ H,Pv xs.length σ H→D.nx σ H) :
  ∃ W:Nat→Nat→St→Hp→Prop,(∃ m,W 0 m σ H)∧∀ i m σ H,W i m σ H →
   ((Itz K l1 l2).stop i H∧D.nx σ H)∨((Itz K l1 l2).go i H∧∃ N:St→Hp→Prop,(∀ σ' H',N σ' H'→∃ m',m'<m∧W (i + 1) m' σ' H')∧∀ x H',(Itz K l1 l2).yld i H x H'→g x σ H' fun σ2 H2=>tb { D with nx:=N,ct:=N,bk:=D.nx } σ2 H2):=by
 refine⟨fun i m σ H=>m=xs.length - i∧i≤xs.length∧Pv i σ H,⟨xs.length,by simp,Nat.zero_le _,h0⟩,?_⟩
 rintro i m σ H ⟨rfl,hi,p⟩
 obtain⟨q1,q2⟩:=hl i σ H hi p
 by_cases hlt:i<xs.length
 ·have hlt':i<ys.length:=by omega
  refine .inr ⟨⟨xs,ys,xs[i],ys[i],q1,q2,by simp[hlt],by simp[hlt']⟩,Pv (i + 1),fun σ' H' p'=>⟨xs.length - (i + 1),by omega,rfl,hlt,p'⟩,fun v H' y=>?_⟩
  obtain⟨T,x,y,rfl,hT,rfl,hx,hy⟩:=y
  exact hs i x y T σ H (hx xs q1) (hy ys q2) hT p
 ·have e:i=xs.length:=by omega
  subst e
  exact .inl ⟨⟨xs,ys,q1,q2,.inl (Nat.le_refl _)⟩,hd σ H p⟩
end
end L2
namespace L2
open PySem PySem.Spec PyProof.Rows
theorem zdC {ns:List Int}{i:Nat} (h:i<ns.length):ns.getD i 0∈ns:=by
 rw[List.getD_eq_getElem?_getD,List.getElem?_eq_getElem h]
 exact List.getElem_mem h
theorem zdD {ns:List Int}{x:Int} (h:x∈ns):∃ j,j<ns.length∧ns.getD j 0=x:=by
 obtain⟨j,hj,e⟩:=List.getElem_of_mem h
 exact⟨j,hj,by rw[List.getD_eq_getElem?_getD,List.getElem?_eq_getElem hj];exact e⟩
theorem zer (f:Nat→Int):∀ k,argBest (fun i j=>decide (f i<f j)) k≤k∧∀ j,j≤k→f (argBest (fun i j=>decide (f i<f j)) k)≤f j
 | 0=>⟨Nat.le_refl _,fun j hj=>by rw[Nat.le_zero.mp hj];exact Int.le_refl _⟩
 | k + 1=>by
  obtain⟨h1,h2⟩:=zer f k
  by_cases hb:f (k + 1)<f (argBest (fun i j=>decide (f i<f j)) k)
  ·have e:argBest (fun i j=>decide (f i<f j)) (k + 1)=k + 1:=by simp[argBest,hb]
   rw[e]
   refine⟨Nat.le_refl _,fun j hj=>?_⟩
   rcases Nat.lt_or_ge j (k + 1) with z|z
   ·have:=h2 j (by omega);omega
   ·rw[show j=k + 1 by omega];exact Int.le_refl _
  ·have e:argBest (fun i j=>decide (f i<f j)) (k + 1)=argBest (fun i j=>decide (f i<f j)) k:=by simp[argBest,hb]
   rw[e]
   refine⟨by omega,fun j hj=>?_⟩
   rcases Nat.lt_or_ge j (k + 1) with z|z
   ·exact h2 j (by omega)
   ·rw[show j=k + 1 by omega];omega
theorem zcD (f:Nat→Int):∀ k,argBest (fun i j=>decide (f i > f j)) k≤k∧∀ j,j≤k→f (argBest (fun i j=>decide (f i > f j)) k) ≥ f j
 | 0=>⟨Nat.le_refl _,fun j hj=>by rw[Nat.le_zero.mp hj];exact Int.le_refl _⟩
 | k + 1=>by
  obtain⟨h1,h2⟩:=zcD f k
  by_cases hb:f (k + 1) > f (argBest (fun i j=>decide (f i > f j)) k)
  ·have e:argBest (fun i j=>decide (f i > f j)) (k + 1)=k + 1:=by simp[argBest,hb]
   rw[e]
   refine⟨Nat.le_refl _,fun j hj=>?_⟩
   rcases Nat.lt_or_ge j (k + 1) with z|z
   ·have:=h2 j (by omega);omega
   ·rw[show j=k + 1 by omega];exact Int.le_refl _
  ·have e:argBest (fun i j=>decide (f i > f j)) (k + 1)=argBest (fun i j=>decide (f i > f j)) k:=by simp[argBest,hb]
   rw[e]
   refine⟨by omega,fun j hj=>?_⟩
   rcases Nat.lt_or_ge j (k + 1) with z|z
   ·exact h2 j (by omega)
   ·rw[show j=k + 1 by omega];omega
section
variable {prog:Program}{w:World}{A:Around}{R:Result→Shared→Prop}{I:Addr}{fp wr:List Addr}{n:Nat}{P:Nat→Value→Prop}{St:Nat→Heap→Prop}
end
section
variable {X:Cx}
theorem zfE:zc2 X (.builtin "min") (fun xs H Q=>∃ p,∃ ns:List Int,xs=[.ref p]∧SqL X.K H p (ns.map V.int)∧ns≠[]∧∀ m∈ns,(∀ x∈ns,m≤x)→Q (.int m) H):=by
 intro pins s σ H xs us Q I r h
 obtain⟨p,ns,rfl,hq,hne,q⟩:=h
 obtain⟨u,rfl,ru⟩:=zdw r
 obtain rfl:u=Value.ref p:=ru
 obtain⟨its,rv,pl,_⟩:=I.list hq
 obtain⟨cs,hcs,ch⟩:=I.hd.chain
 have hlt:p<s.heap.objs.size:=by obtain⟨o,e,_⟩:=pl.isList;exact Heap.lt_size e
 have hnc:s.heap.objs.size∉cs:=fun z=>Nat.lt_irrefl _ (ch.lt _ z)
 have hlen:its.length=ns.length:=by rw[← rv.length,List.length_map]
 have hpos:0<ns.length:=List.length_pos_iff.mpr hne
 refine call_min_walk (wpAny_pyIter_list pl.isList ⟨s.heap.objs.size,_,_,_,_,_,fun i j=>decide (ns.getD i 0<ns.getD j 0),rfl,zbv (A:=X.A.in1) hcs s.heap.objs.size p (Nat.ne_of_lt hlt) hnc its.toArray,⟨⟨_,Heap.get?_push_size _ rfl,rfl,rfl⟩,pl.isList.push _,ch.mono fun b o _ e=>Heap.get?_push_of_some _ e⟩,?_,by simp;omega,CmpOf.ints_lt (fun i=>ns.getD i 0) fun i v hv=>zbG rv (by simpa using hv),fun v h' tk hv hk=>?_⟩)
 ·intro b hb
  show b<(s.heap.push _).objs.size
  rw[Heap.size_push]
  rcases List.mem_cons.mp hb with rfl|hb
  ·exact Nat.lt_succ_self _
  ·rcases List.mem_cons.mp hb with rfl|hb
   ·exact Nat.lt_succ_of_lt hlt
   ·exact Nat.lt_succ_of_lt (ch.lt _ hb)
 ·have hv':its.toArray[argBest (fun i j=>decide (ns.getD i 0<ns.getD j 0)) (its.toArray.size - 1)]?=some v:=hv
  rw[List.getElem?_toArray] at hv'
  obtain⟨t,rfl⟩:=zbG rv hv'
  obtain⟨b1,b2⟩:=zer (fun i=>ns.getD i 0) (its.toArray.size - 1)
  have e1:its.toArray.size=ns.length:=by simp[hlen]
  rw[e1] at b1 b2
  have hk2:∀ b o,s.heap.get? b=some o→h'.get? b=some o:=fun b o e=>hk b o (fun z=>by
   have:b=s.heap.objs.size:=by simpa using z
   exact absurd (Heap.lt_size e) (by rw[this];exact Nat.lt_irrefl _)) (Heap.get?_push_of_some _ e)
  refine⟨.int _,H,I.kept hk2,⟨_,rfl⟩,?_⟩
  rw[e1]
  exact q _ (zdC (by omega)) fun x hx=>by
   obtain⟨j,hj,rfl⟩:=zdD hx
   exact b2 j (by omega)
end
section
variable {prog:Program}{w:World}{A:Around}{R:Result→Shared→Prop}{I:Addr}{fp wr:List Addr}{n:Nat}{P:Nat→Value→Prop}{St:Nat→Heap→Prop}
theorem zh9 (kw:List (Str×Value)) (W:Walks prog w A.in1 I fp wr n P St) (bt:Nat→Nat→Bool) (hcmp:CmpOf prog w A.in1 .Gt P bt) (S:Addr) (hSf:S∉fp) :
  ∀ (k j:Nat) (s:Shared) (vb:Value) (c:Nat),n - (j + 1)=k→j + 1≤n→St (j + 1) s.heap→P (argBest bt j) vb→s.heap.get? S=some { cls:=.type "list",dict:=none,data:=.seq #[vb,vb] c,slots:=#[] } →
  (∀ v h' tk,P (argBest bt (n - 1)) v→(∀ b o,b∉wr→b≠S→s.heap.get? b=some o→h'.get? b=some o)→R (.ok (.ret v)) { s with heap:=h',toks:=tk }) →
  codeAny (model prog w) A (.builtin "max.loop" ⟨[.ref I,.none,.ref S],kw⟩) R s:=by
 have hSw:S∉wr:=fun h=>hSf (W.sub _ h)
 have hnm:(toString "max"++toString ".loop":String)="max.loop":=by decide
 intro k
 induction k with
 | zero=>
  intro j s vb c hk hj hst hPb hS hR
  have hin:j + 1=n:=by omega
  refine codeAny_builtin F.entry_max_loop ?_
  rw[Around.under_plainId F.plain_max_loop _]
  refine(show wpAny _ A.in1 (seqItems? (.ref S) >>= _) _ _ s from wpAny_bind (wpAny_seqItems hS rfl ?_))
  refine(show wpAny _ A.in1 (tryCatch (pyNext (.ref I)) _ >>= _) _ _ s from wpAny_bind (wpAny_tryCatch (W.done s _ _ (hin ▸ hst) fun h' tk hk'=>?_)))
  refine(show wpAny _ A.in1 (updateSeq S (fun _=>#[]) >>= _) _ _ _ from wpAny_bind (wpAny_updateSeq (hk' S _ hSw hS) rfl (wpAny_bind (wpAny_letGo (wpAny_pure ?_)))))
  exact hR vb _ tk (by rw[← hin];exact hPb) fun b o hbw hbS e=>(Heap.get?_update_other _ _ (Ne.symm hbS)).trans (hk' b o hbw e)
 | succ k ih=>
  intro j s vb c hk hj hst hPb hS hR
  have hlt:j + 1<n:=by omega
  refine codeAny_builtin F.entry_max_loop ?_
  rw[Around.under_plainId F.plain_max_loop _]
  refine(show wpAny _ A.in1 (seqItems? (.ref S) >>= _) _ _ s from wpAny_bind (wpAny_seqItems hS rfl ?_))
  refine(show wpAny _ A.in1 (tryCatch (pyNext (.ref I)) _ >>= _) _ _ s from wpAny_bind (wpAny_tryCatch (W.item (j + 1) s _ _ hlt hst fun v h' tk hP hst' hk'=>?_)))
  have hS':=hk' S _ hSw hS
  refine(show wpAny _ A.in1 (tryCatch (holding [v,v] (richCompare .Gt v vb >>= _)) _ >>= _) _ _ _ from wpAny_bind (wpAny_tryCatch (wpAny_holding (wpAny_bind (hcmp (j + 1) (argBest bt j) v vb _ _ _ hP hPb ?_)))))
  refine wpAny_bind (wpAny_holding (wpAny_truthy_bool (wpAny_bind (wpAny_letGo (wpAny_pure ?_)))))
  cases hb:bt (j + 1) (argBest bt j) with
  | true=>
   simp only[if_true]
   refine wpAny_bind (wpAny_updateSeq hS' rfl (wpAny_bind (wpAny_letGo ?_)))
   rw[hnm]
   refine wpAny_pure ⟨plainId_quiet F.plain_max_loop _,ih (j + 1) _ v _ (by omega) hlt (W.frame _ _ _ hst' fun b hbf o e=>(Heap.get?_update_other _ _ (fun h:S=b=>hSf (by rw[h];exact hbf))).trans e) (by simp only[argBest,hb,if_true];exact hP) (Heap.get?_update_self _ hS' rfl) fun v' h'' tk'' hP' hk''=>?_⟩
   exact hR v' h'' tk'' hP' fun b o hbw hbS e=>hk'' b o hbw hbS ((Heap.get?_update_other _ _ (Ne.symm hbS)).trans (hk' b o hbw e))
  | false=>
   simp only[Bool.false_eq_true,if_false]
   refine wpAny_bind (wpAny_letGo ?_)
   rw[hnm]
   exact wpAny_pure ⟨plainId_quiet F.plain_max_loop _,ih (j + 1) _ vb c (by omega) hlt hst' (by simp only[argBest,hb,Bool.false_eq_true,if_false];exact hPb) hS' fun v' h'' tk'' hP' hk''=>hR v' h'' tk'' hP' fun b o hbw hbS e=>hk'' b o hbw hbS (hk' b o hbw e)⟩
theorem zes (kw:List (Str×Value)) (W:Walks prog w A.in1 I fp wr n P St) (bt:Nat→Nat→Bool) (hcmp:CmpOf prog w A.in1 .Gt P bt) (S:Addr) (hSf:S∉fp) (hn:0<n){s:Shared}{c:Nat} (hst:St 0 s.heap)
  (hS:s.heap.get? S=some { cls:=.type "list",dict:=none,data:=.seq #[] c,slots:=#[] })
  (hR:∀ v h' tk,P (argBest bt (n - 1)) v→(∀ b o,b∉wr→b≠S→s.heap.get? b=some o→h'.get? b=some o)→R (.ok (.ret v)) { s with heap:=h',toks:=tk }) :
  codeAny (model prog w) A (.builtin "max.loop" ⟨[.ref I,.none,.ref S],kw⟩) R s:=by
 have hSw:S∉wr:=fun h=>hSf (W.sub _ h)
 have hnm:(toString "max"++toString ".loop":String)="max.loop":=by decide
 refine codeAny_builtin F.entry_max_loop ?_
 rw[Around.under_plainId F.plain_max_loop _]
 refine(show wpAny _ A.in1 (seqItems? (.ref S) >>= _) _ _ s from wpAny_bind (wpAny_seqItems hS rfl ?_))
 refine(show wpAny _ A.in1 (tryCatch (pyNext (.ref I)) _ >>= _) _ _ s from wpAny_bind (wpAny_tryCatch (W.item 0 s _ _ hn hst fun v h' tk hP hst' hk'=>?_)))
 have hS':=hk' S _ hSw hS
 refine(show wpAny _ A.in1 (updateSeq S (fun _=>#[v,v]) >>= _) _ _ _ from wpAny_bind (wpAny_updateSeq hS' rfl ?_))
 rw[hnm]
 exact wpAny_pure ⟨plainId_quiet F.plain_max_loop _,zh9 kw W bt hcmp S hSf _ 0 _ v _ rfl hn (W.frame _ _ _ hst' fun b hbf o e=>(Heap.get?_update_other _ _ (fun h:S=b=>hSf (by rw[h];exact hbf))).trans e) hP (Heap.get?_update_self _ hS' rfl) fun v' h'' tk'' hP' hk''=>hR v' h'' tk'' hP' fun b o hbw hbS e=>hk'' b o hbw hbS ((Heap.get?_update_other _ _ (Ne.symm hbS)).trans (hk' b o hbw e))⟩
theorem zfF (W:Walks prog w A.in1 I fp wr 0 P St) (S:Addr) (hSf:S∉fp){s:Shared}{c:Nat}{nm:Str}{d:Value} (hst:St 0 s.heap) (hS:s.heap.get? S=some { cls:=.type "list",dict:=none,data:=.seq #[] c,slots:=#[] })
  (hR:∀ h' tk,(∀ b o,b∉wr→s.heap.get? b=some o→h'.get? b=some o)→R (.ok (.ret d)) { s with heap:=h',toks:=tk }) :
  codeAny (model prog w) A (.builtin "max.loop" ⟨[.ref I,.none,.ref S],[(nm,d)]⟩) R s:=by
 refine codeAny_builtin F.entry_max_loop ?_
 rw[Around.under_plainId F.plain_max_loop _]
 refine(show wpAny _ A.in1 (seqItems? (.ref S) >>= _) _ _ s from wpAny_bind (wpAny_seqItems hS rfl ?_))
 refine(show wpAny _ A.in1 (tryCatch (pyNext (.ref I)) _ >>= _) _ _ s from wpAny_bind (wpAny_tryCatch (W.done s _ _ hst fun h' tk hk'=>?_)))
 exact wpAny_bind (wpAny_rule (wpAny_pure (hR h' tk hk')))
end
theorem zdf (a v:Value):argsOk "max" ⟨[a],[(Str.ofString "default",v)]⟩:=by unfold argsOk;kernel_rfl
section
variable {X:Cx}
theorem zia:zc2 X (.builtin "max") (fun xs H Q=>∃ p,∃ ns:List Int,xs=[.ref p]∧SqL X.K H p (ns.map V.int)∧ns≠[]∧∀ m∈ns,(∀ x∈ns,x≤m)→Q (.int m) H):=by
 intro pins s σ H xs us Q I r h
 obtain⟨p,ns,rfl,hq,hne,q⟩:=h
 obtain⟨u,rfl,ru⟩:=zdw r
 obtain rfl:u=Value.ref p:=ru
 obtain⟨its,rv,pl,_⟩:=I.list hq
 obtain⟨cs,hcs,ch⟩:=I.hd.chain
 have hlt:p<s.heap.objs.size:=by obtain⟨o,e,_⟩:=pl.isList;exact Heap.lt_size e
 have hnc:s.heap.objs.size∉cs:=fun z=>Nat.lt_irrefl _ (ch.lt _ z)
 have hlen:its.length=ns.length:=by rw[← rv.length,List.length_map]
 have hpos:0<ns.length:=List.length_pos_iff.mpr hne
 refine call_max_walk (wpAny_pyIter_list pl.isList ⟨s.heap.objs.size,_,_,_,_,_,fun i j=>decide (ns.getD i 0 > ns.getD j 0),rfl,zbv (A:=X.A.in1) hcs s.heap.objs.size p (Nat.ne_of_lt hlt) hnc its.toArray,⟨⟨_,Heap.get?_push_size _ rfl,rfl,rfl⟩,pl.isList.push _,ch.mono fun b o _ e=>Heap.get?_push_of_some _ e⟩,?_,by simp;omega,CmpOf.ints_gt (fun i=>ns.getD i 0) fun i v hv=>zbG rv (by simpa using hv),fun v h' tk hv hk=>?_⟩)
 ·intro b hb
  show b<(s.heap.push _).objs.size
  rw[Heap.size_push]
  rcases List.mem_cons.mp hb with rfl|hb
  ·exact Nat.lt_succ_self _
  ·rcases List.mem_cons.mp hb with rfl|hb
   ·exact Nat.lt_succ_of_lt hlt
   ·exact Nat.lt_succ_of_lt (ch.lt _ hb)
 ·have hv':its.toArray[argBest (fun i j=>decide (ns.getD i 0 > ns.getD j 0)) (its.toArray.size - 1)]?=some v:=hv
  rw[List.getElem?_toArray] at hv'
  obtain⟨t,rfl⟩:=zbG rv hv'
  obtain⟨b1,b2⟩:=zcD (fun i=>ns.getD i 0) (its.toArray.size - 1)
  have e1:its.toArray.size=ns.length:=by simp[hlen]
  rw[e1] at b1 b2
  have hk2:∀ b o,s.heap.get? b=some o→h'.get? b=some o:=fun b o e=>hk b o (fun z=>by
   have:b=s.heap.objs.size:=by simpa using z
   exact absurd (Heap.lt_size e) (by rw[this];exact Nat.lt_irrefl _)) (Heap.get?_push_of_some _ e)
  refine⟨.int _,H,I.kept hk2,⟨_,rfl⟩,?_⟩
  rw[e1]
  exact q _ (zdC (by omega)) fun x hx=>by
   obtain⟨j,hj,rfl⟩:=zdD hx
   exact b2 j (by omega)
theorem zib {a:Expr}{ta:TA}{i:Int}{p pos kpos cpos:Pos}{j:Nat} (hg:Gl X "max") (hm:X.mg "max"=none) (ha:PA X [a] ta)
  (hs:backTo pos (starEach [a] X.env)=(false,eval a X.env)::backTo pos (starEach [] X.env):=by rfl) (hp:(backTo pos (starEach [a] X.env)).any (·.1)=false:=by rfl) (hal:(backToKw pos (keywordEach [⟨some "default",.Constant (.int i) j cpos,kpos⟩] X.env)).all (·.1.isSome)=true:=by rfl)
  (han:(backToKw pos (keywordEach [⟨some "default",.Constant (.int i) j cpos,kpos⟩] X.env)).any (·.1.isNone)=false:=by rfl) (hkk:∀ u:Value,((backToKw pos (keywordEach [⟨some "default",.Constant (.int i) j cpos,kpos⟩] X.env)).filterMap (·.1)).zip [u]=[(Str.ofString "default",u)]:=by intro u;rfl) :
  PE X (.Call (.Name "max" p) [a] [⟨some "default",.Constant (.int i) j cpos,kpos⟩] pos) (fun σ H Q=>ta σ H fun vs H1=>∃ q,∃ ns:List Int,vs=[.ref q]∧SqL X.K H1 q (ns.map V.int)∧(ns=[]→Q (.int i) H1)∧∀ m∈ns,(∀ x∈ns,x≤m)→Q (.int m) H1):=by
 intro pins s σ H Q I h
 refine wpAny_Call_Name_kw (zcn I hg hm zh1 ?_)
 refine PyProof.Rows.callWith_kw (thn (ha pos pins s σ H _ I h) fun us s1=>L2.ex5 fun vs H1 I1 r1 hq_=>?_) hs hp hal han
 obtain⟨l,ns,e,q1,k0,k1⟩:=hq_
 subst e
 obtain⟨u,rfl,ru⟩:=zdw r1
 obtain rfl:u=Value.ref l:=ru
 refine PyProof.Rows.kws_cons (wpAny_Constant_int (PyProof.Rows.kws_nil ?_))
 rw[hkk]
 obtain⟨its,rv,pl,_⟩:=I1.list q1
 obtain⟨cs,hcs,ch⟩:=I1.hd.chain
 have hlt:l<s1.heap.objs.size:=by obtain⟨o,e,_⟩:=pl.isList;exact Heap.lt_size e
 have hnc:s1.heap.objs.size∉cs:=fun z=>Nat.lt_irrefl _ (ch.lt _ z)
 have hlen:its.length=ns.length:=by rw[← rv.length,List.length_map]
 have hnm:(toString "max"++toString ".loop":String)="max.loop":=by decide
 refine kmk_tree PySem.F.kind_max PySem.F.plain_max PySem.F.entry_max (zdf _ _) ?_
 refine(show wpAny _ _ (Builtin.Builtins.bindParams "max" ["key","default"] 0 ⟨[],[(Str.ofString "default",_)]⟩ >>= _) _ _ _ from wpAny_bind (wpAny_of_eq (show Builtin.Builtins.bindParams "max" ["key","default"] 0 ⟨[],[(Str.ofString "default",_)]⟩=pure [none,some _] from rfl) ?_))
 refine wpAny_bind (wpAny_pure ?_)
 refine wpAny_bind (wpAny_pyIter_list (s:={ s1 with toks:=s1.toks + 1 }) pl.isList ?_)
 refine wpAny_bind (wpAny_newList ?_ (Nat.zero_le _))
 rw[hnm]
 have hz:(s1.heap.push { cls:=.type "list_iterator",data:=.fields #[.ref l,.int 0 0] }).objs.size=s1.heap.objs.size + 1:=Heap.size_push ..
 have W:=zbv (prog:=X.prog) (w:=X.w) (A:=X.A.in1) hcs s1.heap.objs.size l (Nat.ne_of_lt hlt) hnc its.toArray
 have hSf:(s1.heap.push { cls:=.type "list_iterator",data:=.fields #[.ref l,.int 0 0] }).objs.size∉s1.heap.objs.size::l::cs:=by
  rw[hz]
  intro z
  rcases List.mem_cons.mp z with z|z
  ·exact absurd z (Nat.ne_of_gt (Nat.lt_succ_self _))
  ·rcases List.mem_cons.mp z with z|z
   ·exact absurd z (Nat.ne_of_gt (Nat.lt_succ_of_lt hlt))
   ·exact absurd (ch.lt _ z) (Nat.not_lt.mpr (Nat.le_succ _))
 have st0:((s1.heap.push { cls:=.type "list_iterator",data:=.fields #[.ref l,.int 0 0] }).push (seqObj "list" #[] 0)).IsListIter s1.heap.objs.size l 0∧((s1.heap.push { cls:=.type "list_iterator",data:=.fields #[.ref l,.int 0 0] }).push (seqObj "list" #[] 0)).IsList l its.toArray∧Chn ((s1.heap.push { cls:=.type "list_iterator",data:=.fields #[.ref l,.int 0 0] }).push (seqObj "list" #[] 0)) cs:=
  ⟨⟨_,Heap.get?_push_of_some _ (Heap.get?_push_size _ rfl),rfl,rfl⟩,(pl.isList.push _).push _,ch.mono fun b o _ e=>Heap.get?_push_of_some _ (Heap.get?_push_of_some _ e)⟩
 refine wpAny_pure ⟨plainId_quiet PySem.F.plain_max_loop _,?_⟩
 have back:∀ (h':Heap),(∀ b o,b∉[s1.heap.objs.size]→b≠(s1.heap.push { cls:=.type "list_iterator",data:=.fields #[.ref l,.int 0 0] }).objs.size→((s1.heap.push { cls:=.type "list_iterator",data:=.fields #[.ref l,.int 0 0] }).push (seqObj "list" #[] 0)).get? b=some o→h'.get? b=some o)→∀ b o,s1.heap.get? b=some o→h'.get? b=some o:=fun h' hk b o e=>by
  have lt:=Heap.lt_size e
  refine hk b o (fun z=>?_) (fun z=>?_) (Heap.get?_push_of_some _ (Heap.get?_push_of_some _ e))
  ·rw[List.mem_singleton.mp z] at lt;exact Nat.lt_irrefl _ lt
  ·rw[z,hz] at lt;exact Nat.lt_irrefl _ (Nat.lt_of_succ_lt lt)
 by_cases hn:ns=[]
 ·subst hn
  have e0:its=[]:=List.length_eq_zero_iff.mp (by rw[hlen];rfl)
  subst e0
  exact zfF W _ hSf st0 (Heap.get?_push_size _ rfl) fun h' tk hk=>⟨.int i,H1,I1.kept (back h' fun b o h1 _ e=>hk b o h1 e),⟨_,rfl⟩,k0 rfl⟩
 ·have hpos:0<ns.length:=List.length_pos_iff.mpr hn
  refine zes _ W (fun i j=>decide (ns.getD i 0 > ns.getD j 0)) (CmpOf.ints_gt (fun i=>ns.getD i 0) fun i v hv=>zbG rv (by simpa using hv)) _ hSf (by simp;omega) st0 (Heap.get?_push_size _ rfl) fun v h' tk hv hk=>?_
  have hv':its.toArray[argBest (fun i j=>decide (ns.getD i 0 > ns.getD j 0)) (its.toArray.size - 1)]?=some v:=hv
  rw[List.getElem?_toArray] at hv'
  obtain⟨t,rfl⟩:=zbG rv hv'
  obtain⟨b1,b2⟩:=zcD (fun i=>ns.getD i 0) (its.toArray.size - 1)
  have e1:its.toArray.size=ns.length:=by simp[hlen]
  rw[e1] at b1 b2
  refine⟨.int _,H1,I1.kept (back h' hk),⟨_,rfl⟩,?_⟩
  rw[e1]
  exact k1 _ (zdC (by omega)) fun x hx=>by
   obtain⟨j,hj,rfl⟩:=zdD hx
   exact b2 j (by omega)
end
section
variable {X:Cx}
def rGetL (K:PySem.W.Frag):V→V→Hp→VK→Prop:=fun o i H Q=>∃ p xs k v,o=.ref p∧i=.int k∧SqL K H p xs∧0≤k∧xs[k.toNat]?=some v∧Q v H
theorem zcb:PGet X (rGetL X.K):=by
 intro pins s σ H o i ov iv Q I ro ri h
 obtain⟨p,xs,k,v,rfl,rfl,hq,h0,hv,q⟩:=h
 cases ro
 obtain⟨t,rfl⟩:=ri
 obtain⟨its,r,pl,hz⟩:=I.list hq
 obtain⟨u,hu,ru⟩:=r.get hv
 have h1:=(List.getElem?_eq_some_iff.mp hv).1
 have hl:=r.length
 have hn:=zfh
 exact wpAny_getItem_list pl.isList h0 (by omega) (by simpa using hu) ⟨v,H,I,ru,q⟩
end
end L2
namespace L2
open PySem PySem.Spec PyProof.Rows
section
variable {X:Cx}{pins:List (Addr×Obj)}{σ:St}{H:Hp}{s:Shared}
open Classical in
end
end L2
namespace L2
open PySem PySem.Spec PyProof.Rows
section
variable {prog:Program}{w:World}{A:Around}{E:Value→Shared→Prop}{s:Shared}{cs:List Addr}
end
section
variable {X:Cx}
end
end L2
namespace L2
open PySem PySem.Spec PyProof.Rows
section
variable {prog:Program}{w:World}{A:Around}{E:Value→Shared→Prop}{s:Shared}{cs:List Addr}
end
section
variable {X:Cx}
end
end L2
namespace L2
open PySem PySem.Spec PyProof.Rows
section
variable {X:Cx}
end
end L2
namespace L2
open PySem PySem.Spec PyProof.Rows
section
variable {X:Cx}
def zkZ:V→List V→Hp→VK→Prop:=fun x vs H Q=>∃ l xs i y,x=.ref l∧vs=[.int i,y]∧H l=some (.lst xs)∧0≤i∧i≤xs.length∧xs.length<sizeLine∧Q .non (upd H l (.lst (xs.take i.toNat++y::xs.drop i.toNat)))
theorem zfG:MtM X "list.insert" zkZ:=by
 intro pins s σ H x vs v us Q I rx rv h
 obtain⟨l,xs,i,y,rfl,rfl,hH,h0,h1,hz,q⟩:=h
 cases rx
 obtain⟨u,w',rfl,⟨t,rfl⟩,ru⟩:=zhz rv
 obtain⟨z,its,n,r,hl,e⟩:=I.lstM hH
 have hf:Builtin.List.listFitsIndex i=true:=by
  unfold Builtin.List.listFitsIndex
  rw[sizeLine_eq] at hz
  simp only[Bool.and_eq_true,decide_eq_true_eq]
  constructor <;> omega
 refine call_meets F.slot_list_insert ⟨_,e,rfl⟩ F.entry_list_insert (F.args_list_insert_3 _ _ _) (AutoSeq1.list_insert_list_int_val_1 l its.toArray n i t w' (by simp[hf]) (by rw[List.size_toArray];omega)) ⟨e,?_⟩
 refine⟨.non,_,I.lset (its':=its.take i.toNat++w'::its.drop i.toNat) hH e ?_ ((r.take _).append (.cons ru (r.drop _))) ?_,rfl,q⟩
 ·show(its.toArray.extract 0 (if i<0 then(i + (its.toArray.size:Int)).toNat else min i.toNat its.toArray.size)).push w'++its.toArray.extract (if i<0 then(i + (its.toArray.size:Int)).toNat else min i.toNat its.toArray.size)=_
  rw[if_neg (by omega),List.size_toArray,Nat.min_eq_left (by omega)]
  apply Array.toList_inj.mp
  simp
  exact List.take_of_length_le (by simp)
 ·rw[List.length_append,List.length_cons,List.length_take,List.length_drop]
  omega
end
theorem none_of {H H':Hp}{r:Addr} (s:zaj H H') (h:H' r=none):H r=none:=by
 cases e:H r with
 | none=>rfl
 | some o=>
  rw[s _ _ e] at h
  cases h
theorem zap {H H':Hp}{d:Addr}{o:HO} (nd:H d=none) (s:zaj H H'):zaj H (upd H' d o):=fun b u e=>by
 rw[zag (zac e nd)]
 exact s b u e
end L2
namespace L2
open PySem PySem.Spec PyProof.Rows
section
variable {X:Cx}
end
end L2
namespace L2
open PySem PySem.Spec PyProof.Rows
section
variable {X:Cx}
end
end L2
namespace L2
open PySem PySem.Spec PyProof.Rows
section
variable {X:Cx}
end
end L2
namespace L2
open PySem PySem.Spec PyProof.Rows
end L2
namespace L2
open PySem PySem.Spec PyProof.Rows
section
variable {X:Cx}{K:PySem.W.Frag} (hK:X.K=K)
include hK
end
end L2
namespace L2
open PySem PySem.Spec PyProof.Rows
section
variable {prog:Program}{w:World}{A:Around}{E:Value→Shared→Prop}{s:Shared}{cs:List Addr}
end
end L2
namespace L2
open PySem PySem.Spec PyProof.Rows
section
variable {prog:Program}{w:World}{A:Around}{R:Result→Shared→Prop}{κ:Type} [DecidableEq κ] {knd:KeyKind prog w κ}{I d:Addr}{fp wr:List Addr}{G:Array GenState→Array GenState→Prop}{n:Nat}{P:Nat→Value→Prop}{St:Nat→Shared→Prop}
end
section
variable {prog:Program}{w:World}{A:Around}{E:Value→Shared→Prop}{s:Shared}{cs:List Addr}{κ:Type} [DecidableEq κ] {knd:KeyKind prog w κ}
end
end L2
namespace L2
open PySem PySem.Spec PyProof.Rows
section
variable {X:Cx}{pins:List (Addr×Obj)}{σ:St}{H:Hp}{s:Shared}
end
section
variable {X:Cx}
end
end L2
namespace L2
open PySem PySem.Spec PyProof.Rows
end L2
namespace L2
open PySem PySem.Spec PyProof.Rows PySem.SeqAt
open AutoSeq1 (wpAny_loadPart')
section
variable {prog:Program}{w:World}{A:Around}{s:Shared}
end
section
variable {X:Cx}{pins:List (Addr×Obj)}{σ:St}{H:Hp}{s:Shared}{A:Around}
end
end L2
namespace L2
open PySem PySem.Spec PyProof.Rows
section
variable {X:Cx}
end
end L2
namespace L2
open PySem PySem.Spec PyProof.Rows
section
variable {X:Cx}{pins:List (Addr×Obj)}{σ:St}{H:Hp}{s:Shared}{scope:Scope}{N:List Str}{cap:List (Option Nat)}{fp:List Addr}
end
section
variable {X:Cx}{elt tg iter:Expr}{ifs:List Expr}{scope:Scope}{pos:Pos}{N:List Str}{cap:List (Option Nat)}{wi:TI}{g:TG}{tt:TT}{te:TE}
end
end L2
namespace L2
open PySem PySem.Spec PyProof.Rows
section
variable {X:Cx}{e st:Expr}{te ts:TE}{pos p2:Pos}
end
end L2
namespace L2
open PySem PySem.Spec PyProof.Rows
theorem zjs {X:Cx}:OpR X (binaryOp .FloorDiv) (rI (fun _ j=>0<j∧j<2 ^ 62) fun i j=>.int (i / j)):=opI fun i j _ _ _ _ _ hc q=>by
 have h1:(0:Int)<j:=hc.1
 have h2:j<2 ^ 62:=hc.2
 refine floordiv_int (by omega) (by rw[Int.fdiv_eq_ediv_of_nonneg i (by omega)];exact q) (.inl (PyProof.noPylong_of_log2 ?_))
 exact(Nat.log2_lt (by omega)).mpr (Nat.lt_of_lt_of_le (by omega:j.natAbs<2 ^ 62) (Nat.pow_le_pow_right (by decide) (by decide)))
end L2
namespace L2
open PySem PySem.Spec PyProof.Rows
open Sem (wp)
section
variable {M:Model}{A:Around}{E:Value→Shared→Prop}{s:Shared}{env:Env}
end
section
variable {prog:Program}{w:World}{A:Around}{E:Value→Shared→Prop}{s:Shared}
end
section
variable {prog:Program}{w:World}{A:Around}{E:Value→Shared→Prop}{s:Shared}
end
section
variable {prog:Program}{w:World}{A:Around}{E:Value→Shared→Prop}{s:Shared}
end
section
variable {prog:Program}{w:World}{A:Around}{E:Value→Shared→Prop}{s:Shared}
end
section
variable {X:Cx}
end
section
end
end L2
namespace L2
open PySem PySem.Spec PyProof.Rows
def alike (c:Int) (l:List Keyed):List Keyed:=l.filter fun p=>numOf p.1 == c
structure Dn (O:List Keyed) (x neq:Nat) (l U B C O1:List Keyed) (b:Int):Prop where
 arr:l=U++B++C
 org:O=O1++B++C
 len:U.length + B.length=x
 lb:B.length=neq + 1
 fil:∀ c,alike c U=(alike c O1).reverse
 eqb:∀ p∈B,numOf p.1=b
 gt:∀ p∈U,b<numOf p.1
 dec:U.Pairwise fun p q=>numOf q.1≤numOf p.1
section
variable {O U B C O1:List Keyed}{x neq:Nat}{b:Int}{xs:Array Keyed}{p:Keyed}
end
section
variable {prog:Program}{w:World}{Ar:Around}{E:Value→Shared→Prop}{s:Shared}{a₀:Array Keyed}{O:List Keyed}
end
end L2
namespace L2
open PySem PySem.Spec PyProof.Rows
section
variable {X:Cx}{pins:List (Addr×Obj)}{σ:St}{H:Hp}{s:Shared}{scope:Scope}{params:Arguments}{body:Expr}{pos:Pos}{c P:Addr}{N:List Str}{cap:List (Option Nat)}
abbrev zjt (X:Cx):Str:=X.env.qual++"<lambda>"
def zgx (X:Cx) (scope:Scope) (params:Arguments) (body:Expr) (pm:Value) (c':Addr) (ctv:Value):Obj:=
 PySem.W.kla_obj "<lambda>" (zjt X) params body scope (zb0 X.env.cells scope.names []) pm c' ctv
def zd0 (H:Hp) (c' P:Addr) (qual:Str):Prop:=∃ oc vs t,H c'=some (.frz oc (.own P))∧oc.data=.fields vs∧vs[1]?=some (.str qual t)
theorem zd0.rec {prog:Program}{w:World}{h:Heap}{c' P:Addr}{qual:Str} (x:zd0 H c' P qual) (k:HOk prog w H h):h.CodeRec (.ref c') qual:=by
 obtain⟨oc,vs,t,e1,e2,e3⟩:=x
 obtain⟨z,_⟩:=k c' _ e1
 exact⟨c',oc,vs,t,rfl,z,e2,e3⟩
theorem zju {M:Model}{A:Around}{E:Value→Shared→Prop}{Q:Value→Shared→Prop} (I:Inv X pins σ H s) (hcode:X.env.code=.ref c) (hc:PySem.W.codeHdIn X.K c P=true) (hP:H P=some (.tbl pos (zjt X)))
  (ok:zb3 X.env.scope scope X.N N cap=true) (hdef:defaultsOf params X.env=([],[]))
  (h:∀ f c' pm ctv H' s',Inv X pins σ H' s'→zaj H H'→s.heap.objs.size≤f→H' f=none→s'.heap.get? f=some (zgx X scope params body pm c' ctv)→zd0 H' c' P (zjt X)→Q (.ref f) s') :
  wpAny M A (eval (.Lambda params body scope pos) X.env) Q E s:=by
 have tb:=I.hok P _ hP
 obtain⟨bm,ob,b1,b2,b3,b4,b5,b6⟩:=I.ok.mod.bmain
 have hg:s.heap.Ns mainGlobals X.mg:=I.ok.mod.glob.keeps I.bk
 have cl:=zbN (I.clos ok)
 have hgP:mainGlobals≠P:=fun z=>by
  obtain⟨o,_,_,e,_⟩:=I.ok.mod.glob
  have:=(I.bs _ _ e).2
  rw[z,hP] at this;cases this
 have hbP:bm≠P:=fun z=>by
  have:=(I.bs _ _ b3).2
  rw[z,hP] at this;cases this
 have hbG:bm≠mainGlobals:=fun z=>by
  obtain⟨o,es,ep,e,hd,_⟩:=I.ok.mod.glob
  rw[z,e] at b3;cases b3;rw[hd] at b6;cases b6
 have C:=PySem.W.codeHd_of_K I.kIn hc
 have hb:s.heap.BuiltinsAt X.mg P:=⟨bm,ob,b1,b2,hbG,hbP,I.bk _ _ b3,b4,b5,b6⟩
 refine PySem.W.kla_eval hdef ?_
 rcases tb with tb|⟨c',oc,vs,t,e1,e2,e3,tb⟩
 ·refine PySem.W.kla_makeFunction cl I.ok.glob hg hcode C tb trivial rfl hgP hb fun c' ctv h' tk hx hge hlt hrec htb=>?_
  obtain⟨c₂,oc,vs,t,q,hoc,hd,hv⟩:=hrec
  cases q
  have hn:H c'=none:=I.hok.fresh hge
  have hcP:c'≠P:=fun z=>by rw[z,hP] at hn;cases hn
  have nP:∀ b,H b=none→b≠P:=fun b n z=>by rw[z,hP] at n;cases n
  have k:∀ (o:Obj) b u,b≠P→s.heap.get? b=some u→(h'.push o).get? b=some u:=fun o b u n q=>Heap.get?_push_of_some _ (hx b u n q)
  have tbl':∀ o:Obj,(h'.push o).get? P=some (PySem.W.tabObj (#[]++#[rawInt pos.line,rawInt pos.col,.ref c'])):=fun o=>Heap.get?_push_of_some _ htb
  have kpH:∀ b u,H b=some u→upd H c' (.frz oc (.own P)) b=some u:=fun b u q=>by rw[zag (zac q hn)];exact q
  have un:∀ o:Obj,Un X.fs [] H (upd H c' (.frz oc (.own P))) s.heap (h'.push o):=fun o=>by
   refine⟨fun b u q n _ _=>k o b u (nP b n) q,fun b u q n _ _=>⟨u.slots,k o b u (nP b n) q⟩,fun b u q n _=>?_,fun b u q _=>?_,fun b xs q=>kpH _ _ q,fun b u v q=>kpH _ _ q,fun b p r q=>kpH _ _ q⟩
   ·rw[zag (Nat.ne_of_lt (Nat.lt_of_lt_of_le (Heap.lt_size q) hge))];exact n
   ·by_cases z:b=P
    ·exact⟨_,z ▸ tbl' o⟩
    ·exact⟨u,k o b u z q⟩
  have hok:∀ o:Obj,HOk X.prog X.w (upd H c' (.frz oc (.own P))) (h'.push o):=fun o b u q=>by
   by_cases z:b=c'
   ·subst z
    rw[zaa] at q;cases q
    exact⟨Heap.get?_push_of_some _ hoc,_,Heap.get?_push_of_some _ hoc⟩
   ·rw[zag z] at q
    by_cases z2:b=P
    ·subst z2
     rw[hP] at q;cases q
     exact .inr ⟨c',oc,vs,t,zaa,hd,hv,tbl' o⟩
    ·refine(I.hok b u q).stay (fun d v hd q'=>k o d v ?_ q') (fun d r=>kpH _ _ r) (fun d xs r=>kpH _ _ r) fun d ob r=>kpH _ _ r
     rcases hd with hd|hd
     ·rw[hd];exact z2
     ·intro z3
      rw[z3,hP] at hd;cases hd
  have hsz:s.heap.objs.size≤h'.objs.size:=Nat.le_trans hge (Nat.le_of_lt hlt)
  refine h _ c' _ ctv (upd H c' (.frz oc (.own P))) _ (I.un (t':=tk) (un _) (hok _)) (fun b u q=>kpH b u q) hsz ?_ (Heap.get?_push_size _ rfl) ⟨oc,vs,t,zaa,hd,hv⟩
  rw[zag (Nat.ne_of_gt hlt)]
  exact I.hok.fresh hsz
 ·have ht:TriplesOk (#[rawInt pos.line,rawInt pos.col,Value.ref c']:Array Value).toList:=by simp[TriplesOk,rawInt]
  have hf:codeAmong pos (#[rawInt pos.line,rawInt pos.col,Value.ref c']:Array Value).toList=some (.ref c'):=by simp[codeAmong,rawInt]
  refine PySem.W.kla_makeFunctionHit cl I.ok.glob hg hcode C tb ht hf hb fun ctv h' tk hk hsz=>?_
  exact h _ c' _ ctv H _ (I.kept (t':=tk) fun b u q=>Heap.get?_push_of_some _ (hk b u q)) (zaj.refl H) hsz (I.hok.fresh hsz) (Heap.get?_push_size _ rfl) ⟨oc,vs,t,e1,e2,e3⟩
abbrev zfH (X:Cx) (scope:Scope) (f:Addr) (cd:Value) (L:Addr):Env:=PySem.W.envX (zjt X) scope L f cd (zb0 X.env.cells scope.names [])
def zic (X:Cx) (scope:Scope) (N:List Str) (f:Addr) (cd:Value) (A:Around) (s:Shared) (H:Hp):Cx:=
 { X with A:=A.deeper (zfH X scope f cd s.heap.objs.size),N:=N,s₀:=s,H₀:=H,env:=zfH X scope f cd s.heap.objs.size,outer:=X.stack,stack:=zfH X scope f cd s.heap.objs.size::X.stack,ex:=[],fn:=fun _=>false,calm:=true,pn:=[],xe:=fun _ _=>False }
abbrev lamS (cap:List (Option Nat)) (σ:St) (v:V):St:=(zgq cap σ).set 0 (some v)
theorem zid {A:Around}{f:Addr}{cd:Value}{x:Str}{v:V}{u:Value}{h₁:Heap}{tk:Nat}{fo:Obj} (I:Inv X pins σ H s) (hA:A.frames=X.A.frames) (hh:A.handled=X.A.handled) (ok:zb3 X.env.scope scope X.N N cap=true)
  (hx:N[0]?=some x) (hl:scope.names.lookup x=some .local) (hc0:cap[0]?=some none) (rv:zaQ v u)
  (hn:h₁.Ns s.heap.objs.size (fun y=>[(x,u)].reverse.lookup y)) (hs:Heap.SameBut s.heap.objs.size (s.heap.push fo) h₁) :
  Inv (zic X scope N f cd A s H) [] (lamS cap σ v) H { s with heap:=h₁,toks:=tk }:=by
 have okC:=ok
 simp only[zb3,Bool.and_eq_true,List.all_eq_true,beq_iff_eq] at ok
 obtain⟨⟨⟨⟨hkind,hcell⟩,_⟩,_⟩,hcap⟩:=ok
 have cl:=I.clos okC
 have old:∀ b o,s.heap.get? b=some o→h₁.get? b=some o:=fun b o e=>hs.extBut b o (Nat.ne_of_lt (Heap.lt_size e)) (Heap.get?_push_of_some _ e)
 have cellsIn:∀ x c,(zb0 X.env.cells scope.names []).lookup x=some c→X.env.cells.lookup x=some c:=fun x c e=>by
  rcases zc8 cl e with q|q
  ·simp at q
  ·exact q
 have noA:∀ b:Addr,b∉(zic X scope N f cd A s H).ex:=fun b z=>absurd (show b∈([]:List Addr) from z) (by simp)
 have hd:zhf (A.deeper (zfH X scope f cd s.heap.objs.size)) H:=by
  rcases I.hdAt with z|⟨a,cs,z,r⟩
  ·exact .inl (hh.trans z)
  ·exact .inr ⟨a,cs,hh.trans z,r⟩
 refine⟨⟨I.ok.mod,hkind,rfl,rfl,Nat.le_refl _,fun y z c h1 h2=>I.ok.inj y z c (cellsIn y c h1) (cellsIn z c h2),fun y hy=>?_,fun y c hf _=>Bool.noConfusion hf,hd,Around.frames_deeper (hA.trans I.ok.frames),.inr ⟨rfl,rfl⟩,fun b z=>absurd z (noA b),
   I.bs,Nat.le_trans I.ok.bsz I.sz,fun b _ _=>noA b,fun b z=>absurd z (noA b),I.stack,I.stkFree⟩,
  rfl,I.bare,Un.kept old,⟨_,hn,fun i y v' h1 h2 h3=>?_⟩,fun y c e=>?_,I.hok.fresh (Nat.le_refl _),fun y c e=>I.freeC y c (cellsIn y c e),fun p hp=>absurd (show p∈([]:List (Addr×Obj)) from hp) (by simp),I.hok.kept old,?_⟩
 ·have hy:scope.names.lookup y=some .cell∨scope.names.lookup y=some .free:=hy
  rcases hy with hy|hy
  ·exact absurd (show(NameKind.cell != NameKind.cell)=true from hcell _ (PySem.mem_of_lookup hy)) (by decide)
  ·exact Option.isSome_iff_exists.mp (zcr (.inl (PySem.mem_of_lookup hy)))
 ·have h1:N[i]?=some y:=h1
  by_cases hi:i=0
  ·subst hi
   rw[hx] at h1;cases h1
   have hlen:0<(zgq cap σ).length:=by
    unfold zgq
    rw[List.length_map]
    exact(List.getElem?_eq_some_iff.mp hc0).1
   have h2:((zgq cap σ).set 0 (some v))[0]?=some (some v'):=h2
   rw[List.getElem?_set_self hlen] at h2
   cases h2
   refine⟨u,rv,.inl ⟨hl,?_⟩⟩
   show(([(x,u)]:List (Str×Value)).lookup x)=some u
   rw[List.lookup_cons,beq_self_eq_true]
  ·have h2:((zgq cap σ).set 0 (some v))[i]?=some (some v'):=h2
   rw[List.getElem?_set_ne (Ne.symm hi)] at h2
   have hj:∃ j,cap[i]?=some (some j)∧σ[j]?=some (some v'):=by
    unfold zgq at h2
    rw[List.getElem?_map] at h2
    cases e:cap[i]? with
    | none=>rw[e] at h2;cases h2
    | some o=>
     rw[e] at h2
     cases o with
     | none=>cases h2
     | some j=>
      refine⟨j,rfl,?_⟩
      have h2':(σ[j]?).join=some v':=Option.some.inj h2
      cases e2:σ[j]? with
      | none=>rw[e2] at h2';cases h2'
      | some o2=>rw[e2] at h2';rw[show o2=some v' from h2']
   obtain⟨j,hj,hv⟩:=hj
   obtain⟨hX,hfr⟩:=zda hcap hj h1
   have hmem:(y,NameKind.free)∈scope.names:=PySem.mem_of_lookup hfr
   have hcf:=okC
   simp only[zb3,Bool.and_eq_true,List.all_eq_true] at hcf
   have h':isCF (X.env.scope.names.lookup y)=true:=by simpa using hcf.1.2 _ hmem
   have hk:X.env.scope.names.lookup y=some .cell∨X.env.scope.names.lookup y=some .free:=by
    cases e:X.env.scope.names.lookup y with
    | none=>rw[e] at h';cases h'
    | some k=>
     rw[e] at h'
     cases k <;> first|exact .inl rfl|exact .inr rfl|cases h'
   obtain⟨m,_,hlk⟩:=I.loc
   obtain⟨u',ru,lk⟩:=hlk j y v' hX hv (hk.elim (fun q=>.inr (.inl q)) fun q=>.inr (.inr q))
   refine⟨u',ru,.inr ⟨.inr hfr,?_⟩⟩
   rcases lk with⟨q,_⟩|⟨_,c,hc,o,ho,hod⟩
   ·have q:X.env.scope.names.lookup y=some .local:=q
    rcases hk with z|z <;> rw[q] at z <;> cases z
   ·obtain⟨c2,hc2⟩:=Option.isSome_iff_exists.mp (zcr (cells:=X.env.cells) (acc:=[]) (.inl hmem))
    have:=cellsIn y c2 hc2
    rw[hc] at this;cases this
    exact⟨c,hc2,o,old c o ho,hod⟩
 ·obtain⟨w',o,ho,hod⟩:=I.cell y c (cellsIn y c e)
  exact⟨w',o,old c o ho,hod⟩
 ·show((zgq cap σ).set 0 (some v)).length=N.length
  rw[List.length_set]
  unfold zgq
  rw[List.length_map]
  exact zc9 hcap
theorem zk0 {A:Around}{f c':Addr}{pm ctv:Value}{x:Str}{v:V}{u:Value}{te:TE}{Q:VK} (I:Inv X pins σ H s) (hA:A.frames=X.A.frames) (hh:A.handled=X.A.handled) (hroom:A.depth<recursionLimit)
  (ho:s.heap.get? f=some (zgx X scope params body pm c' ctv)) (hc':zd0 H c' P (zjt X)) (ok:zb3 X.env.scope scope X.N N cap=true) (hx:N[0]?=some x) (hl:scope.names.lookup x=some .local) (hc0:cap[0]?=some none)
  (hbind:bindArgs (PySem.W.kla_fn "<lambda>" (zjt X) params body scope (zb0 X.env.cells scope.names []) pm (.ref c') ctv) ⟨[u],[]⟩=pure [(x,u)]) (hco:scope.isCoroutine=false) (hgen:scope.isGenerator=false) (rv:zaQ v u)
  (he:PE (zic X scope N f (.ref c') A s H) body te) (ht:te (lamS cap σ v) H Q) :
  codeAny (model X.prog X.w) A (.call (.ref f) ⟨[u],[]⟩) (fun r s'=>∃ u',r=.ok (.ret u')∧CE X.stack X.prog X.w H s Q u' s') s:=by
 have okC:=ok
 simp only[zb3,Bool.and_eq_true,List.all_eq_true,beq_iff_eq] at okC
 obtain⟨⟨⟨⟨hkind,hcell⟩,_⟩,_⟩,_⟩:=okC
 have lim:s.heap.NoLimit:=I.ok.mod.nolimit.keeps I.bk
 refine PySem.W.kla_callFunE hroom ho rfl hco hgen rfl (hc'.rec I.hok) ?_
 rw[hbind]
 refine wpAny_pure (wpAny_newFunctionEnv (fun y hy=>by simpa using hcell y hy) (fun y hy=>by rw[List.mem_singleton.mp hy];exact hl) (fun h₁ hns hsb=>⟨lim.fresh _ hsb,?_⟩) hkind)
 show codeAny _ _ (.expr body (zfH X scope f (.ref c') s.heap.objs.size)) _ _
 have J:Inv (zic X scope N f (.ref c') A s H) [] (lamS cap σ v) H { s with heap:=h₁,toks:=s.toks + [(x,u)].length }:=zid I hA hh ok hx hl hc0 rv hns hsb
 refine PySem.W.kla_codeExpr (wpAny_mono (he [] _ _ H Q J ht) (fun w' s' hq=>?_) fun _ _ z=>z.elim)
 obtain⟨v',H',J',r',q'⟩:=hq
 exact⟨w',rfl,v',H',J'.os,J'.bare,J'.base,J'.hok,r',q'⟩
end
end L2
namespace L2
open PySem PySem.Spec PyProof.Rows
section
variable {X:Cx}{pins:List (Addr×Obj)}{σ:St}{H H1:Hp}{s:Shared}
theorem Inv.repin {kS:Addr}{o o':Obj}{h':Heap}{t':Nat} (I:Inv X (pins++[(kS,o)]) σ H s) (fp:zcm X pins H1 kS) (k:∀ b u,b≠kS→s.heap.get? b=some u→h'.get? b=some u) (e:h'.get? kS=some o') (hd:∀ v,o'.data≠.cell v) :
  Inv X (pins++[(kS,o')]) σ H { s with heap:=h',toks:=t' }:=by
 obtain⟨_,f1,f2,f3,f4,f5⟩:=fp
 have pk:=I.pin (kS,o) (List.mem_append_right _ (List.mem_append_right _ (List.mem_singleton.mpr rfl)))
 have I0:Inv X pins σ H s:=I.pins_of fun p hp=>I.pin p (List.mem_append_right _ (List.mem_append_left _ hp))
 have I1:=I0.turned (t':=t') k pk.2.1 f1 f3 f4 f5
 refine I1.pins_of fun p hp=>?_
 rcases List.mem_append.mp hp with z|z
 ·exact I1.pin p (List.mem_append_right _ z)
 ·rw[List.mem_singleton.mp z]
  exact⟨e,pk.2.1,f1,f2,hd⟩
def zeR (X:Cx) (A:Around) (f:Addr) (fo:Obj) (σ:St) (H1:Hp) (key:V→Int) (xs:List V):Prop:=
 ∀ (x:V) (u:Value) (pins:List (Addr×Obj)) (Hi:Hp) (si:Shared),x∈xs→zaQ x u→Inv X pins σ Hi si→zaj H1 Hi→si.heap.get? f=some fo →
  wpAny (model X.prog X.w) A (call (.ref f) [u]) (EP X pins σ fun k H3=>k=.int (key x)∧zaj Hi H3) (fun _ _=>False) si
variable {A:Around}{E:Value→Shared→Prop}{P:PySem.Fin→Shared→Prop}{f D kS:Addr}{fo:Obj}{key:V→Int}{xs:List V}{vs:List Value}{e1:Nat}
end
end L2
namespace L2
open PySem PySem.Spec PyProof.Rows
def zgy (K:PySem.W.Frag) (f:Addr):Option Value:=match K.lookup f with
 | some ⟨_,_,.func fd,_⟩=>some fd.code
 | _=>none
theorem zk1 {K:PySem.W.Frag}{f c:Addr}{oc:Value}{od:Option Addr}{sl:Array (Option Value)}{fd:FuncData} (l:K.lookup f=some ⟨oc,od,.func fd,sl⟩) (h:fd.code=.ref c):zgy K f=some (.ref c):=by
 unfold zgy
 rw[l]
 exact congrArg some h
structure zk2 (K:PySem.W.Frag) (f P:Addr):Prop where
 ex:∃ c,zgy K f=some (.ref c)∧PySem.W.codeHdIn K c P=true
 no:K.lookup P=none
structure zj8 (K:PySem.W.Frag) (mg:Str→Option Value) (x:Str) (P:Addr):Prop where
 ex:∃ f,mg x=some (.ref f)∧zk2 K f P
section
variable {P:Program}{w:World}{K:PySem.W.Frag}{mg:Str→Option Value}{base:Heap}
theorem zfy.okL {x qual:Str}{st:Stmt}{f TP:Addr}{fd:FuncData}{N ps:List Str}{k:Nat}{sp:Sp} (F:zfy K x qual st f fd) (L:zk2 K f TP) (S:zay N ps (zae st)) (len:∀ vs H Q E,sp vs H Q E→vs.length=ps.length)
  (hbody:∀ (c:Addr) (A:Around) (outer:List Env) (s:Shared) (H:Hp) (vs:List V) (Q:VK) (E:XK),PySem.W.codeHdIn K c TP=true→zb9 k (A.deeper (envOfC qual (zae st) s.heap.objs.size f (.ref c)))→sp vs H Q E →
   ∃ t,PSs (zhC CX0 P w K mg base N qual (zae st) f (.ref c) A outer s H E).nox (zaw st) t∧t { nx:=fun _ H'=>Q .non H',rt:=Q } (start N vs) H):zdx P w K mg base CX0 (k + 1) f fd ps sp:=by
 obtain⟨oc,od,dV,kV,doc,pm,an,cdv,ct,osl,rfl,lk,hcd⟩:=F.ex
 obtain⟨c,e1,e2⟩:=L.ex
 have e:cdv=.ref c:=by
  unfold zgy at e1
  rw[lk] at e1
  exact Option.some.inj e1
 subst e
 refine zkE lk hcd S len fun A outer s H vs Q E hr hsp=>?_
 obtain⟨t,h,q⟩:=hbody c A outer s H vs Q E e2 hr hsp
 exact⟨t,h.nox,q⟩
theorem Def.calL {CX:CXT}{k:Nat}{x:Str}{st:Stmt}{ps:List Str}{dvs:List V}{sp:Sp}{TP:Addr} (D:Def K mg x st ps dvs) (L:zj8 K mg x TP) (h:∀ f fd,zfy K x x st f fd→zk2 K f TP→zdx P w K mg base CX k f fd ps sp):Cal P w K mg base CX k x ps dvs sp:=by
 obtain⟨f,fd,ds,F,e,r⟩:=D.ex
 obtain⟨f',e',l⟩:=L.ex
 rw[e] at e'
 cases e'
 exact⟨f,fd,ds,h f fd F l,e,r⟩
end
abbrev Tab:=Addr×Pos×Str
def zie (ts:List Tab) (H:Hp):Prop:=(∀ t∈ts,H t.1=some (.tbl t.2.1 t.2.2))∧∀ b u,H b=some u→(∃ o xs,u=.frz o (.lst xs))∨∃ t∈ts,b=t.1∧u=.tbl t.2.1 t.2.2
def zk3:List Tab→Hp→Hp
 | [],H=>H
 | t::ts,H=>upd (zk3 ts H) t.1 (.tbl t.2.1 t.2.2)
theorem zgb:∀ {ts:List Tab}{H:Hp},(ts.map (·.1)).Nodup→∀ t∈ts,zk3 ts H t.1=some (.tbl t.2.1 t.2.2)
 | [],_,_,t,h=>by simp at h
 | q::ts,H,nd,t,h=>by
  rcases List.mem_cons.mp h with z|z
  ·rw[z];exact zaa
  ·have n:t.1≠q.1:=fun y=>(List.nodup_cons.mp (show(q.1::ts.map (·.1)).Nodup from nd)).1 (List.mem_map.mpr ⟨t,z,y⟩)
   show upd _ _ _ _=_
   rw[zag n]
   exact zgb (List.nodup_cons.mp nd).2 t z
theorem zeS:∀ {ts:List Tab}{H:Hp}{b:Addr}{u:HO},zk3 ts H b=some u→H b=some u∨∃ t∈ts,b=t.1∧u=.tbl t.2.1 t.2.2
 | [],_,_,_,h=>.inl h
 | q::ts,H,b,u,h=>by
  have h:upd (zk3 ts H) q.1 (.tbl q.2.1 q.2.2) b=some u:=h
  by_cases z:b=q.1
  ·rw[z,zaa] at h
   exact .inr ⟨q,List.mem_cons_self,z,(Option.some.inj h).symm⟩
  ·rw[zag z] at h
   rcases zeS h with y|⟨t,h1,h2⟩
   ·exact .inl y
   ·exact .inr ⟨t,List.mem_cons_of_mem _ h1,h2⟩
theorem zif:∀ {ts:List Tab}{H:Hp}{b:Addr},(∀ t∈ts,b≠t.1)→zk3 ts H b=H b
 | [],_,_,_=>rfl
 | q::ts,H,b,h=>by
  show upd _ _ _ _=_
  rw[zag (h q List.mem_cons_self)]
  exact zif fun t ht=>h t (List.mem_cons_of_mem _ ht)
theorem zig {P:Program}{w:World}{K:PySem.W.Frag}{mg mb:Str→Option Value}{CX:CXT}{k:Nat}{fa a:Addr}{fd:FuncData}{x:Str}{sp:Sp}{s₁:Shared}{vs:List Value}{ns:List Int}{ts:List Tab}
  (KX:K.In s₁.heap) (hns:s₁.heap.Ns mainGlobals mg) (hb:s₁.heap.Ns builtinsNs mb) (hbb:∀ x:Str,x≠"__name__"→mb x=bootBuiltins x) (hlim:s₁.heap.NoLimit)
  (hbm:∃ bm ob,mg "__builtins__"=some (.ref bm)∧bm≠builtinsNs∧s₁.heap.get? bm=some ob∧ob.cls=.type "module"∧ob.dict=some builtinsNs∧ob.data=.plain) (hg:s₁.gens=#[])
  (ha:s₁.heap.get? a=some { cls:=.type "list",data:=.seq vs.toArray }) (hi:IntsAre vs ns) (hl:ns.length≤sizeLine) (hr:zb9 k callerA)
  (nd:(ts.map (·.1)).Nodup) (hts:∀ t∈ts,s₁.heap.get? t.1=some (PySem.W.tabObj #[])∧(∃ c,PySem.W.codeHdIn K c t.1=true)∧K.lookup t.1=none)
  (F:∀ base:Heap,K.In base→base.Ns mainGlobals mg→zdx P w K mg base CX k fa fd [x] sp) (hbind:∀ (s:Shared) (u:Value),BindsTo s fd ⟨[u],[]⟩ [(x,u)])
  (hsp:∀ H:Hp,zie ts H→SqL K H a (ns.map V.int)→sp [.ref a] H (fun v _=>v=.bl true) fun _ _ _=>False)
  (hCX:∀ H e s',CX [] H s₁ (fun _ _ _=>False) e s'→False) :
  codeAny (model P w) callerA (.call (.ref fa) ⟨[.ref a],[]⟩) (fun r s'=>r=.ok (.ret (.bool true))∧OldK s₁.heap s'.heap∧s'.os=s₁.os∧AllBare s'.gens) s₁:=by
 have rv:=zfu hi
 have lenV:=hi.length
 have core:∀ H:Hp,(∀ t∈ts,H t.1=some (.tbl t.2.1 t.2.2))→(∀ b u,H b=some u→(b=a∧K.lookup a=none∧u=.frz { cls:=.type "list",data:=.seq vs.toArray } (.lst (ns.map V.int)))∨∃ t∈ts,b=t.1∧u=.tbl t.2.1 t.2.2)→SqL K H a (ns.map V.int) →
   codeAny (model P w) callerA (.call (.ref fa) ⟨[.ref a],[]⟩) (fun r s'=>r=.ok (.ret (.bool true))∧OldK s₁.heap s'.heap∧s'.os=s₁.os∧AllBare s'.gens) s₁:=by
  intro H h1 h2 hS
  have hO:zie ts H:=⟨h1,fun b u q=>(h2 b u q).elim (fun z=>.inl ⟨_,_,z.2.2⟩) .inr⟩
  have hok:HOk P w H s₁.heap:=fun b u q=>by
   rcases h2 b u q with⟨rfl,_,rfl⟩|⟨t,ht,rfl,rfl⟩
   ·exact⟨ha,by rw[List.length_map];exact hl,vs,_,rv,ha⟩
   ·exact .inl (hts t ht).1
  have free:∀ {b:Addr}{o:Obj},s₁.heap.get? b=some o→(∀ xs n,o.data≠.seq xs n)→(∀ xs,o.data≠.fields xs)→H b=none:=fun {b o} e n1 n2=>by
   cases q:H b with
   | none=>rfl
   | some u=>
    rcases h2 b u q with⟨rfl,_,_⟩|⟨t,ht,rfl,_⟩
    ·rw[ha] at e;cases e
     exact(n1 _ _ rfl).elim
    ·rw[(hts t ht).1] at e;cases e
     exact(n2 _ rfl).elim
  have nsK:∀ {b:Addr}{m:Str→Option Value},s₁.heap.Ns b m→(zjS s₁.heap H).Ns b m:=fun {b m} ⟨o,es,ep,e,d,r⟩=>⟨o,es,ep,zez e (free e (by rw[d];intro _ _ z;cases z) (by rw[d];intro _ z;cases z)),d,r⟩
  have hKb:K.In (zjS s₁.heap H):=fun b o e=>zez (KX b o e) (by
   cases q:H b with
   | none=>rfl
   | some u=>
    rcases h2 b u q with⟨rfl,z,_⟩|⟨t,ht,rfl,_⟩
    ·rw[z] at e;cases e
    ·rw[(hts t ht).2.2] at e;cases e)
  have hM:Mod K mg (zjS s₁.heap H):=⟨hKb,nsK hns,⟨mb,nsK hb,hbb⟩,let ⟨mc,y1,y2⟩:=hlim;⟨mc,nsK y1,y2⟩,by
   obtain⟨bm,ob,a1,a2,a3,a4,a5,a6⟩:=hbm
   exact⟨bm,ob,a1,a2,zez a3 (free a3 (by rw[a6];intro _ _ z;cases z) (by rw[a6];intro _ z;cases z)),a4,a5,a6⟩⟩
  have e0:zkA P w K mg (zjS s₁.heap H) callerA [] s₁ H:=⟨rfl,hM,fun b o e=>zkr e,Nat.le_of_eq (zhn _ _),trivial,fun b hb=>absurd (show b∈([]:List Addr) from hb) (by simp),hok,.of_eq hg,.inl rfl⟩
  refine codeAny_mono ((F _ hKb (nsK hns)).run callerA [] s₁ H ⟨[.ref a],[]⟩ [.ref a] [.ref a] _ _ hr e0 (hbind s₁ (.ref a)) (.cons rfl .nil) (hsp H hO hS)) fun r s' h=>?_
  cases r with
  | error e=>exact(hCX H e s' h).elim
  | ok fl=>
   cases fl with
   | next=>exact False.elim h
   | brk=>exact False.elim h
   | cont=>exact False.elim h
   | ret u=>
    obtain⟨v,H',os,bare,un,hok',r',q⟩:=h
    have q':v=.bl true:=q
    subst q'
    obtain rfl:u=Value.bool true:=r'
    have no:∀ b:Addr,b∉frs []:=fun b z=>absurd (show b∈([]:List Addr) from z) (by simp)
    refine⟨rfl,⟨fun b o e=>?_,fun b o e=>un.there b o e (by simp)⟩,os,bare⟩
    cases q:H b with
    | none=>exact .inl (un.keep b o e q (no b) (by simp))
    | some u=>
     rcases h2 b u q with⟨rfl,_,rfl⟩|⟨t,ht,rfl,rfl⟩
     ·obtain⟨y1,_⟩:=hok _ _ q
      obtain⟨y2,_⟩:=hok' _ _ (un.frzs _ _ _ q)
      rw[e] at y1;cases y1
      exact .inl y2
     ·obtain⟨g1,⟨c,g2⟩,_⟩:=hts t ht
      rw[e] at g1;cases g1
      rcases hok' _ _ (un.tbls _ _ _ q) with y|⟨c',oc,xs,tt,_,_,_,y⟩
      ·exact .inl y
      ·exact .inr (.inl ⟨((PySem.W.codeHd_of_K KX g2).tab e).isCodeTable,rfl,#[],#[rawInt t.2.1.line,rawInt t.2.1.col,.ref c'],rfl,y⟩)
 have apart:∀ t∈ts,a≠t.1:=fun t ht z=>by
  have y:=(hts t ht).1
  rw[← z,ha] at y;cases y
 cases hk:K.lookup a with
 | some o=>
  have e:=KX a o hk
  rw[ha] at e
  cases e
  refine core (zk3 ts fun _=>none) (zgb nd) (fun b u q=>.inr ((zeS q).elim (fun z=>by cases z) id)) (.inr ⟨_,vs.toArray,_,hk,rfl,rfl,rfl,by rw[List.size_toArray,lenV];exact hl,by simpa using rv⟩)
 | none=>
  refine core (zk3 ts (upd (fun _=>none) a (.frz { cls:=.type "list",data:=.seq vs.toArray } (.lst (ns.map V.int))))) (zgb nd) (fun b u q=>?_) (.inl (.inr ⟨_,by rw[zif apart];exact zaa⟩))
  rcases zeS q with z|z
  ·by_cases y:b=a
   ·rw[y,zaa] at z
    exact .inl ⟨y,hk,(Option.some.inj z).symm⟩
   ·rw[zag y] at z;cases z
  ·exact .inr z
theorem zjv {l:PySem.W.OpenLaw}{n k:Nat}{q:Program}{loose:List Str}{XP:(Str→Option Value)→Heap→Prop}{YP:World→Heap→Prop}{d:DefRec}{K:Params→PySem.W.Frag}{x:Str}{TS:List Addr}
  (hn:l.most=some n) (hn2:n≤sizeLine) (hdf:d.params.defaults=[]) (hr:zb9 k callerA)
  (hY:∀ (w:World) (h:Heap),YP w h→(K w.params).In h∧∀ P∈TS,h.get? P=some (PySem.W.tabObj #[]))
  (F:∀ (w:World) (mg:Str→Option Value) (fa:Addr) (h:Heap),(K w.params).In h→h.Ns mainGlobals mg→mg d.name=some (.ref fa) →
   ∃ (fd:FuncData) (ts:List Tab) (sp:Sp),(∀ (s:Shared) (u:Value),BindsTo s fd ⟨[u],[]⟩ [(x,u)])∧(ts.map (·.1)).Nodup∧(∀ t∈ts,t.1∈TS∧(∃ c,PySem.W.codeHdIn (K w.params) c t.1=true)∧(K w.params).lookup t.1=none) ∧
    (∀ (H:Hp) (a:Addr) (ns:List Int),ns.length≤n→zie ts H→SqL (K w.params) H a (ns.map V.int)→sp [.ref a] H (fun v _=>v=.bl true) fun _ _ _=>False) ∧
    ∀ base:Heap,(K w.params).In base→base.Ns mainGlobals mg→zdx l.prog w (K w.params) mg base CX0 k fa fd [x] sp) :
  PySem.W.WalkO q loose XP YP l.row.toRowW d [] (fun f vs=>PySem.call f vs):=by
 refine Att.zf7 hn hdf fun w s₀ s₁ mg mb fa o pm cd doc a vs ns G Y ho hd hcd hmg hobj hints hlen hg=>?_
 obtain⟨KX,tb⟩:=hY w _ Y
 obtain⟨fd,ts,sp,hb,nd,ht,hsp,hF⟩:=F w mg fa _ KX G.T.g hmg
 exact zig KX G.T.g G.T.b G.T.builtins G.T.nolimit G.T.bmain hg hobj hints (Nat.le_trans hlen hn2) hr nd (fun t m=>⟨tb _ (ht t m).1,(ht t m).2⟩) hF hb (fun H hO hS=>hsp H a ns hlen hO hS) fun H e s' z=>z
end L2
namespace L2
open PySem PySem.Spec PyProof.Rows
section
variable {X:Cx}{a b:Expr}{zbe:List Expr}{ta tb:TE}{pos:Pos}
end
end L2
namespace L2
open PySem PySem.Spec PyProof.Rows
theorem zcw {i:Int} (h1:-(2 ^ 62)≤i) (h2:i≤2 ^ 62):Builtin.Range.rangeFitsLong i=true:=by
 unfold Builtin.Range.rangeFitsLong
 rw[decide_eq_true (by omega),decide_eq_true (by omega)]
 rfl
section
variable {prog:Program}{w:World}{A:Around}{E:Value→Shared→Prop}{s:Shared}
end
end L2
namespace L2
open PySem PySem.Spec PyProof.Rows
def zbH (key:V→Int) (xs:List V) (m:V):Prop:=∃ i:Nat,xs[i]?=some m∧(∀ (j:Nat) x,xs[j]?=some x→key m≤key x)∧∀ (j:Nat) x,j<i→xs[j]?=some x→key m<key x
section
variable {X:Cx}{pins:List (Addr×Obj)}{σ:St}{H H1:Hp}{s:Shared}{A:Around}{E:Value→Shared→Prop}
theorem zcm.more {a b:Addr}{o:Obj} (fp:zcm X pins H a) (ne:b≠a):zcm X (pins++[(b,o)]) H a:=by
 obtain⟨g0,g1,g2,g3,g4,g5⟩:=fp
 refine⟨g0,g1,g2,g3,g4,fun p hp=>?_⟩
 rcases List.mem_append.mp hp with z|z
 ·exact g5 p (List.mem_append_left _ z)
 ·rcases List.mem_append.mp z with y|y
  ·exact g5 p (List.mem_append_right _ y)
  ·rw[List.mem_singleton.mp y]
   exact ne
theorem Inv.swap {p q:Addr×Obj} (I:Inv X ((pins++[p])++[q]) σ H s):Inv X ((pins++[q])++[p]) σ H s:=I.pins_of fun r hr=>I.pin r (List.mem_append_right _ (by
  simp only[List.mem_append,List.mem_singleton] at hr ⊢
  rcases hr with(h|h)|h
  ·exact .inl (.inl h)
  ·exact .inr h
  ·exact .inl (.inr h)))
theorem Inv.less {p:Addr×Obj} (I:Inv X (pins++[p]) σ H s):Inv X pins σ H s:=I.pins_of fun r hr=>I.pin r (List.mem_append_right _ (List.mem_append_left _ hr))
variable {f d it S:Addr}{fo o:Obj}{key:V→Int}{kvs:List (Key×V)}{es:Array DictEntry}{ep:Nat}
theorem zj9 (I:Inv X pins σ H s) (hd:H d=some (.frz o (.dK kvs))) (hdat:o.data=.dict es ep):∃ vs,KV kvs vs∧s.heap.DictAt (zaM X.prog X.w) d vs ep:=by
 obtain⟨ho,hdk⟩:=I.hok _ _ hd
 obtain⟨z,hsm,vs,rel,⟨o',es2,ep2,ho2,hx2,hd2,r2⟩⟩:=hdk
 rw[ho] at ho2;cases ho2
 rw[hdat] at hd2;cases hd2
 exact⟨vs,rel,⟨o,es,ho,hx2,hdat,r2⟩⟩
theorem zfI {j:Nat}{k:Key}{x:V}{oI:Obj}{Q:Option Value→Shared→Prop} (fpI:zcm X pins H1 it) (I:Inv X (pins++[(it,oI)]) σ H s) (hd:H d=some (.frz o (.dK kvs))) (hdat:o.data=.dict es ep) (hit:s.heap.IsKeyIter it d j kvs.length ep) (hx:kvs[j]?=some (k,x))
  (h:∀ u h' oI',zaQ (kV k) u→Inv X (pins++[(it,oI')]) σ H { s with heap:=h' }→h'.IsKeyIter it d (j + 1) kvs.length ep→h'.get? it=some oI'→Q (some u) { s with heap:=h' }):wpAny (model X.prog X.w) A (pyNext (.ref it)) Q E s:=by
 obtain⟨vs,rel,dat⟩:=zj9 I hd hdat
 obtain⟨u,hu,ru⟩:=rel.get hx
 have hlen:kvs.length=vs.length:=rel.length
 rw[hlen] at hit
 refine wpAny_pyNext_dict_item hit dat hu fun v h' hkey hit' hs'=>?_
 obtain⟨oi,ei,ci,di⟩:=id hit'
 have I1:=I.repin (t':=s.toks) (h':=h') fpI (fun b o hb e=>hs'.extBut b o hb e) ei (by intro v z;rw[di] at z;cases z)
 exact h v h' oi (kV_of hkey) I1 (by rw[hlen];exact hit') ei
theorem zih {oI:Obj}{Q:Option Value→Shared→Prop} (hh:A.handled=X.A.handled) (fpI:zcm X pins H1 it) (I:Inv X (pins++[(it,oI)]) σ H s) (hd:H d=some (.frz o (.dK kvs))) (hdat:o.data=.dict es ep) (hit:s.heap.IsKeyIter it d kvs.length kvs.length ep)
  (h:∀ h',Inv X pins σ H { s with heap:=h' }→Q none { s with heap:=h' }):wpAny (model X.prog X.w) A (pyNext (.ref it)) Q E s:=by
 obtain⟨vs,rel,dat⟩:=zj9 I hd hdat
 have hlen:kvs.length=vs.length:=rel.length
 obtain⟨f0,f1,f2,f3,f4,f5⟩:=fpI
 have hn:=(I.pin (it,oI) (List.mem_append_right _ (List.mem_append_right _ (List.mem_singleton.mpr rfl)))).2.1
 rw[hlen] at hit
 have I0:=I.less
 refine zhZ (by have:=I.hd;unfold Hd at this ⊢;rw[hh];exact this) hit dat (List.getElem?_eq_none (Nat.le_refl _)) fun h' eb=>h h' (I0.turned (t':=s.toks) (fun b o hb e=>eb b o hb e) hn f1 f3 f4 f5)
def zbp (kvs:List (Key×V)):List V:=kvs.map fun p=>kV p.1
def zii (key:V→Int) (xs:List V) (i n:Nat):Prop:=∀ (j:Nat) x m,j<n→xs[j]?=some x→xs[i]?=some m→key m≤key x∧(j<i→key m<key x)
variable {R:Result→Shared→Prop}
theorem zij (hh:A.handled=X.A.handled) (kr:zeR X A.in1 f fo σ H1 key (zbp kvs)) (hf:(f,fo)∈pins) (hd:H1 d=some (.frz o (.dK kvs))) (hdat:o.data=.dict es ep) (fpI:zcm X pins H1 it) (fpS:zcm X pins H1 S) (ne:S≠it)
  (hR:∀ i m v H' s',(zbp kvs)[i]?=some m→zaQ m v→zii key (zbp kvs) i kvs.length→Inv X pins σ H' s'→zaj H1 H'→R (.ok (.ret v)) s') :
  ∀ (r j i:Nat) (s:Shared) (H:Hp) (m:V) (vb:Value) (tb:Tok) (c:Nat) (oI:Obj),kvs.length - (j + 1)=r→j + 1≤kvs.length→Inv X ((pins++[(S,seqObj "list" #[vb,.int (key m) tb] c)])++[(it,oI)]) σ H s→zaj H1 H→s.heap.IsKeyIter it d (j + 1) kvs.length ep →
   (zbp kvs)[i]?=some m→zaQ m vb→i≤j→zii key (zbp kvs) i (j + 1)→codeAny (model X.prog X.w) A (.builtin "min.loop" ⟨[.ref it,.ref f,.ref S],[]⟩) R s:=by
 have hname:(toString "min"++toString ".loop":String)="min.loop":=by decide
 have hlx:(zbp kvs).length=kvs.length:=List.length_map _
 have hh1:A.in1.handled=X.A.handled:=hh
 intro r
 induction r with
 | zero=>
  intro j i s H m vb tb c oI hr hj I sm hit hm rm hij best
  have hin:j + 1=kvs.length:=by omega
  rw[hin] at hit best
  have nS:=I.pin (S,seqObj "list" #[vb,.int (key m) tb] c) (by simp)
  refine codeAny_builtin PySem.F.entry_min_loop ?_
  rw[Around.under_plainId PySem.F.plain_min_loop _]
  show wpAny _ A.in1 (seqItems? (.ref S) >>= _) _ _ _
  refine wpAny_bind (wpAny_seqItems nS.1 rfl ?_)
  show wpAny _ A.in1 (tryCatch (pyNext (.ref it)) _ >>= _) _ _ _
  refine wpAny_bind (wpAny_tryCatch (zih hh1 (fpI.more ne) I (sm _ _ hd) hdat hit fun h' I1=>?_))
  have nS1:=I1.pin (S,seqObj "list" #[vb,.int (key m) tb] c) (by simp)
  have s1:=Heap.SameBut.update h' S (Obj.mapSeq fun _=>(#[]:Array Value))
  show wpAny _ A.in1 (updateSeq S (fun _=>#[]) >>= _) _ _ _
  refine wpAny_bind ?_
  refine wpAny_updateSeq nS1.1 rfl (wpAny_bind (wpAny_letGo (wpAny_pure ?_)))
  obtain⟨f0,f1,f2,f3,f4,f5⟩:=fpS
  exact hR i m vb H _ hm rm best (I1.less.turned (t':=s.toks) (fun b o z q=>(s1.2 b z).trans q) nS1.2.1 f1 f3 f4 f5) sm
 | succ r ih=>
  intro j i s H m vb tb c oI hr hj I sm hit hm rm hij best
  have hlt:j + 1<kvs.length:=by omega
  have nS:=I.pin (S,seqObj "list" #[vb,.int (key m) tb] c) (by simp)
  refine codeAny_builtin PySem.F.entry_min_loop ?_
  rw[Around.under_plainId PySem.F.plain_min_loop _]
  show wpAny _ A.in1 (seqItems? (.ref S) >>= _) _ _ _
  refine wpAny_bind (wpAny_seqItems nS.1 rfl ?_)
  show wpAny _ A.in1 (tryCatch (pyNext (.ref it)) _ >>= _) _ _ _
  obtain⟨⟨k,y⟩,hx⟩:∃ p,kvs[j + 1]?=some p:=⟨kvs[j + 1],by simp[hlt]⟩
  have hkx:(zbp kvs)[j + 1]?=some (kV k):=by unfold zbp;rw[List.getElem?_map,hx];rfl
  refine wpAny_bind (wpAny_tryCatch (zfI (fpI.more ne) I (sm _ _ hd) hdat hit hx fun v h' oI' rv I1 hit' hoI'=>?_))
  show wpAny _ A.in1 (tryCatch (holding [v] (call (.ref f) [v])) _ >>= _) _ _ _
  have pf:=I1.pin (f,fo) (List.mem_append_right _ (List.mem_append_left _ (List.mem_append_left _ hf)))
  refine wpAny_bind (wpAny_tryCatch (wpAny_holding (wpAny_mono (kr (kV k) v _ H _ (List.mem_of_getElem? hkx) rv I1 sm pf.1) (fun kv s2 hq=>?_) fun _ _ z=>z.elim)))
  obtain⟨kk,H3,I3,rk,rfl,sm3⟩:=hq
  obtain⟨t2,rfl⟩:∃ t,kv=Value.int (key (kV k)) t:=rk
  have nS2:=I3.pin (S,seqObj "list" #[vb,.int (key m) tb] c) (by simp)
  have nI2:=I3.pin (it,oI') (by simp)
  have hit2:s2.heap.IsKeyIter it d (j + 1 + 1) kvs.length ep:=by
   obtain⟨o2,e2,c2,d2⟩:=hit'
   rw[hoI'] at e2
   cases e2
   exact⟨_,nI2.1,c2,d2⟩
  show wpAny _ A.in1 (tryCatch (holding [v,.int (key (kV k)) t2] (richCompare .Lt (.int (key (kV k)) t2) (.int (key m) tb) >>= _)) _ >>= _) _ _ _
  refine wpAny_bind (wpAny_tryCatch (wpAny_holding (wpAny_bind (CmpOf.ints_lt (prog:=X.prog) (w:=X.w) (A:=A.in1) (P:=fun i v=>∃ t,v=.int (if i=0 then key m else key (kV k)) t) (fun i=>if i=0 then key m else key (kV k)) (fun i v h=>h) 1 0 _ _ _ _ _ ⟨t2,rfl⟩ ⟨tb,rfl⟩ ?_))))
  refine wpAny_bind (wpAny_holding (wpAny_truthy_bool ?_))
  refine wpAny_bind (wpAny_letGo (wpAny_pure ?_))
  show wpAny _ A.in1 (if decide (key (kV k)<key m)=true then _ else _) _ _ _
  by_cases hb:key (kV k)<key m
  ·have s1:=Heap.SameBut.update s2.heap S (Obj.mapSeq fun _=>#[v,.int (key (kV k)) t2])
   rw[if_pos (decide_eq_true hb)]
   refine wpAny_bind ?_
   refine wpAny_updateSeq nS2.1 rfl (wpAny_bind (wpAny_letGo ?_))
   rw[hname]
   have I4:=I3.swap.repin (t':=s2.toks) (fpS.more ne.symm) (fun b o z q=>(s1.2 b z).trans q) (get?_update_seq nS2.1 fun _=>#[v,.int (key (kV k)) t2]) (by intro v z;cases z)
   refine wpAny_pure ⟨plainId_quiet PySem.F.plain_min_loop _,ih (j + 1) (j + 1) _ H3 (kV k) v t2 _ oI' (by omega) hlt I4.swap (sm.trans sm3) ?_ hkx rv (Nat.le_refl _) ?_⟩
   ·obtain⟨o2,e2,c2,d2⟩:=hit2
    exact⟨o2,(s1.2 it (Ne.symm ne)).trans e2,c2,d2⟩
   ·intro j' x m' h1 h2 h3
    rw[hkx] at h3
    cases h3
    by_cases e:j'=j + 1
    ·subst e
     rw[hkx] at h2
     cases h2
     exact⟨Int.le_refl _,fun z=>absurd z (Nat.lt_irrefl _)⟩
    ·have q:=(best j' x m (by omega) h2 hm).1
     exact⟨by omega,fun _=>by omega⟩
  ·rw[if_neg (by rw[decide_eq_false hb];decide)]
   refine wpAny_bind (wpAny_letGo ?_)
   rw[hname]
   refine wpAny_pure ⟨plainId_quiet PySem.F.plain_min_loop _,ih (j + 1) i _ H3 m vb tb c oI' (by omega) hlt I3 (sm.trans sm3) hit2 hm rm (by omega) ?_⟩
   intro j' x m' h1 h2 h3
   by_cases e:j'=j + 1
   ·subst e
    rw[hkx] at h2
    rw[hm] at h3
    cases h2
    cases h3
    exact⟨by omega,fun z=>by omega⟩
   ·exact best j' x m' (by omega) h2 h3
theorem zg7 (hh:A.handled=X.A.handled) (kr:zeR X A.in1 f fo σ H1 key (zbp kvs)) (hf:(f,fo)∈pins) (hd:H1 d=some (.frz o (.dK kvs))) (hdat:o.data=.dict es ep) (fpI:zcm X pins H1 it) (fpS:zcm X pins H1 S) (ne:S≠it) (hn:0<kvs.length){c:Nat}{oI:Obj}
  (I:Inv X ((pins++[(S,seqObj "list" #[] c)])++[(it,oI)]) σ H s) (sm:zaj H1 H) (hit:s.heap.IsKeyIter it d 0 kvs.length ep)
  (hR:∀ i m v H' s',(zbp kvs)[i]?=some m→zaQ m v→zii key (zbp kvs) i kvs.length→Inv X pins σ H' s'→zaj H1 H'→R (.ok (.ret v)) s'):codeAny (model X.prog X.w) A (.builtin "min.loop" ⟨[.ref it,.ref f,.ref S],[]⟩) R s:=by
 have hname:(toString "min"++toString ".loop":String)="min.loop":=by decide
 have nS:=I.pin (S,seqObj "list" #[] c) (by simp)
 refine codeAny_builtin PySem.F.entry_min_loop ?_
 rw[Around.under_plainId PySem.F.plain_min_loop _]
 show wpAny _ A.in1 (seqItems? (.ref S) >>= _) _ _ _
 refine wpAny_bind (wpAny_seqItems nS.1 rfl ?_)
 show wpAny _ A.in1 (tryCatch (pyNext (.ref it)) _ >>= _) _ _ _
 obtain⟨⟨k,y⟩,hx⟩:∃ p,kvs[0]?=some p:=⟨kvs[0],by simp[hn]⟩
 have hkx:(zbp kvs)[0]?=some (kV k):=by unfold zbp;rw[List.getElem?_map,hx];rfl
 refine wpAny_bind (wpAny_tryCatch (zfI (fpI.more ne) I (sm _ _ hd) hdat hit hx fun v h' oI' rv I1 hit' hoI'=>?_))
 show wpAny _ A.in1 (tryCatch (holding [v] (call (.ref f) [v])) _ >>= _) _ _ _
 have pf:=I1.pin (f,fo) (List.mem_append_right _ (List.mem_append_left _ (List.mem_append_left _ hf)))
 refine wpAny_bind (wpAny_tryCatch (wpAny_holding (wpAny_mono (kr (kV k) v _ H _ (List.mem_of_getElem? hkx) rv I1 sm pf.1) (fun kv s2 hq=>?_) fun _ _ z=>z.elim)))
 obtain⟨kk,H3,I3,rk,rfl,sm3⟩:=hq
 obtain⟨t2,rfl⟩:∃ t,kv=Value.int (key (kV k)) t:=rk
 have nS2:=I3.pin (S,seqObj "list" #[] c) (by simp)
 have nI2:=I3.pin (it,oI') (by simp)
 have s1:=Heap.SameBut.update s2.heap S (Obj.mapSeq fun _=>#[v,.int (key (kV k)) t2])
 show wpAny _ A.in1 (updateSeq S (fun _=>#[v,.int (key (kV k)) t2]) >>= _) _ _ _
 refine wpAny_bind (wpAny_updateSeq nS2.1 rfl ?_)
 rw[hname]
 have I4:=I3.swap.repin (t':=s2.toks) (fpS.more ne.symm) (fun b o z q=>(s1.2 b z).trans q) (get?_update_seq nS2.1 fun _=>#[v,.int (key (kV k)) t2]) (by intro v z;cases z)
 refine wpAny_pure ⟨plainId_quiet PySem.F.plain_min_loop _,zij hh kr hf hd hdat fpI fpS ne hR _ 0 0 _ H3 (kV k) v t2 _ oI' rfl hn I4.swap (sm.trans sm3) ?_ hkx rv (Nat.le_refl _) ?_⟩
 ·obtain⟨o2,e2,c2,d2⟩:=hit'
  rw[hoI'] at e2
  cases e2
  exact⟨_,(s1.2 it (Ne.symm ne)).trans nI2.1,c2,d2⟩
 ·intro j' x m' h1 h2 h3
  obtain rfl:j'=0:=by omega
  rw[h2] at h3
  cases h3
  exact⟨Int.le_refl _,fun z=>absurd z (Nat.lt_irrefl _)⟩
theorem zik {Q:Value→Shared→Prop} (hd:H d=some (.dK kvs)) (hn:0<kvs.length) (hf:(f,fo)∈pins) (I:Inv X pins σ H s)
  (kr:∀ o,zeR X X.A.in1 f fo σ (upd H d (.frz o (.dK kvs))) key (zbp kvs))
  (h:∀ m v H' s',zbH key (zbp kvs) m→zaQ m v→Inv X pins σ H' s'→zaj H H'→Q v s') :
  wpAny (model X.prog X.w) X.A (call (.builtin "min") [.ref d] [(Str.ofString "key",.ref f)]) Q E s:=by
 obtain⟨z,hsm,vs,rel,dd⟩:=zhI I.hok hd
 obtain⟨o,es',ep,ho,hx,hdat,r⟩:=id dd
 have dat:s.heap.DictAt (zaM X.prog X.w) d vs ep:=⟨o,es',ho,hx,hdat,r⟩
 have nf:=I.notFrz hd
 have hname:(toString "min"++toString ".loop":String)="min.loop":=by decide
 refine kmk_tree PySem.F.kind_min PySem.F.plain_min PySem.F.entry_min (kmk_min_key _ _) ?_
 refine(show wpAny _ _ (Builtin.Builtins.bindParams "min" ["key","default"] 0 ⟨[],[(Str.ofString "key",Value.ref f)]⟩ >>= _) _ _ _ from wpAny_bind (wpAny_of_eq (show Builtin.Builtins.bindParams "min" ["key","default"] 0 ⟨[],[(Str.ofString "key",Value.ref f)]⟩=pure [some (Value.ref f),none] from rfl) ?_))
 refine wpAny_bind (wpAny_pure ?_)
 refine wpAny_bind (wpAny_pyIter_dict hsm dat ?_)
 refine wpAny_bind (wpAny_newList ?_ (Nat.zero_le _))
 rw[hname]
 refine wpAny_pure ⟨plainId_quiet PySem.F.plain_min_loop _,?_⟩
 have hz:(s.heap.push { cls:=.type "dict_keyiterator",data:=.fields #[.ref d,.int 0 0,.int vs.length 0,.int ep 0] }).objs.size=s.heap.objs.size + 1:=Heap.size_push ..
 have nd:∀ b,s.heap.objs.size≤b→upd H d (.frz o (.dK kvs)) b=none:=fun b hb=>by
  rw[zag (Ne.symm (Nat.ne_of_lt (Nat.lt_of_lt_of_le (Heap.lt_size ho) hb)))]
  exact I.hok.fresh hb
 have If:=I.freeze hd ho
 have fpI:zcm X pins (upd H d (.frz o (.dK kvs))) s.heap.objs.size:=If.fpOk (Nat.le_refl _) (nd _ (Nat.le_refl _))
 have fpS:zcm X pins (upd H d (.frz o (.dK kvs))) (s.heap.objs.size + 1):=If.fpOk (Nat.le_succ _) (nd _ (Nat.le_succ _))
 rw[hz]
 have ne:s.heap.objs.size + 1≠s.heap.objs.size:=Nat.succ_ne_self _
 have I2:=If.kept (t':=s.toks) (h':=(s.heap.push { cls:=.type "dict_keyiterator",data:=.fields #[.ref d,.int 0 0,.int vs.length 0,.int ep 0] }).push (seqObj "list" #[] 0)) fun b o e=>Heap.get?_push_of_some _ (Heap.get?_push_of_some _ e)
 have oS:((s.heap.push { cls:=.type "dict_keyiterator",data:=.fields #[.ref d,.int 0 0,.int vs.length 0,.int ep 0] }).push (seqObj "list" #[] 0)).get? (s.heap.objs.size + 1)=some (seqObj "list" #[] 0):=by
  rw[← hz]
  exact Heap.get?_push_size _ rfl
 have oI:((s.heap.push { cls:=.type "dict_keyiterator",data:=.fields #[.ref d,.int 0 0,.int vs.length 0,.int ep 0] }).push (seqObj "list" #[] 0)).get? s.heap.objs.size=some { cls:=.type "dict_keyiterator",data:=.fields #[.ref d,.int 0 0,.int vs.length 0,.int ep 0] }:=Heap.get?_push_of_some _ (Heap.get?_push_size _ rfl)
 refine zg7 (S:=s.heap.objs.size + 1) (it:=s.heap.objs.size) (c:=0) (oI:={ cls:=.type "dict_keyiterator",data:=.fields #[.ref d,.int 0 0,.int vs.length 0,.int ep 0] }) rfl (kr o) hf zaa hdat fpI fpS ne hn (I2.pins_of fun p hp=>?_) (zaj.refl _) ?_ fun i m v H' s' hm rm best I' sm=>?_
 ·rcases List.mem_append.mp hp with z|z
  ·rcases List.mem_append.mp z with y|y
   ·exact I2.pin p (List.mem_append_right _ y)
   ·rw[List.mem_singleton.mp y]
    exact⟨oS,fpS.1,fpS.2.1,fpS.2.2.1,by intro v z;cases z⟩
  ·rw[List.mem_singleton.mp z]
   exact⟨oI,fpI.1,fpI.2.1,fpI.2.2.1,by intro v z;cases z⟩
 ·rw[rel.length]
  exact⟨_,oI,rfl,rfl⟩
 ·have e':=sm d _ zaa
  refine h m v _ s' ⟨i,hm,fun j x hx=>(best j x m (by have:=(List.getElem?_eq_some_iff.mp hx).1;unfold zbp at this;rw[List.length_map] at this;exact this) hx hm).1,fun j x hj hx=>(best j x m (by have:=(List.getElem?_eq_some_iff.mp hx).1;unfold zbp at this;rw[List.length_map] at this;exact this) hx hm).2 hj⟩ rm (I'.thaw nf e') fun b u q=>?_
  by_cases c:b=d
  ·subst c
   rw[hd] at q
   cases q
   exact zaa
  ·rw[zag c]
   exact sm b u (by rw[zag c];exact q)
end
def tMinK (P:Addr) (lpos:Pos) (qual:Str) (cap:List (Option Nat)) (ta:TA) (te:TE):TE:=fun σ H Q=>ta σ H fun us H1=>∃ (d:Addr) (kvs:List (Key×V)) (key:V→Int),us=[.ref d]∧H1 d=some (.dK kvs)∧0<kvs.length∧H1 P=some (.tbl lpos qual) ∧
 (∀ x∈zbp kvs,∀ o H2,zaj (upd H1 d (.frz o (.dK kvs))) H2→te (lamS cap σ x) H2 fun k H3=>k=.int (key x)∧zaj H2 H3)∧∀ m H',zaj H1 H'→zbH key (zbp kvs) m→Q m H'
theorem zk4 {X:Cx}{a body:Expr}{ta:TA}{te:TE}{params:Arguments}{scope:Scope}{p pos kpos lpos:Pos}{c P:Addr}{N:List Str}{cap:List (Option Nat)}{x:Str}{k:Nat} (hg:Gl X "min") (hm:X.mg "min"=none) (hr:zb9 k X.A) (ha:PA X [a] ta)
  (hcode:X.env.code=.ref c) (hc:PySem.W.codeHdIn X.K c P=true) (ok:zb3 X.env.scope scope X.N N cap=true)
  (he:∀ f c' s H,PE (zic X scope N f (.ref c') X.A.in1 s H) body te)
  (hx:N[0]?=some x:=by rfl) (hl:scope.names.lookup x=some .local:=by rfl) (hc0:cap[0]?=some none:=by rfl)
  (hco:scope.isCoroutine=false:=by rfl) (hgen:scope.isGenerator=false:=by rfl)
  (hdef:defaultsOf params X.env=([],[]):=by rfl)
  (hbind:∀ pm c' ctv u,bindArgs (PySem.W.kla_fn "<lambda>" (zjt X) params body scope (zb0 X.env.cells scope.names []) pm (.ref c') ctv) ⟨[u],[]⟩=pure [(x,u)]:=by intro _ _ _ _;rfl)
  (hs:backTo pos (starEach [a] X.env)=(false,eval a X.env)::backTo pos (starEach [] X.env):=by rfl) (hp:(backTo pos (starEach [a] X.env)).any (·.1)=false:=by rfl) (hal:(backToKw pos (keywordEach [⟨some "key",.Lambda params body scope lpos,kpos⟩] X.env)).all (·.1.isSome)=true:=by rfl)
  (han:(backToKw pos (keywordEach [⟨some "key",.Lambda params body scope lpos,kpos⟩] X.env)).any (·.1.isNone)=false:=by rfl)
  (hkk:∀ u:Value,((backToKw pos (keywordEach [⟨some "key",.Lambda params body scope lpos,kpos⟩] X.env)).filterMap (·.1)).zip [u]=[(Str.ofString "key",u)]:=by intro u;rfl) :
  PE X (.Call (.Name "min" p) [a] [⟨some "key",.Lambda params body scope lpos,kpos⟩] pos) (tMinK P lpos (zjt X) cap ta te):=by
 intro pins s σ H Q I h
 refine wpAny_Call_Name_kw (zcn I hg hm zgv ?_)
 refine PyProof.Rows.callWith_kw (thn (ha pos pins s σ H _ I h) fun us s1=>L2.ex5 fun vs H1 I1 r1 hq_=>?_) hs hp hal han
 obtain⟨d,kvs,key,e,q1,hn,hP,hkey,fin⟩:=hq_
 subst e
 obtain⟨u,rfl,ru⟩:=zdw r1
 obtain rfl:u=Value.ref d:=ru
 refine PyProof.Rows.kws_cons (zju I1 hcode hc hP ok hdef fun f c' pm ctv H2 s2 I2 sm2 hsz hf0 hfo lc=>PyProof.Rows.kws_nil ?_)
 rw[hkk]
 have I3:Inv X (pins++[(f,zgx X scope params body pm c' ctv)]) σ H2 s2:=I2.pins_of fun q hq=>by
  rcases List.mem_append.mp hq with z|z
  ·exact I2.pin q (List.mem_append_right _ z)
  ·rw[List.mem_singleton.mp z]
   exact⟨hfo,hf0,Nat.ne_of_gt (Nat.lt_of_lt_of_le I1.lt hsz),I1.nofs hsz,by intro v y;cases y⟩
 have up2:∀ o,zaj (upd H1 d (.frz o (.dK kvs))) (upd H2 d (.frz o (.dK kvs))):=fun o b u q=>by
  by_cases z:b=d
  ·subst z
   rw[zaa] at q ⊢
   exact q
  ·rw[zag z] at q ⊢
   exact sm2 b u q
 have kr:∀ o,zeR X X.A.in1 f (zgx X scope params body pm c' ctv) σ (upd H2 d (.frz o (.dK kvs))) key (zbp kvs):=by
  intro o v u pins' Hi si hv rv Ii smi hoi
  have lc2:zd0 Hi c' P (zjt X):=by
   obtain⟨oc,ws,t,e1,e2,e3⟩:=lc
   exact⟨oc,ws,t,smi _ _ (by rw[zag (fun z=>by rw[z,sm2 _ _ q1] at e1;cases e1)];exact e1),e2,e3⟩
  have hrun:=zk0 (A:=X.A.in1) (x:=x) (Q:=fun k H3=>k=.int (key v)∧zaj Hi H3) Ii rfl rfl hr.depth hoi lc2 ok hx hl hc0 (hbind pm c' ctv u) hco hgen rv (he f c' si Hi) (hkey v hv o Hi ((up2 o).trans smi))
  refine wpAny_call (codeAny_mono hrun fun r s' hq=>?_)
  obtain⟨u',rfl,ce⟩:=hq
  exact Ii.after ce
 refine zik (sm2 _ _ q1) hn (List.mem_append_right _ (List.mem_singleton.mpr rfl)) I3 kr fun m v H' s' fm rm I' sm=>?_
 exact⟨m,H',I'.less,rm,fin m H' (sm2.trans sm) fm⟩
end L2
namespace L2
open PySem PySem.Spec PyProof.Rows
section
variable {prog:Program}{w:World}{A:Around}{E:Value→Shared→Prop}{s:Shared}{cs:List Addr}
theorem zil (hc:HdC A cs) (I:Addr) (hI:I∉cs) (n:Nat):Walks prog w A I (I::cs) [I] n (fun i v=>∃ t,v=.int i t) (fun i h=>IsRangeIter h I (i:Nat) ((n:Int) - (i:Nat)) 1∧Chn h cs) where
 sub:=fun b hb=>by simp at hb;simp[hb]
 frame:=fun _ _ _ x hk=>⟨hk I (by simp) _ x.1,x.2.mono fun b o hb e=>hk b (by simp[hb]) o e⟩
 item:=fun i s Q E hi x hQ=>by
  refine wpAny_pyNext_range_item x.1 (by omega) fun h' hit' hs'=>?_
  refine hQ _ h' _ ⟨_,rfl⟩ ⟨?_,x.2.but hI hs'.extBut⟩ fun b o hb e=>hs'.extBut b o (fun h=>hb (by simp[h])) e
  rw[show(((i + 1:Nat):Int))=(i:Int) + 1 by omega,show(n:Int) - ((i:Int) + 1)=(n:Int) - (i:Int) - 1 by omega]
  exact hit'
 done:=fun s Q E x hQ=>zeb (hc.hd x.2) x.1 (by omega) fun h' he'=>hQ h' s.toks fun b o hb e=>he' b o (fun h=>hb (by simp[h])) e
 self:=fun _ _ _ _ x hQ=>wpAny_pyIter_rangeiter x.1 hQ
theorem zg8 {R:Result→Shared→Prop} (hc:HdC A cs){r:Addr}{n:Nat}{t u v:Tok} (hr:IsRange s.heap r 0 n 1 t u v) (c:Chn s.heap cs) (hlen:n≤2 ^ 24) (S:Addr) (res:Value) (c₀:Nat) (hS:s.heap.get? S=some { cls:=.type "list",data:=.seq #[] c₀ }) (hSc:S∉cs)
  (hR:∀ h' tk acc' c',(∀ b o,b≠S→s.heap.get? b=some o→h'.get? b=some o)→h'.get? S=some { cls:=.type "list",dict:=none,data:=.seq acc' c',slots:=#[] }→ItemsOf (fun i v=>∃ t,v=.int i t) acc' n→R (.ok (.ret res)) { s with heap:=h',toks:=tk }) :
  wpAny (model prog w) A.in1 (Builtin.List.listExtendWith (.ref S) (.ref r) res) (fun fin s'=>match fin with|.done f=>R (.ok f) s'|.again c'=>c'.quiet=true∧codeAny (model prog w) A c' R s') (fun e s'=>R (.error e) s') s:=by
 have hn:Builtin.Range.rangeSize 0 n 1=n:=by rw[rangeSize_one];split <;> omega
 have hsmall:Builtin.Range.small 0 n 1=true:=by
  unfold Builtin.Range.small
  rw[zcw (i:=0) (by decide) (by decide),zcw (i:=(n:Int)) (by omega) (by omega),zcw (i:=1) (by decide) (by decide),hn,zcw (i:=(n:Int)) (by omega) (by omega),if_pos (by decide),zcw (i:=(n:Int) + (1 - 1)) (by omega) (by omega),Bool.or_true]
  rfl
 have hSr:S≠r:=fun e=>by rw[e,hr] at hS;simp at hS
 have hSI:S≠s.heap.objs.size:=Nat.ne_of_lt (Heap.lt_size hS)
 have hIc:s.heap.objs.size∉cs:=fun z=>Nat.lt_irrefl _ (c.lt _ z)
 have hSf:S∉s.heap.objs.size::cs:=by simp[hSI,hSc]
 have W:=(zil (prog:=prog) (w:=w) (A:=A.in1) hc s.heap.objs.size hIc n).toS
 have key:∀ (h:Heap) (c₁ tk:Nat),IsRangeIter h s.heap.objs.size ((0:Nat):Int) ((n:Int) - ((0:Nat):Int)) 1→Chn h cs→(∀ b o,b≠S→s.heap.get? b=some o→h.get? b=some o) →
   h.get? S=some { cls:=.type "list",data:=.seq #[] c₁ }→codeAny (model prog w) A (.builtin "list.extend.loop" ⟨[.ref S,.ref s.heap.objs.size,res],[]⟩) R { s with heap:=h,toks:=tk }:=by
  intro h c₁ tk hit ch hk hS₁
  refine codeAny_extend_loopS W (by rw[sizeLine_eq];omega) S hSf res n 0 _ #[] c₁ rfl (Nat.zero_le _) ⟨hit,ch⟩ hS₁ (ItemsOf.nil _) fun s' acc' c' mv hS' hacc=>?_
  rw[Moved.eq_with mv]
  refine hR s'.heap s'.toks acc' c' (fun b o hb e=>mv.heap b o (fun z=>?_) (hk b o hb e)) hS' hacc
  rcases List.mem_cons.mp z with e'|z
  ·exact hb e'
  ·exact absurd (Heap.lt_size e) (by rw[List.mem_singleton.mp z];exact Nat.lt_irrefl _)
 unfold Builtin.List.listExtendWith
 refine wpAny_bind (wpAny_typeOf (T:="range") ⟨_,hr,rfl⟩ ?_)
 have h1:Builtin.List.listSameRef (.ref S) (.ref r)=false:=by simp[Builtin.List.listSameRef,hSr]
 have h2:(Value.type "range" == Value.type "list")=false:=by decide
 have h3:(Value.type "range" == Value.type "tuple")=false:=by decide
 simp only[h1,h2,h3,Bool.or_false,Bool.false_eq_true,if_false]
 refine wpAny_bind (wpAny_pyIter_range hr hsmall ?_)
 refine wpAny_bind (wpAny_holding (wpAny_hint_range (n:=n) (Heap.get?_push_of_some _ hr) hn hlen ?_))
 rw[hn]
 have hit1:IsRangeIter (s.heap.push { cls:=.type "range_iterator",data:=.fields #[rawInt 0,rawInt n,rawInt 1] }) s.heap.objs.size ((0:Nat):Int) ((n:Int) - ((0:Nat):Int)) 1:=by
  rw[show(n:Int) - ((0:Nat):Int)=n by omega]
  exact Heap.get?_push_size _ rfl
 have hS1:=Heap.get?_push_of_some { cls:=.type "range_iterator",data:=.fields #[rawInt 0,rawInt n,rawInt 1] } hS
 have ch1:Chn (s.heap.push { cls:=.type "range_iterator",data:=.fields #[rawInt 0,rawInt n,rawInt 1] }) cs:=c.mono fun b o _ e=>Heap.get?_push_of_some _ e
 refine wpAny_ite_split (fun _=>?_) (fun _=>wpAny_pure ⟨plainId_quiet F.plain_extend_loop _,key _ c₀ _ hit1 ch1 (fun b o _ e=>Heap.get?_push_of_some _ e) hS1⟩)
 refine wpAny_bind (wpAny_rule ?_)
 refine wpAny_bind ?_
 show wpAny _ _ (updateSeq S (·.push .none) >>= fun _=>updateSeq S (·.pop)) _ _ _
 refine wpAny_bind (wpAny_updateSeq hS1 rfl ?_)
 have hS2:=Heap.get?_update_self (Obj.mapSeq (·.push Value.none)) hS1 rfl
 refine wpAny_updateSeq (hz:=by seq_fits) hS2 rfl ?_
 have hS3:=Heap.get?_update_self (Obj.mapSeq (·.pop)) hS2 rfl
 have oth:∀ b o,b≠S→(s.heap.push { cls:=.type "range_iterator",data:=.fields #[rawInt 0,rawInt n,rawInt 1] }).get? b=some o→(((s.heap.push { cls:=.type "range_iterator",data:=.fields #[rawInt 0,rawInt n,rawInt 1] }).update S (Obj.mapSeq (·.push Value.none))).update S (Obj.mapSeq (·.pop))).get? b=some o:=fun b o hb e=>
  (Heap.get?_update_other _ _ (Ne.symm hb)).trans ((Heap.get?_update_other _ _ (Ne.symm hb)).trans e)
 exact wpAny_pure ⟨plainId_quiet F.plain_extend_loop _,key _ _ _ (oth _ _ (Ne.symm hSI) hit1) (ch1.mono fun b o hb e=>oth b o (fun z=>hSc (by rw[← z];exact hb)) e) (fun b o hb e=>oth b o hb (Heap.get?_push_of_some _ e)) hS3⟩
theorem zim {Q:Value→Shared→Prop} (hc:HdC A cs){r:Addr}{n:Nat}{t u v:Tok} (hr:IsRange s.heap r 0 n 1 t u v) (c:Chn s.heap cs) (hlen:n≤2 ^ 24)
  (hQ:∀ h' tk acc' c',(∀ b o,s.heap.get? b=some o→h'.get? b=some o)→h'.get? s.heap.objs.size=some { cls:=.type "list",dict:=none,data:=.seq acc' c',slots:=#[] }→ItemsOf (fun i v=>∃ t,v=.int i t) acc' n→Q (.ref s.heap.objs.size) { s with heap:=h',toks:=tk }) :
  wpAny (model prog w) A (call (.type "list") [.ref r]) Q E s:=by
 refine callType_codes (Q₁:=fun obj s₁=>obj=.ref s.heap.objs.size∧s₁={ s with heap:=s.heap.push { cls:=.type "list",data:=.seq #[] } }) F.called_list (F.typeCall_list_1 _) F.entry_list_init (code_list_new _ ⟨rfl,rfl⟩) fun obj s₁ h₁=>?_
 obtain⟨rfl,rfl⟩:=h₁
 have hS:(s.heap.push { cls:=.type "list",data:=.seq #[] }).get? s.heap.objs.size=some { cls:=.type "list",data:=.seq #[] }:=Heap.get?_push_size _ rfl
 have hIc:s.heap.objs.size∉cs:=fun z=>Nat.lt_irrefl _ (c.lt _ z)
 refine⟨⟨_,hS,rfl⟩,F.args_list_init_2 _ _,?_⟩
 refine(show wpAny _ A.in1.in1 (do let old ← Builtin.List.listItems (.ref s.heap.objs.size);Builtin.List.listUpdate (.ref s.heap.objs.size) (fun _=>#[]);letGo old.toList.reverse;Builtin.List.listExtendWith (.ref s.heap.objs.size) (.ref r) .none) _ _ _ from wpAny_bind ?_)
 unfold Builtin.List.listItems
 refine wpAny_bind (wpAny_seqItems hS rfl (wpAny_pure ?_))
 refine(show wpAny _ A.in1.in1 (updateSeq s.heap.objs.size (fun _=>#[]) >>= fun _=>letGo (#[]:Array Value).toList.reverse >>= fun _=>Builtin.List.listExtendWith (.ref s.heap.objs.size) (.ref r) .none) _ _ _ from wpAny_bind (wpAny_updateSeq hS rfl (wpAny_bind (wpAny_letGo ?_))))
 have hS2:=Heap.get?_update_self (Obj.mapSeq (fun _=>(#[]:Array Value))) hS rfl
 have oth:∀ b o,s.heap.get? b=some o→((s.heap.push { cls:=.type "list",data:=.seq #[] }).update s.heap.objs.size (Obj.mapSeq (fun _=>(#[]:Array Value)))).get? b=some o:=fun b o e=>
  (Heap.get?_update_other _ _ (Ne.symm (Nat.ne_of_lt (Heap.lt_size e)))).trans (Heap.get?_push_of_some _ e)
 exact zg8 (A:=A.in1) hc (oth r _ hr) (c.mono fun b o _ e=>oth b o e) hlen _ .none _ hS2 hIc fun h' tk acc c' k hS' hacc=>⟨rfl,hQ h' tk acc c' (fun b o e=>k b o (Nat.ne_of_lt (Heap.lt_size e)) (oth b o e)) hS' hacc⟩
end
def rng (n:Nat):List V:=(List.range n).map fun i=>V.int (i:Nat)
theorem zjw {n:Nat}{acc:Array Value} (h:ItemsOf (fun i v=>∃ t,v=Value.int i t) acc n):zaX (rng n) acc.toList:=by
 have gen:∀ (k m:Nat) (us:List Value),us.length=k→(∀ i u,us[i]?=some u→∃ t,u=Value.int ((m + i:Nat):Int) t)→zaX ((List.range' m k).map fun i=>V.int (i:Nat)) us:=fun k=>by
  induction k with
  | zero=>
   intro m us hl _
   obtain rfl:=List.length_eq_zero_iff.mp hl
   exact .nil
  | succ k ih=>
   intro m us hl hu
   cases us with
   | nil=>cases hl
   | cons u us=>
    refine .cons ?_ (ih (m + 1) us (by simpa using hl) fun i x e=>?_)
    ·obtain⟨t,e⟩:=hu 0 u rfl
     exact⟨t,e⟩
    ·obtain⟨t,e⟩:=hu (i + 1) x (by simpa using e)
     refine⟨t,?_⟩
     rw[e,show m + (i + 1)=m + 1 + i by omega]
 unfold rng
 rw[List.range_eq_range']
 refine gen n 0 acc.toList (by rw[Array.length_toList];exact h.1) fun i u e=>?_
 rw[Nat.zero_add]
 exact h.2 i u (by rw[Array.getElem?_toList] at e;exact e)
theorem zfJ {X:Cx}{a:Expr}{ta:TA}{p p2 pos pos2:Pos} (hgl:Gl X "list") (hml:X.mg "list"=none) (hg:Gl X "range") (hm:X.mg "range"=none) (ha:PA X [a] ta) (hs:starEach [a] X.env=[(false,eval a X.env)]:=by rfl)
  (hs2:starEach [.Call (.Name "range" p2) [a] [] pos2] X.env=[(false,eval (.Call (.Name "range" p2) [a] [] pos2) X.env)]:=by rfl) :
  PE X (.Call (.Name "list" p) [.Call (.Name "range" p2) [a] [] pos2] [] pos) (fun σ H Q=>ta σ H fun vs H1=>∃ j:Nat,vs=[.int j]∧j≤10000∧∀ r,H1 r=none→Q (.ref r) (upd H1 r (.lst (rng j)))):=by
 intro pins s σ H Q I h
 refine wpAny_Call_Name_kw (zcn I hgl hml zdX ?_)
 refine PyProof.Rows.callWith_type1 ?_ hs2 rfl
 rw[hs2]
 refine Calls.spliced_cons ?_
 refine Call_ (zcn I hg hm boot_range (PyProof.Rows.callWith_type1 (thn (ha pos2 pins s σ H _ I h) fun us s1=>L2.ex5 fun vs H1 I1 r1 q1=>?_) hs rfl))
 obtain⟨j,e,j1,q⟩:=q1
 subst e
 cases r1 with
 | cons r rr=>
  cases rr
  obtain⟨t,rfl⟩:=r
  refine call_range_1 (Calls.spliced_nil ?_)
  obtain⟨cs,hcs,ch⟩:=I1.hd.chain
  have hz:(s1.heap.push { cls:=.type "range",data:=.fields #[.int 0 s1.toks,.int j t,.int 1 (s1.toks + 1)] }).objs.size=s1.heap.objs.size + 1:=Heap.size_push ..
  refine zim (s:={ s1 with heap:=s1.heap.push { cls:=.type "range",data:=.fields #[.int 0 s1.toks,.int j t,.int 1 (s1.toks + 1)] },toks:=s1.toks + 1 + 1 }) hcs (r:=s1.heap.objs.size) (n:=j) (Heap.get?_push_size _ rfl) (ch.mono fun b o _ e=>Heap.get?_push_of_some _ e) (by omega) fun h' tk acc c' k hS hacc=>?_
  dsimp only at k hS
  rw[hz] at hS
  have fr:H1 (s1.heap.objs.size + 1)=none:=I1.hok.fresh (Nat.le_succ _)
  refine⟨.ref (s1.heap.objs.size + 1),upd H1 (s1.heap.objs.size + 1) (.lst (rng j)),I1.laid (t':=tk) (fun b o e=>k b o (Heap.get?_push_of_some _ e)) (Nat.le_succ _) ⟨by unfold rng;rw[List.length_map,List.length_range,sizeLine_eq];omega,acc.toList,c',zjw hacc,by simpa using hS⟩,?_,q _ fr⟩
  show Value.ref _=Value.ref _
  rw[hz]
end L2
namespace L2
open PySem PySem.Spec PyProof.Rows
theorem zin {d:Addr}{o:Obj}{kvs:List (Key×V)}{g:TG}{tb:TS}{D:zfd}{σ:St}{H:Hp} (Pv:Nat→St→Hp→Prop) (h0:Pv 0 σ H) (hf:∀ i σ H,i≤kvs.length→Pv i σ H→H d=some (.frz o (.dK kvs)))
  (hs:∀ i k x T σ H,kvs[i]?=some (k,x)→H T=none→Pv i σ H→g (.ref T) σ (upd H T (.tup [kV k,x])) fun σ2 H2=>tb { D with nx:=Pv (i + 1),ct:=Pv (i + 1),bk:=D.nx } σ2 H2) (hd:∀ σ H,Pv kvs.length σ H→D.nx σ H) :
  ∃ W:Nat→Nat→St→Hp→Prop,(∃ m,W 0 m σ H)∧∀ i m σ H,W i m σ H →
   ((Iti d o kvs).stop i H∧D.nx σ H)∨((Iti d o kvs).go i H∧∃ N:St→Hp→Prop,(∀ σ' H',N σ' H'→∃ m',m'<m∧W (i + 1) m' σ' H')∧∀ x H',(Iti d o kvs).yld i H x H'→g x σ H' fun σ2 H2=>tb { D with nx:=N,ct:=N,bk:=D.nx } σ2 H2):=by
 refine⟨fun i m σ H=>m=kvs.length - i∧i≤kvs.length∧Pv i σ H,⟨kvs.length,by simp,Nat.zero_le _,h0⟩,?_⟩
 rintro i m σ H ⟨rfl,hi,p⟩
 have q:=hf i σ H hi p
 by_cases hlt:i<kvs.length
 ·refine .inr ⟨⟨q,hlt⟩,Pv (i + 1),fun σ' H' p'=>⟨kvs.length - (i + 1),by omega,rfl,hlt,p'⟩,fun v H' y=>?_⟩
  obtain⟨T,k,x,rfl,hT,hx,rfl⟩:=y
  exact hs i k x T σ H hx hT p
 ·have e:i=kvs.length:=by omega
  subst e
  exact .inl ⟨⟨q,Nat.le_refl _⟩,hd σ H p⟩
end L2
namespace L2
open PySem PySem.Spec PyProof.Rows
section
variable {X:Cx}
end
end L2
namespace L2
open PySem PySem.Spec PyProof.Rows
section
variable {X:Cx}
theorem zio {a:Expr}{ta:TA}{p pos kpos cpos:Pos}{j:Nat} (hg:Gl X "max") (hm:X.mg "max"=none) (ha:PA X [a] ta)
  (hs:backTo pos (starEach [a] X.env)=(false,eval a X.env)::backTo pos (starEach [] X.env):=by rfl) (hp:(backTo pos (starEach [a] X.env)).any (·.1)=false:=by rfl) (hal:(backToKw pos (keywordEach [⟨some "default",.Constant .none j cpos,kpos⟩] X.env)).all (·.1.isSome)=true:=by rfl)
  (han:(backToKw pos (keywordEach [⟨some "default",.Constant .none j cpos,kpos⟩] X.env)).any (·.1.isNone)=false:=by rfl) (hkk:∀ u:Value,((backToKw pos (keywordEach [⟨some "default",.Constant .none j cpos,kpos⟩] X.env)).filterMap (·.1)).zip [u]=[(Str.ofString "default",u)]:=by intro u;rfl) :
  PE X (.Call (.Name "max" p) [a] [⟨some "default",.Constant .none j cpos,kpos⟩] pos) (fun σ H Q=>ta σ H fun vs H1=>∃ q,∃ ns:List Int,vs=[.ref q]∧SqL X.K H1 q (ns.map V.int)∧(ns=[]→Q .non H1)∧∀ m∈ns,(∀ x∈ns,x≤m)→Q (.int m) H1):=by
 intro pins s σ H Q I h
 refine wpAny_Call_Name_kw (zcn I hg hm zh1 ?_)
 refine PyProof.Rows.callWith_kw (thn (ha pos pins s σ H _ I h) fun us s1=>L2.ex5 fun vs H1 I1 r1 hq_=>?_) hs hp hal han
 obtain⟨l,ns,e,q1,k0,k1⟩:=hq_
 subst e
 obtain⟨u,rfl,ru⟩:=zdw r1
 obtain rfl:u=Value.ref l:=ru
 refine PyProof.Rows.kws_cons (Constant_none (PyProof.Rows.kws_nil ?_))
 rw[hkk]
 obtain⟨its,rv,pl,_⟩:=I1.list q1
 obtain⟨cs,hcs,ch⟩:=I1.hd.chain
 have hlt:l<s1.heap.objs.size:=by obtain⟨o,e,_⟩:=pl.isList;exact Heap.lt_size e
 have hnc:s1.heap.objs.size∉cs:=fun z=>Nat.lt_irrefl _ (ch.lt _ z)
 have hlen:its.length=ns.length:=by rw[← rv.length,List.length_map]
 have hnm:(toString "max"++toString ".loop":String)="max.loop":=by decide
 refine kmk_tree PySem.F.kind_max PySem.F.plain_max PySem.F.entry_max (zdf _ _) ?_
 refine(show wpAny _ _ (Builtin.Builtins.bindParams "max" ["key","default"] 0 ⟨[],[(Str.ofString "default",_)]⟩ >>= _) _ _ _ from wpAny_bind (wpAny_of_eq (show Builtin.Builtins.bindParams "max" ["key","default"] 0 ⟨[],[(Str.ofString "default",_)]⟩=pure [none,some _] from rfl) ?_))
 refine wpAny_bind (wpAny_pure ?_)
 refine wpAny_bind (wpAny_pyIter_list (s:=s1) pl.isList ?_)
 refine wpAny_bind (wpAny_newList ?_ (Nat.zero_le _))
 rw[hnm]
 have hz:(s1.heap.push { cls:=.type "list_iterator",data:=.fields #[.ref l,.int 0 0] }).objs.size=s1.heap.objs.size + 1:=Heap.size_push ..
 have W:=zbv (prog:=X.prog) (w:=X.w) (A:=X.A.in1) hcs s1.heap.objs.size l (Nat.ne_of_lt hlt) hnc its.toArray
 have hSf:(s1.heap.push { cls:=.type "list_iterator",data:=.fields #[.ref l,.int 0 0] }).objs.size∉s1.heap.objs.size::l::cs:=by
  rw[hz]
  intro z
  rcases List.mem_cons.mp z with z|z
  ·exact absurd z (Nat.ne_of_gt (Nat.lt_succ_self _))
  ·rcases List.mem_cons.mp z with z|z
   ·exact absurd z (Nat.ne_of_gt (Nat.lt_succ_of_lt hlt))
   ·exact absurd (ch.lt _ z) (Nat.not_lt.mpr (Nat.le_succ _))
 have st0:((s1.heap.push { cls:=.type "list_iterator",data:=.fields #[.ref l,.int 0 0] }).push (seqObj "list" #[] 0)).IsListIter s1.heap.objs.size l 0∧((s1.heap.push { cls:=.type "list_iterator",data:=.fields #[.ref l,.int 0 0] }).push (seqObj "list" #[] 0)).IsList l its.toArray∧Chn ((s1.heap.push { cls:=.type "list_iterator",data:=.fields #[.ref l,.int 0 0] }).push (seqObj "list" #[] 0)) cs:=
  ⟨⟨_,Heap.get?_push_of_some _ (Heap.get?_push_size _ rfl),rfl,rfl⟩,(pl.isList.push _).push _,ch.mono fun b o _ e=>Heap.get?_push_of_some _ (Heap.get?_push_of_some _ e)⟩
 refine wpAny_pure ⟨plainId_quiet PySem.F.plain_max_loop _,?_⟩
 have back:∀ (h':Heap),(∀ b o,b∉[s1.heap.objs.size]→b≠(s1.heap.push { cls:=.type "list_iterator",data:=.fields #[.ref l,.int 0 0] }).objs.size→((s1.heap.push { cls:=.type "list_iterator",data:=.fields #[.ref l,.int 0 0] }).push (seqObj "list" #[] 0)).get? b=some o→h'.get? b=some o)→∀ b o,s1.heap.get? b=some o→h'.get? b=some o:=fun h' hk b o e=>by
  have lt:=Heap.lt_size e
  refine hk b o (fun z=>?_) (fun z=>?_) (Heap.get?_push_of_some _ (Heap.get?_push_of_some _ e))
  ·rw[List.mem_singleton.mp z] at lt;exact Nat.lt_irrefl _ lt
  ·rw[z,hz] at lt;exact Nat.lt_irrefl _ (Nat.lt_of_succ_lt lt)
 by_cases hn:ns=[]
 ·subst hn
  have e0:its=[]:=List.length_eq_zero_iff.mp (by rw[hlen];rfl)
  subst e0
  exact zfF W _ hSf st0 (Heap.get?_push_size _ rfl) fun h' tk hk=>⟨.non,H1,I1.kept (back h' fun b o h1 _ e=>hk b o h1 e),rfl,k0 rfl⟩
 ·have hpos:0<ns.length:=List.length_pos_iff.mpr hn
  refine zes _ W (fun i j=>decide (ns.getD i 0 > ns.getD j 0)) (CmpOf.ints_gt (fun i=>ns.getD i 0) fun i v hv=>zbG rv (by simpa using hv)) _ hSf (by simp;omega) st0 (Heap.get?_push_size _ rfl) fun v h' tk hv hk=>?_
  have hv':its.toArray[argBest (fun i j=>decide (ns.getD i 0 > ns.getD j 0)) (its.toArray.size - 1)]?=some v:=hv
  rw[List.getElem?_toArray] at hv'
  obtain⟨t,rfl⟩:=zbG rv hv'
  obtain⟨b1,b2⟩:=zcD (fun i=>ns.getD i 0) (its.toArray.size - 1)
  have e1:its.toArray.size=ns.length:=by simp[hlen]
  rw[e1] at b1 b2
  refine⟨.int _,H1,I1.kept (back h' hk),⟨_,rfl⟩,?_⟩
  rw[e1]
  exact k1 _ (zdC (by omega)) fun x hx=>by
   obtain⟨j,hj,rfl⟩:=zdD hx
   exact b2 j (by omega)
end
end L2
namespace K21
open PySem L2
def top (i:Nat):Stmt:=PySem.Challenge.pw_layerdraw_k21_two_points.main.body.getD i (.Pass ⟨0,0,0,0⟩)
abbrev za7:Stmt:=zeH (top 3) 0
theorem zdy:zay ["self","ring"] ["self","ring"] (zae za7):=⟨rfl,rfl,rfl,by decide +kernel,rfl,by decide +kernel,by decide +kernel⟩
abbrev zbi:Stmt:=top 5
theorem zeT:zay ["wishes"] ["wishes"] (zae zbi):=⟨rfl,rfl,rfl,by decide +kernel,rfl,by decide +kernel,by decide +kernel⟩
abbrev za2:Stmt:=top 6
theorem zba:zay ["count","wishes","amounts","left","wish","amount"] ["count","wishes","amounts"] (zae za2):=⟨rfl,rfl,rfl,by decide +kernel,rfl,by decide +kernel,by decide +kernel⟩
abbrev zat:Stmt:=zeH (top 9) 0
theorem zbq:zay ["self","count","wishes","number","wish"] ["self","count","wishes"] (zae zat):=⟨rfl,rfl,rfl,by decide +kernel,rfl,by decide +kernel,by decide +kernel⟩
abbrev zbf:Stmt:=zeH (top 9) 1
theorem zd1:zay ["self","number"] ["self","number"] (zae zbf):=⟨rfl,rfl,rfl,by decide +kernel,rfl,by decide +kernel,by decide +kernel⟩
abbrev zaO:Stmt:=zeH (top 9) 2
theorem zcG:zay ["self","number","point"] ["self","number","point"] (zae zaO):=⟨rfl,rfl,rfl,by decide +kernel,rfl,by decide +kernel,by decide +kernel⟩
abbrev ziq:Stmt:=top 10
theorem zet:zay ["layout","count","pushers","pushed","time"] ["layout"] (zae ziq):=⟨rfl,rfl,rfl,by decide +kernel,rfl,by decide +kernel,by decide +kernel⟩
abbrev zbP:Stmt:=top 11
theorem zbj:zay ["layout","pushers","pushed","number","other","lacking"] ["layout","pushers"] (zae zbP):=⟨rfl,rfl,rfl,by decide +kernel,rfl,by decide +kernel,by decide +kernel⟩
abbrev zbr:Stmt:=top 12
theorem zbz:zay ["layout","pushers","point","time","ring"] ["layout","pushers","point"] (zae zbr):=⟨rfl,rfl,rfl,by decide +kernel,rfl,by decide +kernel,by decide +kernel⟩
abbrev zbQ:Stmt:=top 13
theorem zbk:zay ["layout","far","came_by","end","point","distance"] ["layout"] (zae zbQ):=⟨rfl,rfl,rfl,by decide +kernel,rfl,by decide +kernel,by decide +kernel⟩
abbrev zcE:Stmt:=top 14
theorem zcx:zay ["layout","far","came_by","waiting","point","need"] ["layout","far","came_by"] (zae zcE):=⟨rfl,rfl,rfl,by decide +kernel,rfl,by decide +kernel,by decide +kernel⟩
abbrev zaZ:Stmt:=top 15
theorem za3:zay ["layout","point","far","waiting","came_by","steps","number","slack","neighbour","distance"] ["layout","point","far","waiting","came_by"] (zae zaZ):=⟨rfl,rfl,rfl,by decide +kernel,rfl,by decide +kernel,by decide +kernel⟩
abbrev zb5:Stmt:=top 16
theorem zcc:zay ["layout","came_by","end","steps","point"] ["layout","came_by","end"] (zae zb5):=⟨rfl,rfl,rfl,by decide +kernel,rfl,by decide +kernel,by decide +kernel⟩
abbrev za8:Stmt:=top 17
theorem za0:zay ["layout","steps","end","last","start","back","amount","number","point"] ["layout","steps","end"] (zae za8):=⟨rfl,rfl,rfl,by decide +kernel,rfl,by decide +kernel,by decide +kernel⟩
abbrev zbJ:Stmt:=top 18
theorem zbx:zay ["count","wishes","parts","wish","old","new"] ["count","wishes"] (zae zbJ):=⟨rfl,rfl,rfl,by decide +kernel,rfl,by decide +kernel,by decide +kernel⟩
abbrev zbb:Stmt:=top 19
theorem zbA:zay ["places","parts","least","place","part"] ["places","parts"] (zae zbb):=⟨rfl,rfl,rfl,by decide +kernel,rfl,by decide +kernel,by decide +kernel⟩
abbrev za9:Stmt:=top 20
theorem zci:zay ["weights","worths"] ["weights"] (zae za9):=⟨rfl,rfl,rfl,by decide +kernel,rfl,by decide +kernel,by decide +kernel⟩
abbrev zds:Stmt:=top 21
theorem zeU:zay ["count","wishes","layout","weights","worth"] ["count","wishes"] (zae zds):=⟨rfl,rfl,rfl,by decide +kernel,rfl,by decide +kernel,by decide +kernel⟩
abbrev zbg:Stmt:=top 23
theorem zd2:zay ["_law_script","_law_k"] ["_law_script","_law_k"] (zae zbg):=⟨rfl,rfl,rfl,by decide +kernel,rfl,by decide +kernel,by decide +kernel⟩
abbrev zb6:Stmt:=top 24
theorem zcU:zay ["_law_cell","_law_k","_law_number"] ["_law_cell","_law_k"] (zae zb6):=⟨rfl,rfl,rfl,by decide +kernel,rfl,by decide +kernel,by decide +kernel⟩
abbrev zbR:Stmt:=top 25
theorem zaL:zay ["_law_cell","_law_great","_law_one","_law_other","_law_least","_law_weight"] ["_law_cell","_law_great"] (zae zbR):=⟨rfl,rfl,rfl,by decide +kernel,rfl,by decide +kernel,by decide +kernel⟩
abbrev zbB:Stmt:=top 26
theorem zeV:zay ["_law_found"] ["_law_found"] (zae zbB):=⟨rfl,rfl,rfl,by decide +kernel,rfl,by decide +kernel,by decide +kernel⟩
abbrev zbc:Stmt:=top 27
theorem zea:zay ["_law_found","_law_many"] ["_law_found","_law_many"] (zae zbc):=⟨rfl,rfl,rfl,by decide +kernel,rfl,by decide +kernel,by decide +kernel⟩
abbrev za1:Stmt:=top 28
theorem zdt:zay ["_law_wishes","_law_ring_here","_law_some"] ["_law_wishes","_law_ring_here"] (zae za1):=⟨rfl,rfl,rfl,by decide +kernel,rfl,by decide +kernel,by decide +kernel⟩
abbrev zbK:Stmt:=top 29
theorem zgc:zay ["_law_wishes","_law_one","_law_other"] ["_law_wishes","_law_one","_law_other"] (zae zbK):=⟨rfl,rfl,rfl,by decide +kernel,rfl,by decide +kernel,by decide +kernel⟩
abbrev zaG:Stmt:=top 30
theorem zbd:zay ["_law_wishes","_law_places","_law_flow","_law_low","_law_high","_law_off","_law_there","_law_back","_law_more","_law_less"] ["_law_wishes","_law_places","_law_flow","_law_low","_law_high"] (zae zaG):=⟨rfl,rfl,rfl,by decide +kernel,rfl,by decide +kernel,by decide +kernel⟩
abbrev zfK:Stmt:=top 31
theorem zbE:zay ["_law_script","_law_first","_law_wishes","_law_low","_law_high","_law_own","_law_due","_law_handed","_law_found","_law_ring_here","_law_word","e"] ["_law_script"] (zae zfK):=⟨rfl,rfl,rfl,by decide +kernel,rfl,by decide +kernel,by decide +kernel⟩
def zb7:Pos:=⟨80,33,80,69⟩
def zb8:Str:=(("search":Str)++(".<locals>.":Str))++("<lambda>":Str)
structure Adr where
 DrawError:Addr
 NoFlow:Addr
 Ring:Addr
 Layout:Addr
 tb_search:Addr
structure Tx (K:PySem.W.Frag) (mg:Str→Option Value) (a:Adr):Prop where
 g_DrawError:mg "DrawError"=some (.ref a.DrawError)
 xb_DrawError:PySem.W.mroIn K a.DrawError (.type "BaseException")=some true
 xt_DrawError:PySem.W.typeIn K (.ref a.DrawError)=some (.type "type")
 g_NoFlow:mg "NoFlow"=some (.ref a.NoFlow)
 xb_NoFlow:PySem.W.mroIn K a.NoFlow (.type "BaseException")=some true
 xt_NoFlow:PySem.W.typeIn K (.ref a.NoFlow)=some (.type "type")
 g_Ring:mg "Ring"=some (.ref a.Ring)
 xb_Ring:PySem.W.mroIn K a.Ring (.type "BaseException")=some true
 xt_Ring:PySem.W.typeIn K (.ref a.Ring)=some (.type "type")
 is_Ring:XIs K a.Ring
 g_Layout:mg "Layout"=some (.ref a.Layout)
 c_Layout:Cls K a.Layout
 na_Layout_coming:zbU K a.Layout "coming"
 na_Layout_flow:zbU K a.Layout "flow"
 na_Layout_going:zbU K a.Layout "going"
 na_Layout_leasts:zbU K a.Layout "leasts"
 na_Layout_needs:zbU K a.Layout "needs"
 na_Layout_ones:zbU K a.Layout "ones"
 na_Layout_others:zbU K a.Layout "others"
 na_Layout_places:zbU K a.Layout "places"
 xi_Ring:XIni K mg a.Ring "Ring" "Ring.__init__" za7 ["self","ring"]
 xs_Ring_ring:XSet K a.Ring "ring"
 xg_Ring_ring:XGet K a.Ring "ring"
 d_weights_of:Def K mg "weights_of" zbi ["wishes"] []
 d_left_at_points:Def K mg "left_at_points" za2 ["count","wishes","amounts"] []
 i_Layout:Ini K mg a.Layout "Layout" "Layout.__init__" zat ["self","count","wishes"]
 m_Layout_slack:Met K a.Layout "slack" "Layout.slack" zbf ["self","number"] []
 m_Layout_end_across:Met K a.Layout "end_across" "Layout.end_across" zaO ["self","number","point"] []
 d_fit:Def K mg "fit" ziq ["layout"] []
 d_push_once:Def K mg "push_once" zbP ["layout","pushers"] []
 d_ring_behind:Def K mg "ring_behind" zbr ["layout","pushers","point"] []
 d_send_once:Def K mg "send_once" zbQ ["layout"] []
 d_search:Def K mg "search" zcE ["layout","far","came_by"] []
 d_look_around:Def K mg "look_around" zaZ ["layout","point","far","waiting","came_by"] []
 d_way_back:Def K mg "way_back" zb5 ["layout","came_by","end"] []
 d_send_along:Def K mg "send_along" za8 ["layout","steps","end"] []
 d_parts_of:Def K mg "parts_of" zbJ ["count","wishes"] []
 d_from_nought:Def K mg "from_nought" zbb ["places","parts"] []
 d_figure_worths:Def K mg "figure_worths" za9 ["weights"] []
 d_laid:Def K mg "laid" zds ["count","wishes"] []
 d__law_cell_at:Def K mg "_law_cell_at" zbg ["_law_script","_law_k"] []
 d__law_mix:Def K mg "_law_mix" zb6 ["_law_cell","_law_k"] []
 d__law_wish:Def K mg "_law_wish" zbR ["_law_cell","_law_great"] []
 d__law_whole:Def K mg "_law_whole" zbB ["_law_found"] []
 d__law_wholes:Def K mg "_law_wholes" zbc ["_law_found","_law_many"] []
 d__law_ring:Def K mg "_law_ring" za1 ["_law_wishes","_law_ring_here"] []
 d__law_far:Def K mg "_law_far" zbK ["_law_wishes","_law_one","_law_other"] []
 d__law_right:Def K mg "_law_right" zaG ["_law_wishes","_law_places","_law_flow","_law_low","_law_high"] []
 d_law:Def K mg "law" zfK ["_law_script"] []
 k_BASE:∃ t,mg "BASE"=some (.int 16 t)
 lam_search:zj8 K mg "search" a.tb_search
 mr_Ring_DrawError:PySem.W.mroIn K a.Ring (.ref a.DrawError)=some true
 kt_Ring_Ring:PySem.W.kitOne K (.ref a.Ring) (.ref a.Ring)=some true
 kt_Ring_ValueError:PySem.W.kitOne K (.ref a.Ring) (.type "ValueError")=some true
 kt_Ring_NoFlow:PySem.W.kitOne K (.ref a.Ring) (.ref a.NoFlow)=some false
 kb_int_int:PySem.W.kitOne K (.type "int") (.type "int")=some true
 kb_int_bool:PySem.W.kitOne K (.type "int") (.type "bool")=some false
 kb_list_list:PySem.W.kitOne K (.type "list") (.type "list")=some true
 kb_tuple_tuple:PySem.W.kitOne K (.type "tuple") (.type "tuple")=some true
 n_ValueError:mg "ValueError"=none
 n_abs:mg "abs"=none
 n_all:mg "all"=none
 n_any:mg "any"=none
 n_bool:mg "bool"=none
 n_enumerate:mg "enumerate"=none
 n_int:mg "int"=none
 n_isinstance:mg "isinstance"=none
 n_len:mg "len"=none
 n_list:mg "list"=none
 n_max:mg "max"=none
 n_min:mg "min"=none
 n_range:mg "range"=none
 n_sum:mg "sum"=none
 n_tuple:mg "tuple"=none
 n_zip:mg "zip"=none
end K21
namespace K21
def itr {α:Type} (f:α→α):Nat→α→α
 | 0,a=>a
 | k + 1,a=>f (itr f k a)
theorem zcV {α:Type} (f:α→α) (i:Nat) (a:α):∀ j,itr f (i + j) a=itr f j (itr f i a)
 | 0=>rfl
 | j + 1=>by
  show f (itr f (i + j) a)=f (itr f j (itr f i a))
  rw[zcV f i a j]
theorem zka:∀ (c:Nat) (f:Nat→Nat),(∀ i,i≤c→f i<c)→∃ i j,i<j∧j≤c∧f i=f j
 | 0,f,h=>absurd (h 0 (Nat.le_refl _)) (Nat.not_lt_zero _)
 | c + 1,f,h=>by
  by_cases e:∃ i,i≤c∧f i=f (c + 1)
  ·obtain⟨i,hi,q⟩:=e
   exact⟨i,c + 1,by omega,Nat.le_refl _,q⟩
  ·have ne:∀ i,i≤c→f i≠f (c + 1):=fun i hi q=>e ⟨i,hi,q⟩
   have hl:=h (c + 1) (Nat.le_refl _)
   obtain⟨i,j,ij,jc,q⟩:=zka c (fun i=>if f i=c then f (c + 1) else f i) fun i hi=>by
    have h1:=h i (by omega)
    have h2:=ne i hi
    show(if f i=c then f (c + 1) else f i)<c
    split <;> omega
   refine⟨i,j,ij,by omega,?_⟩
   have n1:=ne i (by omega)
   have n2:=ne j jc
   have q:(if f i=c then f (c + 1) else f i)=if f j=c then f (c + 1) else f j:=q
   split at q <;> split at q <;> omega
structure Wn where
 c:Nat
 m:Nat
 on:Nat→Nat
 ot:Nat→Nat
 le:Nat→Int
structure Wn.Ok (N:Wn):Prop where
 on:∀ n,n<N.m→N.on n<N.c
 ot:∀ n,n<N.m→N.ot n<N.c
def slk (N:Wn) (P:Nat→Int) (n:Nat):Int:=P (N.ot n) - P (N.on n) - N.le n
def up {α:Type} (f:Nat→α) (k:Nat) (v:α):Nat→α:=fun i=>if i=k then v else f i
theorem zal {α:Type} (f:Nat→α) (k:Nat) (v:α):up f k v k=v:=if_pos rfl
theorem zaz {α:Type} (f:Nat→α){k i:Nat} (v:α) (h:i≠k):up f k v i=f i:=if_neg h
def bk (N:Wn) (pu:Nat→Option Nat) (v:Nat):Nat:=match pu v with
 | some n=>N.on n
 | none=>v
def zfW (N:Wn) (pu:Nat→Option Nat) (p:Nat):Nat→Int
 | 0=>0
 | k + 1=>zfW N pu p k + (match pu (itr (bk N pu) k p) with
  | some n=>N.le n
  | none=>0)
def Rg (N:Wn) (pu:Nat→Option Nat):Prop:=∀ p k,0<k→(∀ i,i<k→(pu (itr (bk N pu) i p)).isSome=true)→itr (bk N pu) k p=p→0<zfW N pu p k
structure Fi (N:Wn) (t:Nat→Nat) (P:Nat→Int) (pu:Nat→Option Nat):Prop where
 a:∀ v n,pu v=some n→n<N.m∧N.ot n=v∧P v≤P (N.on n) + N.le n
 b:Rg N pu
 c:∀ v,1≤t v→∃ n,pu v=some n∧t v≤t (N.on n) + 1
structure Rd (N:Wn) (t:Nat→Nat) (P:Nat→Int) (r k:Nat):Prop where
 g:∀ v,t v≤r
 d:∀ n,n<k→n<N.m→0≤slk N P n∨r≤t (N.on n)
 e:∀ n,k≤n→n<N.m→0≤slk N P n∨r≤t (N.on n) + 1
theorem Fi.start (N:Wn):Fi N (fun _=>0) (fun _=>0) (fun _=>none):=⟨fun v n h=>(by cases h),fun p k h1 h2=>absurd (h2 0 h1) (by decide),fun v h=>absurd h (by decide)⟩
theorem Rd.start (N:Wn) (P:Nat→Int):Rd N (fun _=>0) P 1 0:=⟨fun _=>Nat.zero_le _,fun n h=>absurd h (Nat.not_lt_zero _),fun n _ _=>.inr (by omega)⟩
theorem Rd.next {N:Wn}{t:Nat→Nat}{P:Nat→Int}{r:Nat} (h:Rd N t P r N.m):Rd N t P (r + 1) 0:=by
 refine⟨fun v=>Nat.le_succ_of_le (h.g v),fun n h=>absurd h (Nat.not_lt_zero _),fun n _ hm=>?_⟩
 rcases h.d n hm hm with q|q
 ·exact .inl q
 ·exact .inr (by omega)
theorem Rd.skip {N:Wn}{t:Nat→Nat}{P:Nat→Int}{r k:Nat} (h:Rd N t P r k) (s:0≤slk N P k):Rd N t P r (k + 1):=by
 refine⟨h.g,fun n h1 h2=>?_,fun n h1 h2=>h.e n (by omega) h2⟩
 rcases Nat.lt_or_ge n k with q|q
 ·exact h.d n q h2
 ·obtain rfl:n=k:=by omega
  exact .inl s
theorem zgz {N:Wn}{pu:Nat→Option Nat}{P:Nat→Int}{p:Nat}:∀ k,(∀ i,i<k→∃ n,pu (itr (bk N pu) i p)=some n∧P (itr (bk N pu) i p)≤P (N.on n) + N.le n)→P p≤P (itr (bk N pu) k p) + zfW N pu p k
 | 0,_=>by
  show P p≤P p + 0
  omega
 | k + 1,h=>by
  have ih:=zgz k fun i hi=>h i (by omega)
  obtain⟨n,e,q⟩:=h k (by omega)
  have e2:itr (bk N pu) (k + 1) p=N.on n:=by
   show bk N pu (itr (bk N pu) k p)=_
   unfold bk
   unfold bk at e
   rw[e]
  have e3:zfW N pu p (k + 1)=zfW N pu p k + N.le n:=by
   show zfW N pu p k + _=_
   rw[e]
  rw[e2,e3]
  omega
theorem zfL {N:Wn}{pu:Nat→Option Nat}{P:Nat→Int}{p j:Nat}:∀ k,j<k→(∀ i,i<k→∃ n,pu (itr (bk N pu) i p)=some n∧P (itr (bk N pu) i p)≤P (N.on n) + N.le n)→(∃ n,pu (itr (bk N pu) j p)=some n∧P (itr (bk N pu) j p)<P (N.on n) + N.le n)→P p<P (itr (bk N pu) k p) + zfW N pu p k
 | 0,hj,_,_=>absurd hj (Nat.not_lt_zero _)
 | k + 1,hj,h,s=>by
  obtain⟨n,e,q⟩:=h k (by omega)
  have e2:itr (bk N pu) (k + 1) p=N.on n:=by
   show bk N pu (itr (bk N pu) k p)=_
   unfold bk
   unfold bk at e
   rw[e]
  have e3:zfW N pu p (k + 1)=zfW N pu p k + N.le n:=by
   show zfW N pu p k + _=_
   rw[e]
  rw[e2,e3]
  by_cases c:j<k
  ·have ih:=zfL k c (fun i hi=>h i (by omega)) s
   omega
  ·obtain rfl:j=k:=by omega
   obtain⟨n',e',q'⟩:=s
   rw[e] at e'
   cases e'
   have:=zgz j fun i hi=>h i (by omega)
   omega
section
variable {N:Wn}{t:Nat→Nat}{P:Nat→Int}{pu:Nat→Option Nat}{r k:Nat}
theorem zk5 (s:slk N P k<0) (w:Nat):P w≤up P (N.ot k) (P (N.ot k) + (0 - slk N P k)) w:=by
 unfold up
 split
 ·rename_i e
  rw[e]
  omega
 ·omega
theorem up_t (g:∀ v,t v≤r) (w:Nat):t w≤up t (N.ot k) r w:=by
 unfold up
 split
 ·exact g w
 ·exact Nat.le_refl _
theorem zk6 (f:Fi N t P pu) (h:Rd N t P r k) (hk:k<N.m) (s:slk N P k<0):Fi N (up t (N.ot k) r) (up P (N.ot k) (P (N.ot k) + (0 - slk N P k))) (up pu (N.ot k) (some k)):=by
 refine⟨fun w n e=>?_,fun p k' h0 hs hc=>?_,fun w hw=>?_⟩
 ·by_cases c:w=N.ot k
  ·subst c
   rw[zal] at e
   cases e
   refine⟨hk,rfl,?_⟩
   rw[zal]
   have:=zk5 s (N.on k)
   unfold slk at this ⊢
   omega
  ·rw[zaz _ _ c] at e
   obtain⟨a1,a2,a3⟩:=f.a w n e
   refine⟨a1,a2,?_⟩
   rw[zaz _ _ c]
   have:=zk5 s (N.on n)
   omega
 ·have old:∀ i,i<k'→∃ n,up pu (N.ot k) (some k) (itr (bk N (up pu (N.ot k) (some k))) i p)=some n∧P (itr (bk N (up pu (N.ot k) (some k))) i p)≤P (N.on n) + N.le n:=fun i hi=>by
   obtain⟨n,e⟩:=Option.isSome_iff_exists.mp (hs i hi)
   refine⟨n,e,?_⟩
   generalize itr (bk N (up pu (N.ot k) (some k))) i p=w at e
   by_cases c:w=N.ot k
   ·subst c
    rw[zal] at e
    cases e
    unfold slk at s
    omega
   ·rw[zaz _ _ c] at e
    exact(f.a w n e).2.2
  by_cases c:∃ j,j<k'∧itr (bk N (up pu (N.ot k) (some k))) j p=N.ot k
  ·obtain⟨j,hj,e⟩:=c
   have z:=zfL k' hj old ⟨k,by rw[e,zal],by
    rw[e]
    unfold slk at s
    omega⟩
   rw[hc] at z
   omega
  ·have ne:∀ i,i<k'→itr (bk N (up pu (N.ot k) (some k))) i p≠N.ot k:=fun i hi e=>c ⟨i,hi,e⟩
   have same:∀ i,i≤k'→itr (bk N (up pu (N.ot k) (some k))) i p=itr (bk N pu) i p∧zfW N (up pu (N.ot k) (some k)) p i=zfW N pu p i:=fun i=>by
    induction i with
    | zero=>exact fun _=>⟨rfl,rfl⟩
    | succ i ih=>
     intro hi
     obtain⟨e1,e2⟩:=ih (by omega)
     have n1:=ne i (by omega)
     rw[e1] at n1
     constructor
     ·show bk N (up pu (N.ot k) (some k)) (itr (bk N (up pu (N.ot k) (some k))) i p)=bk N pu (itr (bk N pu) i p)
      rw[e1]
      unfold bk at n1 ⊢
      rw[zaz _ _ n1]
     ·show zfW N (up pu (N.ot k) (some k)) p i + _=zfW N pu p i + _
      rw[e1,e2,zaz _ _ n1]
   rw[(same k' (Nat.le_refl _)).2]
   refine f.b p k' h0 (fun i hi=>?_) ?_
   ·have:=hs i hi
    have n1:=ne i hi
    rw[(same i (by omega)).1] at this n1
    rw[zaz _ _ n1] at this
    exact this
   ·rw[← (same k' (Nat.le_refl _)).1]
    exact hc
 ·by_cases c:w=N.ot k
  ·subst c
   refine⟨k,zal _ _ _,?_⟩
   rw[zal]
   rcases h.e k (Nat.le_refl _) hk with q|q
   ·omega
   ·have:=up_t (N:=N) (k:=k) h.g (N.on k)
    omega
  ·rw[zaz _ _ c] at hw
   obtain⟨n,e1,e2⟩:=f.c w hw
   refine⟨n,by rw[zaz _ _ c];exact e1,?_⟩
   rw[zaz t r c]
   have:=up_t (N:=N) (k:=k) h.g (N.on n)
   omega
theorem zgA (s:slk N P k<0) (n:Nat) (c:N.on n≠N.ot k):slk N P n≤slk N (up P (N.ot k) (P (N.ot k) + (0 - slk N P k))) n:=by
 have:=zk5 s (N.ot n)
 generalize e:slk N P k=z at this s
 unfold slk
 rw[zaz _ _ c]
 omega
theorem zk7 (h:Rd N t P r k) (s:slk N P k<0):Rd N (up t (N.ot k) r) (up P (N.ot k) (P (N.ot k) + (0 - slk N P k))) r (k + 1):=by
 refine⟨fun w=>?_,fun n h1 h2=>?_,fun n h1 h2=>?_⟩
 ·unfold up
  split
  ·exact Nat.le_refl _
  ·exact h.g w
 ·by_cases c:N.on n=N.ot k
  ·right
   rw[c,zal]
   exact Nat.le_refl _
  ·rcases Nat.lt_or_ge n k with q|q
   ·rcases h.d n q h2 with z|z
    ·left
     have:=zgA s n c
     omega
    ·right
     rw[zaz _ _ c]
     exact z
   ·obtain rfl:n=k:=by omega
    left
    have e:slk N (up P (N.ot n) (P (N.ot n) + (0 - slk N P n))) n=0:=by
     generalize ez:slk N P n=z
     unfold slk at ez ⊢
     rw[zaz _ _ c,zal]
     omega
    omega
 ·by_cases c:N.on n=N.ot k
  ·right
   rw[c,zal]
   omega
  ·rcases h.e n (by omega) h2 with z|z
   ·left
    have:=zgA s n c
    omega
   ·right
    rw[zaz _ _ c]
    exact z
theorem zg9 (ok:N.Ok) (f:Fi N t P pu){v:Nat} (ht:N.c≤t v) (hv:v<N.c):(∀ i,(pu (itr (bk N pu) i v)).isSome=true)∧∃ d,0<d∧d≤N.c∧itr (bk N pu) d (itr (bk N pu) N.c v)=itr (bk N pu) N.c v:=by
 have st:∀ w n,pu w=some n→bk N pu w=N.on n:=fun w n e=>by unfold bk;rw[e]
 have tt:∀ i,i≤N.c→N.c≤t (itr (bk N pu) i v) + i:=fun i=>by
  induction i with
  | zero=>exact fun _=>ht
  | succ i ih=>
   intro hi
   have q:=ih (by omega)
   obtain⟨n,e1,e2⟩:=f.c _ (show 1≤t (itr (bk N pu) i v) by omega)
   show N.c≤t (bk N pu (itr (bk N pu) i v)) + (i + 1)
   rw[st _ _ e1]
   omega
 have pd:∀ i,i<N.c→∃ n,pu (itr (bk N pu) i v)=some n:=fun i hi=>by
  have q:=tt i (by omega)
  obtain⟨n,e1,_⟩:=f.c _ (show 1≤t (itr (bk N pu) i v) by omega)
  exact⟨n,e1⟩
 have lt:∀ i,i≤N.c→itr (bk N pu) i v<N.c:=fun i hi=>by
  cases i with
  | zero=>exact hv
  | succ i=>
   obtain⟨n,e⟩:=pd i (by omega)
   show bk N pu (itr (bk N pu) i v)<N.c
   rw[st _ _ e]
   exact ok.on n (f.a _ _ e).1
 obtain⟨i,j,ij,jc,q⟩:=zka N.c (fun i=>itr (bk N pu) i v) lt
 have q:itr (bk N pu) i v=itr (bk N pu) j v:=q
 have per:∀ s,j≤s→itr (bk N pu) s v=itr (bk N pu) (s - (j - i)) v:=fun s hs=>by
  have e1:s=j + (s - j):=by omega
  have e2:s - (j - i)=i + (s - j):=by omega
  rw[e2,zcV,q,← zcV,← e1]
 refine⟨fun s=>?_,j - i,by omega,by omega,?_⟩
 ·induction s using Nat.strongRecOn with
  | ind s ih=>
   by_cases c:s<N.c
   ·obtain⟨n,e⟩:=pd s c
    rw[e]
    rfl
   ·rw[per s (by omega)]
    exact ih _ (by omega)
 ·rw[← zcV,per (N.c + (j - i)) (by omega)]
  congr 1
  omega
end
end K21
namespace K21
def sm (f:Nat→Int):Nat→Int
 | 0=>0
 | n + 1=>sm f n + f n
theorem zaA {f g:Nat→Int}:∀ n,(∀ i,i<n→f i=g i)→sm f n=sm g n
 | 0,_=>rfl
 | n + 1,h=>by
  show sm f n + f n=sm g n + g n
  rw[zaA n fun i hi=>h i (by omega),h n (by omega)]
theorem zcW:∀ n,sm (fun _=>0) n=0
 | 0=>rfl
 | n + 1=>by
  show sm (fun _=>0) n + 0=0
  rw[zcW n]
  rfl
theorem zeu (f g:Nat→Int):∀ n,sm (fun i=>f i + g i) n=sm f n + sm g n
 | 0=>rfl
 | n + 1=>by
  show sm (fun i=>f i + g i) n + (f n + g n)=sm f n + f n + (sm g n + g n)
  rw[zeu f g n]
  omega
theorem zcM (f g:Nat→Int):∀ n,sm (fun i=>f i - g i) n=sm f n - sm g n
 | 0=>rfl
 | n + 1=>by
  show sm (fun i=>f i - g i) n + (f n - g n)=sm f n + f n - (sm g n + g n)
  rw[zcM f g n]
  omega
theorem zir (k:Int) (f:Nat→Int):∀ n,sm (fun i=>k * f i) n=k * sm f n
 | 0=>(Int.mul_zero k).symm
 | n + 1=>by
  show sm (fun i=>k * f i) n + k * f n=k * (sm f n + f n)
  rw[zir k f n,Int.mul_add]
theorem zgd (f:Nat→Nat→Int) (m:Nat):∀ n,sm (fun i=>sm (f i) m) n=sm (fun j=>sm (fun i=>f i j) n) m
 | 0=>(zcW m).symm
 | n + 1=>by
  show sm (fun i=>sm (f i) m) n + sm (f n) m=sm (fun j=>sm (fun i=>f i j) n + f n j) m
  rw[zgd f m n,zeu]
theorem zcy {f:Nat→Int}:∀ n,(∀ i,i<n→0≤f i)→0≤sm f n
 | 0,_=>Int.le_refl _
 | n + 1,h=>by
  have:=zcy n fun i hi=>h i (by omega)
  have:=h n (by omega)
  show 0≤sm f n + f n
  omega
theorem zev (k:Nat) (v:Int):∀ n,sm (fun i=>if i=k then v else 0) n=if k<n then v else 0
 | 0=>rfl
 | n + 1=>by
  show sm (fun i=>if i=k then v else 0) n + (if n=k then v else 0)=_
  rw[zev k v n]
  by_cases c1:k<n
  ·rw[if_pos c1,if_neg (by omega),if_pos (by omega)]
   omega
  ·by_cases c2:n=k
   ·rw[if_neg c1,if_pos c2,if_pos (by omega)]
    omega
   ·rw[if_neg c1,if_neg c2,if_neg (by omega)]
    omega
theorem zgB {f:Nat→Int}{k:Nat}:∀ n,(∀ i,i<n→f i≤0)→k<n→f k<0→sm f n<0
 | 0,_,h,_=>absurd h (Nat.not_lt_zero _)
 | n + 1,h,hk,hf=>by
  show sm f n + f n<0
  have:=h n (by omega)
  have nn:sm f n≤0:=by
   have:=zcy (f:=fun i=>0 - f i) n fun i hi=>by
    have:=h i (by omega)
    omega
   rw[zcM,zcW] at this
   omega
  by_cases c:k<n
  ·have:=zgB n (fun i hi=>h i (by omega)) c hf
   omega
  ·obtain rfl:k=n:=by omega
   omega
def bal (N:Wn) (a:Nat→Int) (p:Nat):Int:=sm (fun n=>(if N.ot n=p then a n else 0) - (if N.on n=p then a n else 0)) N.m
theorem pick (S:Nat→Bool){q c:Nat} (hq:q<c) (x:Int):sm (fun p=>if S p=true then(if q=p then x else 0) else 0) c=if S q=true then x else 0:=by
 have e:sm (fun p=>if S p=true then(if q=p then x else 0) else 0) c=sm (fun p=>if p=q then(if S q=true then x else 0) else 0) c:=zaA c fun p _=>by
  by_cases h:p=q
  ·subst h
   simp
  ·rw[if_neg h,if_neg (show ¬ q=p from fun z=>h z.symm)]
   simp
 rw[e,zev,if_pos hq]
theorem zeW {N:Wn} (ok:N.Ok) (a:Nat→Int) (S:Nat→Bool):sm (fun p=>if S p=true then bal N a p else 0) N.c=sm (fun n=>(if S (N.ot n)=true then a n else 0) - (if S (N.on n)=true then a n else 0)) N.m:=by
 have e:sm (fun p=>if S p=true then bal N a p else 0) N.c=sm (fun p=>sm (fun n=>if S p=true then((if N.ot n=p then a n else 0) - (if N.on n=p then a n else 0)) else 0) N.m) N.c:=zaA _ fun p _=>by
  by_cases h:S p=true
  ·rw[if_pos h]
   unfold bal
   exact zaA _ fun n _=>(if_pos h).symm
  ·rw[if_neg h]
   refine(zcW N.m).symm.trans (zaA _ fun n _=>(if_neg h).symm)
 rw[e,zgd]
 refine zaA _ fun n hn=>?_
 have e2:sm (fun p=>if S p=true then((if N.ot n=p then a n else 0) - (if N.on n=p then a n else 0)) else 0) N.c=sm (fun p=>(if S p=true then(if N.ot n=p then a n else 0) else 0) - (if S p=true then(if N.on n=p then a n else 0) else 0)) N.c:=zaA _ fun p _=>by
  by_cases h:S p=true <;> simp[h]
 rw[e2,zcM,pick S (ok.ot n hn),pick S (ok.on n hn)]
theorem cut {N:Wn} (ok:N.Ok){w fl nd:Nat→Int} (hw:∀ n,n<N.m→0≤w n) (hnd:∀ p,p<N.c→nd p=bal N w p - bal N fl p) (hf:∀ n,n<N.m→0≤fl n) (S:Nat→Bool)
  (h1:∀ n,n<N.m→S (N.on n)=true→S (N.ot n)=true) (h2:∀ n,n<N.m→S (N.ot n)=true→0<fl n→S (N.on n)=true):0≤sm (fun p=>if S p=true then nd p else 0) N.c:=by
 have e:sm (fun p=>if S p=true then nd p else 0) N.c=sm (fun p=>(if S p=true then bal N w p else 0) - (if S p=true then bal N fl p else 0)) N.c:=zaA _ fun p hp=>by
  by_cases h:S p=true
  ·rw[if_pos h,if_pos h,if_pos h,hnd p hp]
  ·rw[if_neg h,if_neg h,if_neg h]
   rfl
 rw[e,zcM,zeW ok,zeW ok,← zcM]
 refine zcy _ fun n hn=>?_
 have a1:=h1 n hn
 have a2:=h2 n hn
 have a3:=hw n hn
 have a4:=hf n hn
 by_cases c1:S (N.on n)=true
 ·rw[if_pos (a1 c1),if_pos (a1 c1),if_pos c1,if_pos c1]
  omega
 ·by_cases c2:S (N.ot n)=true
  ·rw[if_pos c2,if_pos c2,if_neg c1,if_neg c1]
   have:¬ 0<fl n:=fun z=>c1 (a2 c2 z)
   omega
  ·rw[if_neg c2,if_neg c2,if_neg c1,if_neg c1]
   omega
theorem zis {N:Wn} (ok:N.Ok){w fl nd:Nat→Int} (hnd:∀ p,p<N.c→nd p=bal N w p - bal N fl p):sm nd N.c=0:=by
 have e:sm nd N.c=sm (fun p=>(if (fun _=>true) p=true then bal N w p else 0) - (if (fun _=>true) p=true then bal N fl p else 0)) N.c:=zaA _ fun p hp=>by
  rw[if_pos rfl,if_pos rfl,hnd p hp]
 rw[e,zcM,zeW ok,zeW ok,← zcM,← zcW N.m]
 refine zaA _ fun n _=>?_
 simp
theorem zit {N:Wn} (ok:N.Ok){w fl nd:Nat→Int} (hnd:∀ p,p<N.c→nd p=bal N w p - bal N fl p){k:Nat} (hk:k<N.c) (pos:0<nd k):∃ p,p<N.c∧nd p<0:=by
 by_cases c:∃ p,p<N.c∧nd p<0
 ·exact c
 ·exfalso
  have z:=zis ok hnd
  have q:=zgB (f:=fun p=>0 - nd p) (k:=k) N.c (fun i hi=>by
   have:¬ nd i<0:=fun z=>c ⟨i,hi,z⟩
   omega) hk (by omega)
  rw[zcM,zcW,z] at q
  omega
def Arc (N:Wn) (P fl:Nat→Int) (q p n:Nat) (d:Int):Prop:=n<N.m∧((N.on n=q∧N.ot n=p∧d=slk N P n)∨(N.ot n=q∧N.on n=p∧0<fl n∧d=0))
structure Ti (N:Wn) (P fl:Nat→Int):Prop where
 s:∀ n,n<N.m→0≤slk N P n
 f:∀ n,n<N.m→0≤fl n
 t:∀ n,n<N.m→0<fl n→slk N P n=0
theorem Arc.nn {N:Wn}{P fl:Nat→Int}{q p n:Nat}{d:Int} (h:Ti N P fl) (a:Arc N P fl q p n d):0≤d:=by
 obtain⟨hn,⟨_,_,rfl⟩|⟨_,_,_,rfl⟩⟩:=a
 ·exact h.s n hn
 ·exact Int.le_refl _
theorem Arc.lt {N:Wn}{P fl:Nat→Int}{q p n:Nat}{d:Int} (ok:N.Ok) (a:Arc N P fl q p n d):p<N.c:=by
 obtain⟨hn,⟨_,rfl,_⟩|⟨_,rfl,_⟩⟩:=a
 ·exact ok.ot n hn
 ·exact ok.on n hn
structure Se (N:Wn) (P fl nd:Nat→Int) (far wt:Nat→Option Int) (cm:Nat→Option Nat) (rk:Nat→Nat) (size:Nat) (Lk:Nat→Nat→Int→Prop):Prop where
 dj:∀ p a,far p=some a→wt p=none
 lo:∀ p a q b,far p=some a→wt q=some b→a≤b
 nn:∀ p a,far p=some a∨wt p=some a→0≤a∧p<N.c
 ro:∀ p,p<N.c→nd p<0→(far p=some 0∨wt p=some 0)∧cm p=none
 cb:∀ p a,far p=some a∨wt p=some a→¬ nd p<0→∃ n q d b,cm p=some n∧Arc N P fl q p n d∧far q=some b∧a=b + d∧q≠p∧(far p=some a→rk q<rk p)
 ck:∀ p n,cm p=some n→∃ a,far p=some a∨wt p=some a
 rk:∀ p a,far p=some a→rk p<size
 ar:∀ q n d p a,Arc N P fl q p n d→Lk q n d→far q=some a→∃ b,(far p=some b∨wt p=some b)∧b≤a + d
section
variable {N:Wn}{P fl nd:Nat→Int}{far wt:Nat→Option Int}{cm:Nat→Option Nat}{rk:Nat→Nat}{size:Nat}{Lk:Nat→Nat→Int→Prop}
theorem Se.start {wt:Nat→Option Int} (h:∀ p,wt p=if p<N.c∧nd p<0 then some 0 else none) (rk:Nat→Nat) (Lk:Nat→Nat→Int→Prop):Se N P fl nd (fun _=>none) wt (fun _=>none) rk 0 Lk:=by
 have z:∀ p a,wt p=some a→a=0∧p<N.c∧nd p<0:=fun p a e=>by
  rw[h p] at e
  split at e
  ·cases e
   exact⟨rfl,by assumption⟩
  ·cases e
 refine⟨fun p a e=>(by cases e),fun p a q b e=>(by cases e),fun p a e=>?_,fun p h1 h2=>⟨.inr ?_,rfl⟩,fun p a e ne=>?_,fun p n e=>(by cases e),fun p a e=>(by cases e),fun q n d p a _ _ e=>(by cases e)⟩
 ·rcases e with e|e
  ·cases e
  ·obtain⟨rfl,h1,_⟩:=z p a e
   exact⟨Int.le_refl _,h1⟩
 ·rw[h p,if_pos ⟨h1,h2⟩]
 ·rcases e with e|e
  ·cases e
  ·exact absurd (z p a e).2.2 ne
theorem Se.pop {x:Nat}{a:Int} (h:Se N P fl nd far wt cm rk size fun q _ _=>far q≠none) (hx:wt x=some a) (mn:∀ q b,wt q=some b→a≤b) :
  Se N P fl nd (up far x (some a)) (up wt x none) cm (up rk x size) (size + 1) (fun q _ _=>far q≠none)∧(∀ q b,up far x (some a) q=some b→b≤a)∧far x=none:=by
 have fx:far x=none:=by
  cases e:far x with
  | none=>rfl
  | some b=>
   have:=h.dj x b e
   rw[hx] at this
   cases this
 have nx:∀ q b,far q=some b→q≠x:=fun q b e z=>by
  rw[z,fx] at e
  cases e
 have val:∀ p b,up far x (some a) p=some b∨up wt x none p=some b→far p=some b∨wt p=some b:=fun p b e=>by
  by_cases c:p=x
  ·subst c
   rw[zal,zal] at e
   rcases e with e|e
   ·cases e
    exact .inr hx
   ·cases e
  ·rw[zaz _ _ c,zaz _ _ c] at e
   exact e
 have val2:∀ p b,far p=some b∨wt p=some b→up far x (some a) p=some b∨up wt x none p=some b:=fun p b e=>by
  by_cases c:p=x
  ·subst c
   rw[zal]
   rw[fx,hx] at e
   rcases e with e|e
   ·cases e
   ·cases e
    exact .inl rfl
  ·rw[zaz _ _ c,zaz _ _ c]
   exact e
 refine⟨⟨fun p b e=>?_,fun p b q b' e e'=>?_,fun p b e=>h.nn p b (val p b e),fun p h1 h2=>?_,fun p b e ne=>?_,fun p n e=>?_,fun p b e=>?_,fun q n d p b A L e=>?_⟩,fun q b e=>?_,fx⟩
 ·by_cases c:p=x
  ·rw[c,zal]
  ·rw[zaz _ _ c] at e ⊢
   exact h.dj p b e
 ·by_cases c':q=x
  ·rw[c',zal] at e'
   cases e'
  ·rw[zaz _ _ c'] at e'
   by_cases c:p=x
   ·rw[c,zal] at e
    cases e
    exact mn q b' e'
   ·rw[zaz _ _ c] at e
    exact h.lo p b q b' e e'
 ·obtain⟨r1,r2⟩:=h.ro p h1 h2
  exact⟨val2 p 0 r1,r2⟩
 ·obtain⟨n,q,d,b',e1,e2,e3,e4,e5,e6⟩:=h.cb p b (val p b e) ne
  have nq:=nx q b' e3
  refine⟨n,q,d,b',e1,e2,by rw[zaz _ _ nq];exact e3,e4,e5,fun ep=>?_⟩
  rw[zaz rk size nq]
  by_cases c:p=x
  ·rw[c,zal]
   exact h.rk q b' e3
  ·rw[zaz _ _ c] at ep ⊢
   exact e6 ep
 ·obtain⟨b,e1⟩:=h.ck p n e
  exact⟨b,val2 p b e1⟩
 ·by_cases c:p=x
  ·rw[c,zal]
   omega
  ·rw[zaz _ _ c] at e ⊢
   have:=h.rk p b e
   omega
 ·have nq:q≠x:=fun z=>L (by rw[z];exact fx)
  rw[zaz _ _ nq] at e
  obtain⟨b',e1,e2⟩:=h.ar q n d p b A L e
  exact⟨b',val2 p b' e1,e2⟩
 ·by_cases c:q=x
  ·rw[c,zal] at e
   cases e
   exact Int.le_refl _
  ·rw[zaz _ _ c] at e
   exact h.lo q b x a e hx
theorem Se.keep {x n p:Nat}{a d:Int} (ti:Ti N P fl) (h:Se N P fl nd far wt cm rk size Lk) (hx:far x=some a) (mx:∀ q b,far q=some b→b≤a) (A:Arc N P fl x p n d)
  (st:(∃ b,far p=some b)∨∃ b,wt p=some b∧b≤a + d){Lk':Nat→Nat→Int→Prop} (hl:∀ q n' d',Lk' q n' d'→Lk q n' d'∨(q=x∧n'=n∧d'=d)) (ta:∀ p',Arc N P fl x p' n d→p'=p):Se N P fl nd far wt cm rk size Lk':=by
 refine⟨h.dj,h.lo,h.nn,h.ro,h.cb,h.ck,h.rk,fun q n' d' p' b A' L e=>?_⟩
 rcases hl q n' d' L with l|⟨rfl,rfl,rfl⟩
 ·exact h.ar q n' d' p' b A' l e
 ·rw[hx] at e
  cases e
  obtain rfl:=ta p' A'
  rcases st with⟨b,e1⟩|⟨b,e1,e2⟩
  ·have:=mx p' b e1
   have:=A.nn ti
   exact⟨b,.inl e1,by omega⟩
  ·exact⟨b,.inr e1,e2⟩
theorem Se.near {x n p:Nat}{a d:Int} (ok:N.Ok) (ti:Ti N P fl) (h:Se N P fl nd far wt cm rk size Lk) (hx:far x=some a) (mx:∀ q b,far q=some b→b≤a) (A:Arc N P fl x p n d)
  (fp:far p=none) (st:∀ b,wt p=some b→a + d<b){Lk':Nat→Nat→Int→Prop} (hl:∀ q n' d',Lk' q n' d'→Lk q n' d'∨(q=x∧n'=n∧d'=d)) (ta:∀ p',Arc N P fl x p' n d→p'=p) :
  Se N P fl nd far (up wt p (some (a + d))) (up cm p (some n)) rk size Lk':=by
 have dn:=A.nn ti
 have an:=(h.nn x a (.inl hx)).1
 have nxp:x≠p:=fun z=>by
  rw[z,fp] at hx
  cases hx
 refine⟨fun q b e=>?_,fun q b q' b' e e'=>?_,fun q b e=>?_,fun q h1 h2=>?_,fun q b e ne=>?_,fun q n' e=>?_,h.rk,fun q n' d' p' b A' L e=>?_⟩
 ·have c:q≠p:=fun z=>by
   rw[z,fp] at e
   cases e
  rw[zaz _ _ c]
  exact h.dj q b e
 ·by_cases c:q'=p
  ·rw[c,zal] at e'
   cases e'
   have:=mx q b e
   omega
  ·rw[zaz _ _ c] at e'
   exact h.lo q b q' b' e e'
 ·by_cases c:q=p
  ·rw[c,zal,fp] at e
   rcases e with e|e
   ·cases e
   ·cases e
    rw[c]
    exact⟨by omega,A.lt ok⟩
  ·rw[zaz _ _ c] at e
   exact h.nn q b e
 ·obtain⟨r1,r2⟩:=h.ro q h1 h2
  have c:q≠p:=fun z=>by
   rw[z,fp] at r1
   rcases r1 with r1|r1
   ·cases r1
   ·have:=st 0 r1
    omega
  rw[zaz _ _ c,zaz _ _ c]
  exact⟨r1,r2⟩
 ·by_cases c:q=p
  ·rw[c,zal,fp] at e
   rcases e with e|e
   ·cases e
   ·cases e
    rw[c]
    exact⟨n,x,d,a,zal _ _ _,A,hx,rfl,nxp,fun z=>by rw[fp] at z;cases z⟩
  ·rw[zaz _ _ c] at e
   obtain⟨n',q',d',b',e1,e2⟩:=h.cb q b e ne
   exact⟨n',q',d',b',by rw[zaz _ _ c];exact e1,e2⟩
 ·by_cases c:q=p
  ·rw[c,zal]
   exact⟨a + d,.inr rfl⟩
  ·rw[zaz _ _ c] at e ⊢
   exact h.ck q n' e
 ·have fin:∀ b',(far p'=some b'∨wt p'=some b')→b'≤b + d'→∃ b'',(far p'=some b''∨up wt p (some (a + d)) p'=some b'')∧b''≤b + d':=fun b' e1 e2=>by
   by_cases c:p'=p
   ·rw[c,fp] at e1
    rcases e1 with e1|e1
    ·cases e1
    ·have:=st b' e1
     exact⟨a + d,.inr (by rw[c,zal]),by omega⟩
   ·exact⟨b',by rw[zaz _ _ c];exact e1,e2⟩
  rcases hl q n' d' L with l|⟨rfl,rfl,rfl⟩
  ·obtain⟨b',e1,e2⟩:=h.ar q n' d' p' b A' l e
   exact fin b' e1 e2
  ·rw[hx] at e
   cases e
   obtain rfl:=ta p' A'
   exact⟨a + d',.inr (zal _ _ _),Int.le_refl _⟩
theorem Se.more (ok:N.Ok){w:Nat→Int} (hw:∀ n,n<N.m→0≤w n) (hnd:∀ p,p<N.c→nd p=bal N w p - bal N fl p) (ti:Ti N P fl) (h:Se N P fl nd far wt cm rk size fun q _ _=>far q≠none)
  (np:∀ p a,far p=some a→nd p≤0){k:Nat} (hk:k<N.c) (pos:0<nd k):∃ p a,wt p=some a:=by
 by_cases c:∃ p a,wt p=some a
 ·exact c
 ·exfalso
  have nw:∀ p a,wt p=some a→False:=fun p a e=>c ⟨p,a,e⟩
  obtain⟨r,hr,neg⟩:=zit ok hnd hk pos
  have cl:∀ q p n d,Arc N P fl q p n d→(far q).isSome=true→(far p).isSome=true:=fun q p n d A e=>by
   obtain⟨a,e⟩:=Option.isSome_iff_exists.mp e
   obtain⟨b,e1,_⟩:=h.ar q n d p a A (by rw[e];exact fun z=>by cases z) e
   rcases e1 with e1|e1
   ·rw[e1]
    rfl
   ·exact(nw _ _ e1).elim
  have z:=cut ok hw hnd ti.f (fun p=>(far p).isSome) (fun n hn e=>cl _ _ n _ ⟨hn,.inl ⟨rfl,rfl,rfl⟩⟩ e) (fun n hn e f=>cl _ _ n 0 ⟨hn,.inr ⟨rfl,rfl,f,rfl⟩⟩ e)
  have y:=zgB (f:=fun p=>if (far p).isSome=true then nd p else 0) (k:=r) N.c (fun i _=>by
   by_cases e:(far i).isSome=true
   ·obtain⟨a,e'⟩:=Option.isSome_iff_exists.mp e
    rw[if_pos e]
    exact np i a e'
   ·rw[if_neg e]
    exact Int.le_refl _) hr (by
   have e:(far r).isSome=true:=by
    rcases(h.ro r hr neg).1 with e|e
    ·rw[e]
     rfl
    ·exact(nw _ _ e).elim
   rw[if_pos e]
   exact neg)
  omega
def mv (P:Nat→Int) (far:Nat→Option Int) (D:Int) (p:Nat):Int:=match far p with
 | some b=>P p + (D - b)
 | none=>P p
theorem Se.moved {x:Nat}{D:Int} (ti:Ti N P fl) (h:Se N P fl nd far wt cm rk size fun q _ _=>q≠x∧far q≠none) (hx:far x=some D) (mx:∀ q b,far q=some b→b≤D) (wl:∀ q b,wt q=some b→D≤b):Ti N (mv P far D) fl:=by
 have arc:∀ q p n d,Arc N P fl q p n d→q≠x→∀ a,far q=some a→(∃ b,far p=some b∧b≤a + d)∨(D≤a + d∧far p=none):=fun q p n d A ne a e=>by
  obtain⟨b,e1,e2⟩:=h.ar q n d p a A ⟨ne,by rw[e];exact fun z=>by cases z⟩ e
  rcases e1 with e1|e1
  ·exact .inl ⟨b,e1,e2⟩
  ·have:=wl p b e1
   refine .inr ⟨by omega,?_⟩
   cases e3:far p with
   | none=>rfl
   | some z=>
    rw[h.dj p z e3] at e1
    cases e1
 have mvs:∀ p b,far p=some b→mv P far D p=P p + (D - b):=fun p b e=>by unfold mv;rw[e]
 have mvn:∀ p,far p=none→mv P far D p=P p:=fun p e=>by unfold mv;rw[e]
 have mvg:∀ p,P p≤mv P far D p:=fun p=>by
  cases e:far p with
  | none=>rw[mvn p e];exact Int.le_refl _
  | some b=>
   rw[mvs p b e]
   have:=mx p b e
   omega
 have mvx:mv P far D x=P x:=by rw[mvs x D hx];omega
 have sl:∀ n,n<N.m→0≤slk N (mv P far D) n:=fun n hn=>by
  have s0:=ti.s n hn
  have g:=mvg (N.ot n)
  unfold slk at s0 ⊢
  by_cases c:N.on n=x
  ·rw[c,mvx]
   rw[c] at s0
   omega
  ·cases e:far (N.on n) with
   | none=>
    rw[mvn _ e]
    omega
   | some a=>
    rw[mvs _ _ e]
    rcases arc (N.on n) (N.ot n) n _ ⟨hn,.inl ⟨rfl,rfl,rfl⟩⟩ c a e with⟨b,e1,e2⟩|⟨e1,e2⟩
    ·rw[mvs _ _ e1]
     unfold slk at e2
     omega
    ·unfold slk at e1
     omega
 refine⟨sl,ti.f,fun n hn f=>?_⟩
 have t0:=ti.t n hn f
 have s1:=sl n hn
 have:slk N (mv P far D) n≤0:=by
  have g:=mvg (N.on n)
  unfold slk at t0 ⊢
  by_cases c:N.ot n=x
  ·rw[c,mvx]
   rw[c] at t0
   omega
  ·cases e:far (N.ot n) with
   | none=>
    rw[mvn _ e]
    omega
   | some a=>
    rw[mvs _ _ e]
    rcases arc (N.ot n) (N.on n) n 0 ⟨hn,.inr ⟨rfl,rfl,f,rfl⟩⟩ c a e with⟨b,e1,e2⟩|⟨e1,e2⟩
    ·rw[mvs _ _ e1]
     omega
    ·have:=mx _ _ e
     omega
 omega
end
end K21
namespace K21
def ac (N:Wn) (n p:Nat):Nat:=if N.ot n=p then N.on n else N.ot n
def bc (N:Wn) (cm:Nat→Option Nat) (p:Nat):Nat:=match cm p with
 | some n=>ac N n p
 | none=>p
theorem zdk {N:Wn}{cm:Nat→Option Nat}{p n:Nat} (e:cm p=some n):bc N cm p=ac N n p:=by
 unfold bc
 rw[e]
theorem Arc.ac {N:Wn}{P fl:Nat→Int}{q p n:Nat}{d:Int} (A:Arc N P fl q p n d) (ne:q≠p):ac N n p=q∧K21.ac N n q=p:=by
 unfold K21.ac
 obtain⟨_,⟨rfl,rfl,_⟩|⟨rfl,rfl,_⟩⟩:=A
 ·exact⟨if_pos rfl,if_neg (Ne.symm ne)⟩
 ·exact⟨if_neg ne,if_pos rfl⟩
theorem bal_up {N:Wn}{a:Nat→Int}{n:Nat} (hn:n<N.m) (e:Int) (v:Nat):bal N (up a n (a n + e)) v=bal N a v + (if N.ot n=v then e else 0) - (if N.on n=v then e else 0):=by
 have q:bal N (up a n (a n + e)) v=sm (fun i=>((if N.ot i=v then a i else 0) - (if N.on i=v then a i else 0)) + (if i=n then(if N.ot n=v then e else 0) - (if N.on n=v then e else 0) else 0)) N.m:=zaA _ fun i _=>by
  by_cases c:i=n
  ·subst c
   rw[zal,if_pos rfl]
   by_cases c1:N.ot i=v <;> by_cases c2:N.on i=v <;> simp[c1,c2] <;> omega
  ·rw[zaz _ _ c,if_neg c]
   omega
 rw[q,zeu,zev,if_pos hn]
 show bal N a v + _=_
 omega
theorem ziu {N:Wn} (k:Int) (a b:Nat→Int) (v:Nat):bal N (fun n=>k * a n + b n) v=k * bal N a v + bal N b v:=by
 unfold bal
 rw[← zir,← zeu]
 refine zaA _ fun i _=>?_
 by_cases c1:N.ot i=v <;> by_cases c2:N.on i=v <;> simp[c1,c2,Int.mul_neg] <;> omega
theorem zjx {N:Wn} (v:Nat):bal N (fun _=>0) v=0:=by
 unfold bal
 rw[← zcW N.m]
 refine zaA _ fun i _=>?_
 simp
section
variable {N:Wn}{P fl nd:Nat→Int}{far wt:Nat→Option Int}{cm:Nat→Option Nat}{rk:Nat→Nat}{size:Nat}{Lk:Nat→Nat→Int→Prop}
theorem Se.back (h:Se N P fl nd far wt cm rk size Lk){p n:Nat}{a:Int} (fp:far p=some a) (e:cm p=some n):∃ d b,Arc N P fl (ac N n p) p n d∧far (ac N n p)=some b∧a=b + d∧ac N n p≠p∧rk (ac N n p)<rk p:=by
 have ne:¬ nd p<0:=fun z=>by
  have:=(h.ro p (h.nn p a (.inl fp)).2 z).2
  rw[e] at this
  cases this
 obtain⟨n',q,d,b,e1,e2,e3,e4,e5,e6⟩:=h.cb p a (.inl fp) ne
 rw[e] at e1
 cases e1
 have q':=(e2.ac e5).1
 rw[q']
 exact⟨d,b,e2,e3,e4,e5,e6 fp⟩
theorem Se.root (h:Se N P fl nd far wt cm rk size Lk){p:Nat}{a:Int} (fp:far p=some a) (e:cm p=none):nd p<0:=by
 by_cases c:nd p<0
 ·exact c
 ·obtain⟨n',q,d,b,e1,_⟩:=h.cb p a (.inl fp) c
  rw[e] at e1
  cases e1
theorem Se.way (h:Se N P fl nd far wt cm rk size Lk){x:Nat}{D:Int} (hx:far x=some D):∀ i,∃ a,far (itr (bc N cm) i x)=some a
 | 0=>⟨D,hx⟩
 | i + 1=>by
  obtain⟨a,e⟩:=h.way hx i
  show ∃ a,far (bc N cm (itr (bc N cm) i x))=some a
  cases c:cm (itr (bc N cm) i x) with
  | none=>
   refine⟨a,?_⟩
   unfold bc at e c ⊢
   rw[c]
   exact e
  | some n=>
   obtain⟨d,b,_,fb,_⟩:=h.back e c
   rw[zdk c]
   exact⟨b,fb⟩
theorem Se.falls (h:Se N P fl nd far wt cm rk size Lk){x:Nat}{D:Int} (hx:far x=some D){i:Nat} (c:(cm (itr (bc N cm) i x)).isSome=true):rk (itr (bc N cm) (i + 1) x)<rk (itr (bc N cm) i x):=by
 obtain⟨a,e⟩:=h.way hx i
 obtain⟨n,c⟩:=Option.isSome_iff_exists.mp c
 obtain⟨d,b,_,_,_,_,r⟩:=h.back e c
 show rk (bc N cm (itr (bc N cm) i x))<_
 rw[zdk c]
 exact r
theorem Se.falls2 (h:Se N P fl nd far wt cm rk size Lk){x:Nat}{D:Int} (hx:far x=some D){k:Nat} (c:∀ i,i<k→(cm (itr (bc N cm) i x)).isSome=true){j:Nat}:∀ {i},j<i→i≤k→rk (itr (bc N cm) i x)<rk (itr (bc N cm) j x)
 | 0,h1,_=>absurd h1 (Nat.not_lt_zero _)
 | i + 1,h1,h2=>by
  have s:=h.falls hx (c i (by omega))
  by_cases e:j=i
  ·rw[e]
   exact s
  ·have:=h.falls2 hx c (j:=j) (i:=i) (by omega) (by omega)
   omega
def cn (cm:Nat→Option Nat) (p:Nat):Nat:=(cm p).getD 0
theorem zbs {cm:Nat→Option Nat}{p:Nat} (h:(cm p).isSome=true):cm p=some (cn cm p):=by
 obtain⟨n,e⟩:=Option.isSome_iff_exists.mp h
 unfold cn
 rw[e]
 rfl
theorem Se.once (h:Se N P fl nd far wt cm rk size Lk){x:Nat}{D:Int} (hx:far x=some D){k:Nat} (c:∀ i,i<k→(cm (itr (bc N cm) i x)).isSome=true){i j:Nat} (ji:j<i) (ik:i<k):cn cm (itr (bc N cm) j x)≠cn cm (itr (bc N cm) i x):=fun z=>by
 obtain⟨a,ea⟩:=h.way hx i
 obtain⟨b,eb⟩:=h.way hx j
 have ci:=zbs (c i ik)
 have cj:=zbs (c j (by omega))
 have r1:=h.falls2 hx c ji (by omega)
 have r2:=h.falls hx (c i ik)
 have si:itr (bc N cm) (i + 1) x=ac N (cn cm (itr (bc N cm) i x)) (itr (bc N cm) i x):=zdk ci
 rw[si] at r2
 obtain⟨d1,b1,A1,_,_,n1,_⟩:=h.back ea ci
 obtain⟨d2,b2,A2,_,_,n2,_⟩:=h.back eb cj
 rw[← z] at A1 n1 r2
 generalize itr (bc N cm) i x=xi at *
 generalize itr (bc N cm) j x=xj at *
 generalize cn cm xj=n at *
 have e1:=A1.ac n1
 have e2:=A2.ac n2
 have ends:xi=xj∨xi=ac N n xj:=by
  obtain⟨_,⟨p1,p2,_⟩|⟨p1,p2,_⟩⟩:=A1 <;> obtain⟨_,⟨q1,q2,_⟩|⟨q1,q2,_⟩⟩:=A2
  ·exact .inl (p2.symm.trans q2)
  ·exact .inr (p2.symm.trans q1)
  ·exact .inr (p2.symm.trans q1)
  ·exact .inl (p2.symm.trans q2)
 rcases ends with e|e
 ·rw[e] at r1
  omega
 ·rw[e,e2.2] at r2
  rw[e] at r1
  omega
def fs (N:Wn) (cm:Nat→Option Nat) (x:Nat) (am:Int) (fl:Nat→Int):Nat→Nat→Int
 | 0=>fl
 | i + 1=>up (fs N cm x am fl i) (cn cm (itr (bc N cm) i x)) (fs N cm x am fl i (cn cm (itr (bc N cm) i x)) + (if N.ot (cn cm (itr (bc N cm) i x))=itr (bc N cm) i x then am else 0 - am))
theorem zgC {x:Nat}{am:Int}{n:Nat}:∀ i,(∀ j,j<i→cn cm (itr (bc N cm) j x)≠n)→fs N cm x am fl i n=fl n
 | 0,_=>rfl
 | i + 1,h=>by
  show up _ _ _ n=_
  rw[zaz _ _ (Ne.symm (h i (by omega))),zgC i fun j hj=>h j (by omega)]
theorem Se.sent_bal (h:Se N P fl nd far wt cm rk size Lk){x:Nat}{D am:Int} (hx:far x=some D) (v:Nat):∀ k,(∀ i,i<k→(cm (itr (bc N cm) i x)).isSome=true)→bal N (fs N cm x am fl k) v=bal N fl v + (if x=v then am else 0) - (if itr (bc N cm) k x=v then am else 0)
 | 0,_=>by
  show bal N fl v=bal N fl v + (if x=v then am else 0) - (if x=v then am else 0)
  omega
 | i + 1,c=>by
  have ih:=h.sent_bal hx v (am:=am) i fun j hj=>c j (by omega)
  obtain⟨a,e⟩:=h.way hx i
  have ci:=zbs (c i (by omega))
  obtain⟨d,b,A,_,_,ne,_⟩:=h.back e ci
  have si:itr (bc N cm) (i + 1) x=ac N (cn cm (itr (bc N cm) i x)) (itr (bc N cm) i x):=zdk ci
  show bal N (up (fs N cm x am fl i) (cn cm (itr (bc N cm) i x)) _) v=_
  rw[bal_up A.1,ih,si]
  generalize itr (bc N cm) i x=xi at *
  generalize cn cm xi=n at *
  obtain⟨_,⟨p1,p2,_⟩|⟨p1,p2,_⟩⟩:=A
  ·rw[p1,p2,if_pos rfl]
   omega
  ·rw[p1,p2,if_neg ne]
   by_cases c1:ac N n xi=v <;> by_cases c2:xi=v <;> simp[c1,c2] <;> omega
theorem Se.sent_ti (h:Se N P fl nd far wt cm rk size Lk){x:Nat}{D am:Int} (hx:far x=some D) (ti:Ti N (mv P far D) fl) (am0:0≤am):∀ k,(∀ i,i<k→(cm (itr (bc N cm) i x)).isSome=true) →
  (∀ i,i<k→N.on (cn cm (itr (bc N cm) i x))=itr (bc N cm) i x→am≤fl (cn cm (itr (bc N cm) i x)))→Ti N (mv P far D) (fs N cm x am fl k)
 | 0,_,_=>ti
 | i + 1,c,hm=>by
  have ih:=h.sent_ti hx ti am0 i (fun j hj=>c j (by omega)) (fun j hj=>hm j (by omega))
  obtain⟨a,e⟩:=h.way hx i
  have ci:=zbs (c i (by omega))
  obtain⟨d,b,A,fb,eab,ne,_⟩:=h.back e ci
  have same:fs N cm x am fl i (cn cm (itr (bc N cm) i x))=fl (cn cm (itr (bc N cm) i x)):=zgC i fun j hj=>h.once hx c hj (by omega)
  have hmi:=hm i (by omega)
  have key:0≤fl (cn cm (itr (bc N cm) i x)) + (if N.ot (cn cm (itr (bc N cm) i x))=itr (bc N cm) i x then am else 0 - am)∧slk N (mv P far D) (cn cm (itr (bc N cm) i x))=0:=by
   generalize itr (bc N cm) i x=xi at *
   generalize cn cm xi=n at *
   have f0:=ti.f n A.1
   obtain⟨hn,⟨p1,p2,p3⟩|⟨p1,p2,p3,p4⟩⟩:=A
   ·refine⟨by rw[p2,if_pos rfl];omega,?_⟩
    have m1:mv P far D xi=P xi + (D - a):=by unfold mv;rw[e]
    have m2:mv P far D (ac N n xi)=P (ac N n xi) + (D - b):=by unfold mv;rw[fb]
    unfold slk at p3 ⊢
    rw[p1,p2] at p3 ⊢
    rw[m1,m2]
    omega
   ·have:=hmi p2
    refine⟨by rw[p1,if_neg ne];omega,ti.t n hn p3⟩
  refine⟨ih.s,fun n hn=>?_,fun n hn f=>?_⟩
  ·by_cases z:n=cn cm (itr (bc N cm) i x)
   ·rw[z]
    show 0≤up _ _ _ _
    rw[zal,same]
    exact key.1
   ·show 0≤up _ _ _ _
    rw[zaz _ _ z]
    exact ih.f n hn
  ·by_cases z:n=cn cm (itr (bc N cm) i x)
   ·rw[z]
    exact key.2
   ·refine ih.t n hn ?_
    have f:0<up (fs N cm x am fl i) (cn cm (itr (bc N cm) i x)) _ n:=f
    rw[zaz _ _ z] at f
    exact f
end
def zhh (N:Wn) (nd:Nat→Int):Nat:=(sm (fun p=>max (nd p) 0) N.c).toNat
theorem ziv {N:Wn}{nd:Nat→Int} (h:sm nd N.c=0) (np:∀ p,p<N.c→nd p≤0):∀ p,p<N.c→nd p=0:=fun p hp=>by
 by_cases c:nd p=0
 ·exact c
 ·have:=np p hp
  have:=zgB (f:=nd) (k:=p) N.c np hp (by omega)
  omega
theorem ziw {N:Wn}{nd nd':Nat→Int}{s e:Nat}{am:Int} (hs:s<N.c) (he:e<N.c) (am0:0<am) (h1:am≤nd e) (h2:am≤0 - nd s) (hn:∀ p,p<N.c→nd' p=nd p + (if s=p then am else 0) - (if e=p then am else 0)):zhh N nd'<zhh N nd:=by
 have q:sm (fun p=>max (nd p) 0) N.c=sm (fun p=>max (nd' p) 0 + (if p=e then am else 0)) N.c:=zaA _ fun p hp=>by
  rw[hn p hp]
  by_cases c1:p=e
  ·subst c1
   have:s≠p:=fun z=>by
    subst z
    omega
   rw[if_pos rfl,if_neg this]
   omega
  ·by_cases c2:s=p
   ·subst c2
    rw[if_pos rfl,if_neg (Ne.symm c1),if_neg c1]
    omega
   ·rw[if_neg c2,if_neg (Ne.symm c1),if_neg c1]
    omega
 rw[zeu,zev,if_pos he] at q
 have nn:=zcy (f:=fun p=>max (nd' p) 0) N.c fun p _=>by omega
 unfold zhh
 omega
end K21
namespace K21
open PySem L2
abbrev Kvs:=List (Key×V)
abbrev Wt:=Nat×Nat×Int×Int
def wn (ws:List Wt) (c:Nat):Wn:=⟨c,ws.length,fun n=>(ws.getD n (0,0,0,0)).1,fun n=>(ws.getD n (0,0,0,0)).2.1,fun n=>(ws.getD n (0,0,0,0)).2.2.1⟩
def wtF (ws:List Wt) (n:Nat):Int:=(ws.getD n (0,0,0,0)).2.2.2
def fn (l:List Int) (i:Nat):Int:=l.getD i 0
structure LR where
 o:Addr
 t:Addr
 l:Addr
 p:Addr
 f:Addr
 n:Addr
 g:Addr
 c:Addr
def zcX (r:LR):List (Str×V):=[("ones",.ref r.o),("others",.ref r.t),("leasts",.ref r.l),("places",.ref r.p),("flow",.ref r.f),("needs",.ref r.n),("going",.ref r.g),("coming",.ref r.c)]
theorem lk0 {a:Str}{v:V}{r:List (Str×V)}:(((a,v)::r):List (Str×V)).lookup a=some v:=by
 rw[List.lookup_cons,beq_self_eq_true]
theorem lk1 {a b:Str}{v:V}{r:List (Str×V)} (h:(a == b)=false):(((b,v)::r):List (Str×V)).lookup a=r.lookup a:=by
 rw[List.lookup_cons,h]
theorem zdl {r:LR}:(zcX r).lookup ("ones":Str)=some (.ref r.o):=lk0
theorem zcz {r:LR}:(zcX r).lookup ("others":Str)=some (.ref r.t):=(lk1 (by decide +kernel)).trans lk0
theorem zix {r:LR}:(zcX r).lookup ("leasts":Str)=some (.ref r.l):=(lk1 (by decide +kernel)).trans ((lk1 (by decide +kernel)).trans lk0)
theorem zbS {r:LR}:(zcX r).lookup ("places":Str)=some (.ref r.p):=(lk1 (by decide +kernel)).trans ((lk1 (by decide +kernel)).trans ((lk1 (by decide +kernel)).trans lk0))
theorem zd3 {r:LR}:(zcX r).lookup ("flow":Str)=some (.ref r.f):=(lk1 (by decide +kernel)).trans ((lk1 (by decide +kernel)).trans ((lk1 (by decide +kernel)).trans ((lk1 (by decide +kernel)).trans lk0)))
theorem zcd {r:LR}:(zcX r).lookup ("needs":Str)=some (.ref r.n):=(lk1 (by decide +kernel)).trans ((lk1 (by decide +kernel)).trans ((lk1 (by decide +kernel)).trans ((lk1 (by decide +kernel)).trans ((lk1 (by decide +kernel)).trans lk0))))
theorem zgD {r:LR}:(zcX r).lookup ("going":Str)=some (.ref r.g):=(lk1 (by decide +kernel)).trans ((lk1 (by decide +kernel)).trans ((lk1 (by decide +kernel)).trans ((lk1 (by decide +kernel)).trans ((lk1 (by decide +kernel)).trans ((lk1 (by decide +kernel)).trans lk0)))))
theorem zfM {r:LR}:(zcX r).lookup ("coming":Str)=some (.ref r.c):=(lk1 (by decide +kernel)).trans ((lk1 (by decide +kernel)).trans ((lk1 (by decide +kernel)).trans ((lk1 (by decide +kernel)).trans ((lk1 (by decide +kernel)).trans ((lk1 (by decide +kernel)).trans ((lk1 (by decide +kernel)).trans lk0))))))
def Nq (r:LR) (a:Addr):Prop:=a≠r.p∧a≠r.f∧a≠r.n
def goN (ws:List Wt) (i:Nat):List Nat:=(List.range ws.length).filter fun n=>decide ((ws.getD n (0,0,0,0)).1=i)
def coN (ws:List Wt) (i:Nat):List Nat:=(List.range ws.length).filter fun n=>decide ((ws.getD n (0,0,0,0)).2.1=i)
def zbh (l:List Nat):List V:=l.map fun n=>V.int (n:Nat)
structure zcH (C:Addr) (H:Hp) (q:Addr) (r:LR) (ws:List Wt) (cnt:Nat):Prop where
 ex:∃ dx,H q=some (.ins C dx (zcX r))
 ho:H r.o=some (.lst (ws.map fun w=>V.int (w.1:Nat)))
 ht:H r.t=some (.lst (ws.map fun w=>V.int (w.2.1:Nat)))
 hl:H r.l=some (.lst (ws.map fun w=>V.int w.2.2.1))
 hg:∃ gs:List Addr,H r.g=some (.lst (gs.map V.ref))∧gs.length=cnt∧∀ i a,gs[i]?=some a→H a=some (.lst (zbh (goN ws i)))∧Nq r a
 hc:∃ gs:List Addr,H r.c=some (.lst (gs.map V.ref))∧gs.length=cnt∧∀ i a,gs[i]?=some a→H a=some (.lst (zbh (coN ws i)))∧Nq r a
 no:Nq r r.o
 nt:Nq r r.t
 nl:Nq r r.l
 ng:Nq r r.g
 nc:Nq r r.c
 nq:Nq r q
 pf:r.p≠r.f
 pn:r.p≠r.n
 fn:r.f≠r.n
def Kx (S:List Addr) (H H':Hp):Prop:=∀ b o,H b=some o→b∉S→H' b=some o
theorem Kx.of {S:List Addr}{H H':Hp} (e:zaj H H'):Kx S H H':=fun b o h _=>e b o h
theorem Kx.trans {S:List Addr}{H H1 H2:Hp} (a:Kx S H H1) (b:Kx S H1 H2):Kx S H H2:=fun c o h z=>b c o (a c o h z) z
theorem Kx.mono {S S':List Addr}{H H':Hp} (a:Kx S H H') (h:∀ x∈S,x∈S'):Kx S' H H':=fun c o q z=>a c o q fun y=>z (h c y)
theorem Kx.upd {S:List Addr}{H:Hp}{a:Addr}{o:HO} (h:a∈S):Kx S H (L2.upd H a o):=fun b u e z=>by
 rw[zag (fun y=>z (by rw[y];exact h))]
 exact e
def Dc (H:Hp) (a:Addr):Prop:=∃ kvs,H a=some (.dK kvs)
theorem zcH.kx {C:Addr}{H H':Hp}{q:Addr}{r:LR}{ws:List Wt}{cnt:Nat}{S:List Addr} (h:zcH C H q r ws cnt) (k:Kx S H H') (hs:∀ a∈S,a=r.p∨a=r.f∨a=r.n∨Dc H a):zcH C H' q r ws cnt:=by
 have lst:∀ a xs,H a=some (.lst xs)→Nq r a→H' a=some (.lst xs):=fun a xs e n=>k a _ e fun z=>by
  rcases hs a z with y|y|y|⟨kvs,y⟩
  ·exact n.1 y
  ·exact n.2.1 y
  ·exact n.2.2 y
  ·rw[e] at y
   cases y
 obtain⟨dx,ex⟩:=h.ex
 obtain⟨gs,g1,g2,g3⟩:=h.hg
 obtain⟨cs,c1,c2,c3⟩:=h.hc
 refine⟨⟨dx,k _ _ ex fun z=>?_⟩,lst _ _ h.ho h.no,lst _ _ h.ht h.nt,lst _ _ h.hl h.nl,⟨gs,lst _ _ g1 h.ng,g2,fun i a e=>⟨lst _ _ (g3 i a e).1 (g3 i a e).2,(g3 i a e).2⟩⟩,⟨cs,lst _ _ c1 h.nc,c2,fun i a e=>⟨lst _ _ (c3 i a e).1 (c3 i a e).2,(c3 i a e).2⟩⟩,h.no,h.nt,h.nl,h.ng,h.nc,h.nq,h.pf,h.pn,h.fn⟩
 rcases hs q z with y|y|y|⟨kvs,y⟩
 ·exact h.nq.1 y
 ·exact h.nq.2.1 y
 ·exact h.nq.2.2 y
 ·rw[ex] at y
  cases y
theorem zcH.same {C:Addr}{H H':Hp}{q:Addr}{r:LR}{ws:List Wt}{cnt:Nat} (h:zcH C H q r ws cnt) (e:zaj H H'):zcH C H' q r ws cnt:=by
 obtain⟨dx,ex⟩:=h.ex
 obtain⟨gs,g1,g2,g3⟩:=h.hg
 obtain⟨cs,c1,c2,c3⟩:=h.hc
 exact⟨⟨dx,e _ _ ex⟩,e _ _ h.ho,e _ _ h.ht,e _ _ h.hl,⟨gs,e _ _ g1,g2,fun i a q=>⟨e _ _ (g3 i a q).1,(g3 i a q).2⟩⟩,⟨cs,e _ _ c1,c2,fun i a q=>⟨e _ _ (c3 i a q).1,(c3 i a q).2⟩⟩,h.no,h.nt,h.nl,h.ng,h.nc,h.nq,h.pf,h.pn,h.fn⟩
theorem zeX {l:List Int}{i:Nat} (h:i<l.length):atI (l.map V.int) (i:Int)=some (.int (fn l i)):=by
 rw[zch (by omega),Int.toNat_natCast,List.getElem?_map,List.getElem?_eq_getElem h]
 unfold fn
 rw[List.getD_eq_getElem?_getD,List.getElem?_eq_getElem h]
 rfl
theorem zeY {ws:List Wt}{n:Nat} (f:Wt→V) (h:n<ws.length):atI (ws.map f) (n:Int)=some (f (ws.getD n (0,0,0,0))):=by
 rw[zch (by omega),Int.toNat_natCast,List.getElem?_map,List.getElem?_eq_getElem h,List.getD_eq_getElem?_getD,List.getElem?_eq_getElem h]
 rfl
theorem zfN {l:List Int}{i:Nat} (h:i<l.length):(l.map V.int)[((i:Nat):Int).toNat]?=some (.int (fn l i)):=by
 rw[Int.toNat_natCast,List.getElem?_map,List.getElem?_eq_getElem h]
 unfold fn
 rw[List.getD_eq_getElem?_getD,List.getElem?_eq_getElem h]
 rfl
theorem zdm (kvs:Kvs) (k:Key) (v:V):(zbu kvs k v).length≤kvs.length + 1:=by
 unfold zbu
 split
 ·rw[List.length_map]
  omega
 ·rw[List.length_append]
  exact Nat.le_refl _
theorem zdu {l:List Int}{i:Nat} (h:i<l.length) (v:Int):fn (l.set i v)=up (fn l) i v:=by
 funext j
 show(l.set i v).getD j 0=if j=i then v else l.getD j 0
 rw[List.getD_eq_getElem?_getD,List.getD_eq_getElem?_getD,List.getElem?_set]
 by_cases c:i=j
 ·subst c
  simp[h]
 ·simp[c,Ne.symm c]
section
variable {P:Program}{w:World}{K:PySem.W.Frag}{mg:Str→Option Value}{base:Heap}{a:Adr}
def zk8 (C:Addr):Sp:=fun vs H Q _=>∃ q r ws c p,∃ n:Nat,vs=[.ref q,.int n]∧zcH C H q r ws c∧H r.p=some (.lst ((p:List Int).map V.int))∧p.length=c∧n<ws.length∧(wn ws c).Ok∧Q (.int (slk (wn ws c) (fn p) n)) H
theorem zgE (T:Tx K mg a):CalM P w K mg base CX0 1 a.Layout "slack" ["self","number"] [] (zk8 a.Layout):=T.m_Layout_slack.cal fun f fd F=>by
 refine F.ok zd1 (fun vs H Q E h=>?_) (fun cdv A outer s H vs Q E hr h=>?_)
 ·obtain⟨q,r,ws,c,p,n,rfl,_⟩:=h
  rfl
 ·obtain⟨q,r,ws,c,p,n,rfl,L,hp,hc,hn,ok,k⟩:=h
  obtain⟨dx,ex⟩:=L.ex
  have o1:(ws.getD n (0,0,0,0)).1<p.length:=by rw[hc];exact ok.on n hn
  have o2:(ws.getD n (0,0,0,0)).2.1<p.length:=by rw[hc];exact ok.ot n hn
  refine⟨_,(zai (zaH (zaC zbC (zaC zbC (zas zav (zaJ (pv 0) rfl) (zas zav (zaJ (pv 0) rfl) (pv 1) (fun _ _=>rfl)) (fun _ _=>rfl)) (zas zav (zaJ (pv 0) rfl) (zas zav (zaJ (pv 0) rfl) (pv 1) (fun _ _=>rfl)) (fun _ _=>rfl))) (zas zav (zaJ (pv 0) rfl) (pv 1) (fun _ _=>rfl))))),?_⟩
  exact⟨_,rfl,q,a.Layout,dx,_,_,rfl,ex,T.c_Layout,T.na_Layout_places,zbS,_,rfl,q,a.Layout,dx,_,_,rfl,ex,T.c_Layout,T.na_Layout_others,zcz,_,rfl,r.t,_,_,_,rfl,rfl,SqL.of L.ht,zeY _ hn,r.p,_,_,_,rfl,rfl,SqL.of hp,zeX o2,
   _,rfl,q,a.Layout,dx,_,_,rfl,ex,T.c_Layout,T.na_Layout_places,zbS,_,rfl,q,a.Layout,dx,_,_,rfl,ex,T.c_Layout,T.na_Layout_ones,zdl,_,rfl,r.o,_,_,_,rfl,rfl,SqL.of L.ho,zeY _ hn,r.p,_,_,_,rfl,rfl,SqL.of hp,zeX o1,_,_,rfl,rfl,
   _,rfl,q,a.Layout,dx,_,_,rfl,ex,T.c_Layout,T.na_Layout_leasts,zix,_,rfl,r.l,_,_,_,rfl,rfl,SqL.of L.hl,zeY _ hn,_,_,rfl,rfl,k⟩
def zjy (C:Addr):Sp:=fun vs H Q _=>∃ q r ws c,∃ n p:Nat,vs=[.ref q,.int n,.int p]∧zcH C H q r ws c∧n<ws.length∧Q (.int (ac (wn ws c) n p:Nat)) H
theorem zd4 (T:Tx K mg a):CalM P w K mg base CX0 1 a.Layout "end_across" ["self","number","point"] [] (zjy a.Layout):=T.m_Layout_end_across.cal fun f fd F=>by
 refine F.ok zcG (fun vs H Q E h=>?_) (fun cdv A outer s H vs Q E hr h=>?_)
 ·obtain⟨q,r,ws,c,n,p,rfl,_⟩:=h
  rfl
 ·obtain⟨q,r,ws,c,n,p,rfl,L,hn,k⟩:=h
  obtain⟨dx,ex⟩:=L.ex
  refine⟨_,(zai (zaH (zeC (zaq zc3 (zas zav (zaJ (pv 0) rfl) (pv 1) (fun _ _=>rfl)) (pv 2) (zau _)) (zas zav (zaJ (pv 0) rfl) (pv 1) (fun _ _=>rfl)) (zas zav (zaJ (pv 0) rfl) (pv 1) (fun _ _=>rfl))))),?_⟩
  refine⟨_,rfl,q,a.Layout,dx,_,_,rfl,ex,T.c_Layout,T.na_Layout_others,zcz,_,rfl,r.t,_,_,_,rfl,rfl,SqL.of L.ht,zeY _ hn,_,rfl,rfl,_,rfl,?_⟩
  refine zcT (fun c1=>?_) (fun c1=>?_)
  ·refine⟨_,rfl,q,a.Layout,dx,_,_,rfl,ex,T.c_Layout,T.na_Layout_ones,zdl,_,rfl,r.o,_,_,_,rfl,rfl,SqL.of L.ho,zeY _ hn,?_⟩
   have e:ac (wn ws c) n p=(ws.getD n (0,0,0,0)).1:=if_pos (by have:=of_decide_eq_true c1;injection this with z;exact Int.ofNat.inj z)
   rw[e] at k
   exact k
  ·refine⟨_,rfl,q,a.Layout,dx,_,_,rfl,ex,T.c_Layout,T.na_Layout_others,zcz,_,rfl,r.t,_,_,_,rfl,rfl,SqL.of L.ht,zeY _ hn,?_⟩
   have e:ac (wn ws c) n p=(ws.getD n (0,0,0,0)).2.1:=if_neg (fun z=>by have:=of_decide_eq_false c1;exact this (by rw[show(ws.getD n (0,0,0,0)).2.1=p from z]))
   rw[e] at k
   exact k
end
end K21
namespace K21
open PySem L2
def zk9:Option Nat→V
 | none=>.non
 | some v=>.int (v:Nat)
def psh (ws:List Wt) (c:Nat) (P:List Int) (kvs:Kvs):Nat→List Int×Kvs×Option Nat
 | 0=>(P,kvs,none)
 | k + 1=>if slk (wn ws c) (fn (psh ws c P kvs k).1) k<0 then
   ((psh ws c P kvs k).1.set ((wn ws c).ot k) (fn (psh ws c P kvs k).1 ((wn ws c).ot k) + (0 - slk (wn ws c) (fn (psh ws c P kvs k).1) k)),zbu (psh ws c P kvs k).2.1 (Sum.inl (((wn ws c).ot k:Nat):Int)) (.int (k:Nat)),some ((wn ws c).ot k))
  else psh ws c P kvs k
theorem zeZ (ws:List Wt) (c:Nat) (P:List Int) (kvs:Kvs):∀ k,(psh ws c P kvs k).1.length=P.length∧(psh ws c P kvs k).2.1.length≤kvs.length + k
 | 0=>⟨rfl,Nat.le_refl _⟩
 | k + 1=>by
  obtain⟨h1,h2⟩:=zeZ ws c P kvs k
  unfold psh
  split
  ·refine⟨by rw[List.length_set];exact h1,?_⟩
   have:=zdm (psh ws c P kvs k).2.1 (Sum.inl (((wn ws c).ot k:Nat):Int)) (.int (k:Nat))
   show(zbu _ _ _).length≤_
   omega
  ·exact⟨h1,by omega⟩
section
variable {P:Program}{w:World}{K:PySem.W.Frag}{mg:Str→Option Value}{base:Heap}{a:Adr}
def spPush (C:Addr):Sp:=fun vs H Q _=>∃ q r ws c p d kvs,vs=[.ref q,.ref d]∧zcH C H q r ws c∧H r.p=some (.lst ((p:List Int).map V.int))∧p.length=c∧(wn ws c).Ok∧ws.length≤1000∧H d=some (.dK kvs)∧kvs.length≤100000 ∧
 ∀ H',Kx [r.p,d] H H'→H' r.p=some (.lst ((psh ws c p kvs ws.length).1.map V.int))→H' d=some (.dK (psh ws c p kvs ws.length).2.1)→Q (zk9 (psh ws c p kvs ws.length).2.2) H'
set_option maxHeartbeats 4000000 in
theorem zla (T:Tx K mg a):Cal P w K mg base CX0 2 "push_once" ["layout","pushers"] [] (spPush a.Layout):=T.d_push_once.cal fun f fd F=>by
 have m_Layout_slack:=zgE (P:=P) (w:=w) (base:=base) T
 refine F.ok zbj (fun vs H Q E h=>?_) (fun cdv A outer s H vs Q E hr h=>?_)
 ·obtain⟨q,r,ws,c,p,d,kvs,rfl,_⟩:=h
  rfl
 ·obtain⟨q,r,ws,c,p,d,kvs,rfl,L,hp,hc,ok,hw,hd,hk,k⟩:=h
  have npd:r.p≠d:=zgS hp hd (by intro z;cases z)
  have lay:∀ G,Kx [r.p,d] H G→zcH a.Layout G q r ws c:=fun G kx=>L.kx kx fun x hx=>by
   rcases List.mem_cons.mp hx with z|z
   ·exact .inl z
   ·rw[List.mem_singleton.mp z]
    exact .inr (.inr (.inr ⟨kvs,hd⟩))
  obtain⟨dx,ex⟩:=L.ex
  refine⟨_,(zad (zam (i:=2) zbj.nd rfl (by first|exact Or.inl rfl|exact Or.inr rfl) zfe)
   (zad (zce PassesOwn.never rfl (zcv rfl T.n_enumerate (zab (zaJ (pv 0) rfl) zah)) (zcZ rfl (zar (zak (i:=3) zbj.nd rfl (by first|exact Or.inl rfl|exact Or.inr rfl)) (zar (zak (i:=4) zbj.nd rfl (by first|exact Or.inl rfl|exact Or.inr rfl)) zbm))) (zad (zam (i:=5) zbj.nd rfl (by first|exact Or.inl rfl|exact Or.inr rfl) (zaC zbC zaf (zdV (pv 0) T.c_Layout m_Layout_slack (hr.mono (by decide)) (zab (pv 3) zah))))
   (zai (zbF (zaq zc4 (pv 5) zaf (zau _)) (zad (zcO (zaJ (pv 0) rfl) (pv 4) zcb (pv 5) zff zca)
   (zad (zdi (zb1 hr) (pv 1) (pv 4) (pv 3) rfl)
   (zai (zam (i:=2) zbj.nd rfl (by first|exact Or.inl rfl|exact Or.inr rfl) (pv 4))))) zaI))))
   (zai (zaH (pv 2))))),?_⟩
  refine⟨_,rfl,q,a.Layout,dx,_,_,rfl,ex,T.c_Layout,T.na_Layout_others,zcz,r.t,rfl,⟨_,SqL.of L.ht⟩,zeQ (K:=K) (l:=r.t) (xs:=ws.map fun w=>V.int (w.2.1:Nat)) (fun i σ G=>∃ v3 v4 v5,σ=[some (.ref q),some (.ref d),some (zk9 (psh ws c p kvs i).2.2),v3,v4,v5]∧Kx [r.p,d] H G∧G r.p=some (.lst ((psh ws c p kvs i).1.map V.int))∧G d=some (.dK (psh ws c p kvs i).2.1))
   ⟨none,none,none,rfl,Kx.of (zaj.refl _),hp,hd⟩ ?_ ?_ ?_⟩
  ·rintro i σ G _ ⟨_,_,_,rfl,kx,_⟩
   exact SqL.of (lay G kx).ht
  ·rintro i x tt σ G hx nt ⟨v3,v4,v5,rfl,kx,hG,hdG⟩
   have hi:i<ws.length:=by
    have:=(List.getElem?_eq_some_iff.mp hx).1
    rw[List.length_map] at this
    exact this
   have ex':x=.int ((wn ws c).ot i:Nat):=by
    rw[List.getElem?_map,List.getElem?_eq_getElem hi] at hx
    have z:=Option.some.inj hx
    rw[← z]
    show V.int ((ws[i].2.1:Nat):Int)=V.int (((ws.getD i (0,0,0,0)).2.1:Nat):Int)
    rw[List.getD_eq_getElem?_getD,List.getElem?_eq_getElem hi]
    rfl
   subst ex'
   obtain⟨l1,l2⟩:=zeZ ws c p kvs i
   have oi:(wn ws c).ot i<c:=ok.ot i hi
   have s3:zaj G (upd G tt (.tup [.int i,.int ((wn ws c).ot i:Nat)])):=zaj.new nt
   have h3:upd G tt (.tup [.int i,.int ((wn ws c).ot i:Nat)]) tt=some (.tup [.int i,.int ((wn ws c).ot i:Nat)]):=zaa
   generalize upd G tt (.tup [.int i,.int ((wn ws c).ot i:Nat)])=G3 at s3 h3 ⊢
   have kx3:Kx [r.p,d] H G3:=kx.trans (Kx.of s3)
   have hG3:=s3 _ _ hG
   have hd3:=s3 _ _ hdG
   have L3:=lay G3 kx3
   obtain⟨dx3,ex3⟩:=L3.ex
   have st:psh ws c p kvs (i + 1)=if slk (wn ws c) (fn (psh ws c p kvs i).1) i<0 then
     ((psh ws c p kvs i).1.set ((wn ws c).ot i) (fn (psh ws c p kvs i).1 ((wn ws c).ot i) + (0 - slk (wn ws c) (fn (psh ws c p kvs i).1) i)),zbu (psh ws c p kvs i).2.1 (Sum.inl (((wn ws c).ot i:Nat):Int)) (.int (i:Nat)),some ((wn ws c).ot i))
    else psh ws c p kvs i:=rfl
   rw[st]
   generalize psh ws c p kvs i=now at hG3 hd3 l1 l2 st ⊢
   refine⟨tt,_,rfl,SqT.of h3,rfl,_,_,rfl,_,_,rfl,rfl,?_⟩
   refine⟨_,rfl,q,dx3,_,rfl,ex3,by rfl,_,rfl,q,r,ws,c,now.1,i,rfl,L3,hG3,by omega,hi,ok,_,_,rfl,rfl,?_⟩
   refine⟨_,rfl,_,_,rfl,rfl,_,rfl,?_⟩
   refine zcT (fun c1=>?_) (fun c1=>?_)
   ·have c2:slk (wn ws c) (fn now.1) i<0:=by have:=of_decide_eq_true c1;omega
    rw[if_pos c2]
    have oi':(wn ws c).ot i<now.1.length:=by omega
    refine⟨_,rfl,q,a.Layout,dx3,_,_,rfl,ex3,T.c_Layout,T.na_Layout_places,zbS,_,rfl,r.p,_,_,_,rfl,rfl,SqL.of hG3,by omega,zfN oi',_,rfl,_,_,rfl,rfl,r.p,_,_,_,rfl,rfl,hG3,zdr (by omega) (by rw[List.length_map];omega),?_⟩
    rw[Int.toNat_natCast,← List.map_set]
    have kx4:Kx [r.p,d] H (upd G3 r.p (.lst ((now.1.set ((wn ws c).ot i) (fn now.1 ((wn ws c).ot i) + (0 - slk (wn ws c) (fn now.1) i))).map V.int))):=kx3.trans (Kx.upd (by simp))
    have h4:upd G3 r.p (.lst ((now.1.set ((wn ws c).ot i) (fn now.1 ((wn ws c).ot i) + (0 - slk (wn ws c) (fn now.1) i))).map V.int)) r.p=some (.lst ((now.1.set ((wn ws c).ot i) (fn now.1 ((wn ws c).ot i) + (0 - slk (wn ws c) (fn now.1) i))).map V.int)):=zaa
    have h5:upd G3 r.p (.lst ((now.1.set ((wn ws c).ot i) (fn now.1 ((wn ws c).ot i) + (0 - slk (wn ws c) (fn now.1) i))).map V.int)) d=some (.dK now.2.1):=by rw[zag (Ne.symm npd)];exact hd3
    refine⟨_,rfl,_,rfl,_,rfl,d,_,rfl,.inl ⟨now.2.1,Sum.inl (((wn ws c).ot i:Nat):Int),h5,rfl,by rw[sizeLine_eq];omega,rfl⟩,?_⟩
    refine⟨_,rfl,_,_,_,rfl,kx4.trans (Kx.upd (by simp)),?_,zaa⟩
    rw[zag npd]
    exact h4
   ·have c2:¬ slk (wn ws c) (fn now.1) i<0:=by have:=of_decide_eq_false c1;omega
    rw[if_neg c2]
    exact⟨_,_,_,rfl,kx3,hG3,hd3⟩
  ·rintro σ G ⟨v3,v4,v5,rfl,kx,hG,hdG⟩
   rw[List.length_map] at hG hdG ⊢
   exact⟨_,rfl,k G kx hG hdG⟩
end
end K21
namespace K21
open PySem L2
def zhi (kvs:Kvs) (pu:Nat→Option Nat):Prop:=∀ v:Nat,zcP kvs (Sum.inl (v:Int))=(pu v).map fun n=>V.int (n:Nat)
theorem zhi.nil:zhi [] (fun _=>none):=fun _=>rfl
theorem zhi.put {kvs:Kvs}{pu:Nat→Option Nat} (h:zhi kvs pu) (v n:Nat):zhi (zbu kvs (Sum.inl (v:Int)) (.int (n:Nat))) (up pu v (some n)):=fun u=>by
 rw[zgp]
 by_cases c:u=v
 ·subst c
  rw[if_pos rfl,zal]
  rfl
 ·rw[if_neg (fun z=>c (by injection z with z;exact Int.ofNat.inj z)),zaz _ _ c]
  exact h u
theorem zhi.dget {H:Hp}{d:Addr}{kvs:Kvs}{pu:Nat→Option Nat}{v n:Nat} (h:zhi kvs pu) (hd:H d=some (.dK kvs)) (e:pu v=some n):zhg H d (.int (v:Nat)) (some (.int (n:Nat))):=.inl ⟨kvs,Sum.inl (v:Int),.inl hd,rfl,by rw[h v,e];rfl⟩
theorem ziy {ws:List Wt}{c:Nat}{P:List Int}{kvs:Kvs}{t:Nat→Nat}{pu:Nat→Option Nat}{r:Nat} (hc:P.length=c) (ok:(wn ws c).Ok) (hp:zhi kvs pu) (f:Fi (wn ws c) t (fn P) pu) (h:Rd (wn ws c) t (fn P) r 0):∀ k,k≤ws.length →
  ∃ t' pu',zhi (psh ws c P kvs k).2.1 pu'∧Fi (wn ws c) t' (fn (psh ws c P kvs k).1) pu'∧Rd (wn ws c) t' (fn (psh ws c P kvs k).1) r k∧((psh ws c P kvs k).2.2=none→psh ws c P kvs k=(P,kvs,none)∧∀ n,n<k→0≤slk (wn ws c) (fn P) n)∧∀ v,(psh ws c P kvs k).2.2=some v→r≤t' v∧v<c
 | 0,_=>⟨t,pu,hp,f,h,fun _=>⟨rfl,fun n hn=>absurd hn (Nat.not_lt_zero _)⟩,fun v e=>by cases e⟩
 | k + 1,hk=>by
  obtain⟨t',pu',i1,i2,i3,i4,i5⟩:=ziy hc ok hp f h k (by omega)
  have l1:=(zeZ ws c P kvs k).1
  have oi:(wn ws c).ot k<c:=ok.ot k (by show k<ws.length;omega)
  unfold psh
  by_cases s:slk (wn ws c) (fn (psh ws c P kvs k).1) k<0
  ·rw[if_pos s]
   refine⟨up t' ((wn ws c).ot k) r,up pu' ((wn ws c).ot k) (some k),i1.put _ _,?_,?_,fun e=>(by cases e),fun v e=>?_⟩
   ·show Fi _ _ (fn ((psh ws c P kvs k).1.set _ _)) _
    rw[zdu (by omega)]
    exact zk6 i2 i3 (by show k<ws.length;omega) s
   ·show Rd _ _ (fn ((psh ws c P kvs k).1.set _ _)) _ _
    rw[zdu (by omega)]
    exact zk7 i3 s
   ·obtain rfl:(wn ws c).ot k=v:=Option.some.inj e
    rw[zal]
    exact⟨Nat.le_refl _,oi⟩
  ·rw[if_neg s]
   refine⟨t',pu',i1,i2,i3.skip (by omega),fun e=>?_,i5⟩
   obtain⟨e1,e2⟩:=i4 e
   refine⟨e1,fun n hn=>?_⟩
   rcases Nat.lt_or_ge n k with z|z
   ·exact e2 n z
   ·obtain rfl:n=k:=by omega
    rw[e1] at s
    exact Int.not_lt.mp s
def rgL (N:Wn) (pu:Nat→Option Nat) (p:Nat):Nat→List Nat
 | 0=>[]
 | k + 1=>cn pu (itr (bk N pu) k p)::rgL N pu p k
theorem ze0 (N:Wn) (pu:Nat→Option Nat) (p:Nat):∀ k,(rgL N pu p k).length=k
 | 0=>rfl
 | k + 1=>by
  show(rgL N pu p k).length + 1=k + 1
  rw[ze0 N pu p k]
structure zcj (N:Wn) (ring:List Nat):Prop where
 told:∃ P t pu p k,Fi N t P pu∧p<N.c∧(∀ i,(pu (itr (bk N pu) i p)).isSome=true)∧ring=rgL N pu p (k + 1)∧itr (bk N pu) (k + 1) p=p∧∀ s,1≤s→s≤k→itr (bk N pu) s p≠p
theorem ze1 {N:Wn}{pu:Nat→Option Nat}{v:Nat} (h:(pu v).isSome=true):bk N pu v=N.on (cn pu v):=by
 unfold bk
 rw[zbs h]
theorem at0 {x:V}{xs:List V}:atI (x::xs) 0=some x:=by
 rw[show(0:Int)=((0:Nat):Int) from rfl,zch (by omega)]
 rfl
section
variable {P:Program}{w:World}{K:PySem.W.Frag}{mg:Str→Option Value}{base:Heap}{a:Adr}
def spRing (C:Addr):Sp:=fun vs H Q _=>∃ q r ws c p d kvs t pu,∃ v:Nat,vs=[.ref q,.ref d,.int v]∧zcH C H q r ws c∧H r.p=some (.lst ((p:List Int).map V.int))∧p.length=c∧(wn ws c).Ok∧c≤1000∧H d=some (.dK kvs)∧zhi kvs pu∧Fi (wn ws c) t (fn p) pu∧c≤t v∧v<c ∧
 ∀ g ring H',zaj H H'→H' g=some (.lst (zbh ring))→H g=none→zcj (wn ws c) ring→ring.length≤c + 1→Q (.ref g) H'
set_option maxHeartbeats 4000000 in
theorem zlb (T:Tx K mg a):Cal P w K mg base CX0 2 "ring_behind" ["layout","pushers","point"] [] (spRing a.Layout):=T.d_ring_behind.cal fun f fd F=>by
 refine F.ok zbz (fun vs H Q E h=>?_) (fun cdv A outer s H vs Q E hr h=>?_)
 ·obtain⟨q,r,ws,c,p,d,kvs,t,pu,v,rfl,_⟩:=h
  rfl
 ·obtain⟨q,r,ws,c,p,d,kvs,t,pu,v,rfl,L,hp,hc,ok,hc1,hd,hpu,fi,ht,hv,k⟩:=h
  obtain⟨all,dd,dpos,dle,hdd⟩:=zg9 ok fi ht hv
  have dle:dd≤c:=dle
  have num:∀ x,(pu x).isSome=true→cn pu x<ws.length:=fun x e=>(fi.a x _ (zbs e)).1
  obtain⟨dx,ex⟩:=L.ex
  have dg:∀ G,zaj H G→∀ x,(pu x).isSome=true→zhg G d (.int (x:Nat)) (some (.int (cn pu x:Nat))):=fun G sg x e=>hpu.dget (sg _ _ hd) (zbs e)
  have one:∀ G,zaj H G→∀ x,(pu x).isSome=true→SqL K G r.o (ws.map fun w=>V.int (w.1:Nat))∧atI (ws.map fun w=>V.int (w.1:Nat)) ((cn pu x:Nat):Int)=some (.int (bk (wn ws c) pu x:Nat)):=fun G sg x e=>⟨SqL.of (sg _ _ L.ho),by rw[zeY _ (num x e),ze1 e];rfl⟩
  refine⟨_,(zad (zce PassesOwn.never rfl (zaF (zaJ (pv 0) rfl)) (zak (i:=3) zbz.nd rfl (by first|exact Or.inl rfl|exact Or.inr rfl)) (zai (zam (i:=2) zbz.nd rfl (by first|exact Or.inl rfl|exact Or.inr rfl) (zas zav (zaJ (pv 0) rfl) (zbZ (zb1 hr) (pv 1) (pv 2) (fun _ _=>rfl)) (fun _ _=>rfl)))))
   (zad (zam (i:=4) zbz.nd rfl (by first|exact Or.inl rfl|exact Or.inr rfl) (zcg (zab (zbZ (zb1 hr) (pv 1) (pv 2) (fun _ _=>rfl)) zah)))
   (zad (zc0 PassesOwn.never (zaq zeD (zas zav (zaJ (pv 0) rfl) (zas zav (pv 4) zaf (fun _ _=>rfl)) (fun _ _=>rfl)) (pv 2) (zau _)) (zai (zbX (zg0 PySem.F.plainAttrs_list PySem.F.slot_list_insert PySem.F.type_list_insert zfG (pv 4) (zab zaf (zab (zbZ (zb1 hr) (pv 1) (zas zav (zaJ (pv 0) rfl) (zas zav (pv 4) zaf (fun _ _=>rfl)) (fun _ _=>rfl)) (fun _ _=>rfl)) zah))))))
   (zai (zaH (pv 4)))))),?_⟩
  refine⟨_,rfl,q,a.Layout,dx,_,_,rfl,ex,T.c_Layout,T.na_Layout_places,zbS,r.p,rfl,⟨_,SqL.of hp⟩,zc1 (K:=K) (a:=r.p) (xs:=p.map V.int) (fun i σ G=>∃ v3,σ=[some (.ref q),some (.ref d),some (.int (itr (bk (wn ws c) pu) i v:Nat)),v3,none]∧zaj H G)
   ⟨none,rfl,zaj.refl _⟩ ?_ ?_ ?_⟩
  ·rintro i σ G _ ⟨_,rfl,sg⟩
   exact SqL.of (sg _ _ hp)
  ·rintro i x σ G hx ⟨v3,rfl,sg⟩
   have o:=one G sg _ (all i)
   dsimp only[zbl]
   exact⟨_,rfl,q,a.Layout,dx,_,_,rfl,sg _ _ ex,T.c_Layout,T.na_Layout_ones,zdl,_,rfl,_,rfl,d,_,rfl,dg G sg _ (all i),r.o,_,_,_,rfl,rfl,o.1,o.2,_,rfl,sg⟩
  ·rintro σ G ⟨v3,rfl,sg⟩
   rw[List.length_map,hc]
   have al:∀ i,(pu (itr (bk (wn ws c) pu) i (itr (bk (wn ws c) pu) c v))).isSome=true:=fun i=>by rw[← zcV];exact all _
   have hc2:(wn ws c).c=c:=rfl
   rw[hc2] at hdd
   generalize hx0:itr (bk (wn ws c) pu) c v=x0 at al hdd
   have x0c:x0<c:=by
    rw[← hx0]
    cases c with
    | zero=>exact absurd hv (Nat.not_lt_zero _)
    | succ c'=>
     have e:itr (bk (wn ws (c' + 1)) pu) (c' + 1) v=(wn ws (c' + 1)).on (cn pu (itr (bk (wn ws (c' + 1)) pu) c' v)):=ze1 (all c')
     rw[e]
     exact ok.on _ (num _ (all c'))
   refine⟨_,rfl,_,rfl,d,_,rfl,dg G sg _ (al 0),(by show 1≤sizeLine;decide),fun g ng=>?_⟩
   have s1:zaj G (upd G g (.lst [.int (cn pu x0:Nat)])):=zaj.new ng
   have h1:upd G g (.lst [.int (cn pu x0:Nat)]) g=some (.lst [.int (cn pu x0:Nat)]):=zaa
   have ngH:H g=none:=none_of sg ng
   generalize upd G g (.lst [.int (cn pu x0:Nat)])=H1 at s1 h1 ⊢
   refine⟨fun m σ H'=>∃ j,m=dd - (j + 1)∧j<dd∧σ=[some (.ref q),some (.ref d),some (.int (x0:Nat)),v3,some (.ref g)]∧zaj H H'∧H' g=some (.lst (zbh (rgL (wn ws c) pu x0 (j + 1))))∧∀ s,1≤s→s≤j→itr (bk (wn ws c) pu) s x0≠x0,
    ⟨_,0,rfl,dpos,rfl,sg.trans s1,h1,fun s h1 h2=>absurd h1 (by omega)⟩,?_⟩
   rintro m σ H2 ⟨j,rfl,jd,rfl,s2,hg2,ne⟩
   have o:=one H2 s2 _ (al j)
   refine⟨_,rfl,q,a.Layout,dx,_,_,rfl,s2 _ _ ex,T.c_Layout,T.na_Layout_ones,zdl,_,rfl,g,_,_,_,rfl,rfl,SqL.of hg2,at0,r.o,_,_,_,rfl,rfl,o.1,o.2,_,rfl,rfl,_,rfl,?_⟩
   have e1:bk (wn ws c) pu (itr (bk (wn ws c) pu) j x0)=itr (bk (wn ws c) pu) (j + 1) x0:=rfl
   refine zcT (fun c1=>?_) (fun c1=>?_)
   ·have n1:itr (bk (wn ws c) pu) (j + 1) x0≠x0:=fun z=>by
     rw[e1,z,decide_eq_true rfl] at c1
     cases c1
    have jd2:j + 1<dd:=by
     rcases Nat.lt_or_ge (j + 1) dd with z|z
     ·exact z
     ·exact absurd (by rw[show j + 1=dd by omega];exact hdd) n1
    refine⟨_,fun σ' H' h=>h,?_⟩
    have len:=ze0 (wn ws c) pu x0 (j + 1)
    have lz:(zbh (rgL (wn ws c) pu x0 (j + 1))).length=j + 1:=by unfold zbh;rw[List.length_map,len]
    refine⟨_,rfl,.inl ⟨rfl,_,SqL.of hg2⟩,_,rfl,_,rfl,q,a.Layout,dx,_,_,rfl,s2 _ _ ex,T.c_Layout,T.na_Layout_ones,zdl,_,rfl,g,_,_,_,rfl,rfl,SqL.of hg2,at0,r.o,_,_,_,rfl,rfl,o.1,o.2,d,_,rfl,dg H2 s2 _ (al (j + 1)),g,_,0,_,rfl,rfl,hg2,by omega,by omega,?_,?_⟩
    ·rw[lz,sizeLine_eq]
     omega
    ·exact⟨dd - (j + 1 + 1),by omega,j + 1,rfl,jd2,rfl,zap ngH s2,zaa,fun s h1 h2=>by
      rcases Nat.lt_or_ge s (j + 1) with z|z
      ·exact ne s h1 (by omega)
      ·rw[show s=j + 1 by omega]
       exact n1⟩
   ·have e2:itr (bk (wn ws c) pu) (j + 1) x0=x0:=by
     by_cases z:itr (bk (wn ws c) pu) (j + 1) x0=x0
     ·exact z
     ·rw[e1,decide_eq_false (fun y=>z (by injection y with y;exact Int.ofNat.inj y))] at c1
      cases c1
    exact⟨_,rfl,k g _ H2 s2 hg2 ngH ⟨_,t,pu,x0,j,fi,x0c,al,rfl,e2,ne⟩ (by rw[ze0];omega)⟩
end
end K21
namespace K21
open PySem L2
def rdF (ws:List Wt) (c:Nat) (P:List Int):Nat→List Int×Kvs×Option Nat
 | 0=>(P,[],none)
 | j + 1=>psh ws c (rdF ws c P j).1 (rdF ws c P j).2.1 ws.length
def zkb (ws:List Wt) (c:Nat):List Int:=(rdF ws c (List.replicate c 0) c).1
theorem zfO {ws:List Wt}{c:Nat}{P:List Int}{kvs:Kvs} (h:∀ n,n<ws.length→0≤slk (wn ws c) (fn P) n):∀ k,k≤ws.length→psh ws c P kvs k=(P,kvs,none)
 | 0,_=>rfl
 | k + 1,hk=>by
  have ih:=zfO h (kvs:=kvs) k (by omega)
  unfold psh
  rw[ih,if_neg (by have:=h k (by omega);show ¬ slk (wn ws c) (fn P) k<0;omega)]
theorem zgF {ws:List Wt}{c:Nat}{P:List Int}{j:Nat} (h:∀ n,n<ws.length→0≤slk (wn ws c) (fn (rdF ws c P j).1) n):∀ i,(rdF ws c P (j + i)).1=(rdF ws c P j).1
 | 0=>rfl
 | i + 1=>by
  have ih:=zgF h i
  show(psh ws c (rdF ws c P (j + i)).1 (rdF ws c P (j + i)).2.1 ws.length).1=_
  rw[ih,zfO h _ (Nat.le_refl _)]
theorem zgG (ws:List Wt) (c:Nat) (P:List Int):∀ j,(rdF ws c P j).1.length=P.length∧(rdF ws c P j).2.1.length≤j * ws.length
 | 0=>⟨rfl,Nat.zero_le _⟩
 | j + 1=>by
  obtain⟨h1,h2⟩:=zgG ws c P j
  obtain⟨h3,h4⟩:=zeZ ws c (rdF ws c P j).1 (rdF ws c P j).2.1 ws.length
  refine⟨h3.trans h1,Nat.le_trans h4 ?_⟩
  rw[Nat.succ_mul]
  omega
theorem ze2 (c:Nat):fn (List.replicate c 0)=fun _=>0:=by
 funext i
 unfold fn
 rw[List.getD_eq_getElem?_getD,List.getElem?_replicate]
 split <;> rfl
def zlc (ws:List Wt) (c:Nat) (i:Nat):Prop:=∃ t pu,zhi (rdF ws c (List.replicate c 0) i).2.1 pu∧Fi (wn ws c) t (fn (rdF ws c (List.replicate c 0) i).1) pu∧Rd (wn ws c) t (fn (rdF ws c (List.replicate c 0) i).1) (i + 1) 0∧∀ v,(rdF ws c (List.replicate c 0) i).2.2=some v→i≤t v∧v<c
theorem zlc.start (ws:List Wt) (c:Nat):zlc ws c 0:=by
 refine⟨fun _=>0,fun _=>none,zhi.nil,?_,?_,fun v e=>by cases e⟩
 ·show Fi _ _ (fn (List.replicate c 0)) _
  rw[ze2]
  exact Fi.start _
 ·exact Rd.start _ _
theorem zlc.next {ws:List Wt}{c i:Nat} (ok:(wn ws c).Ok) (h:zlc ws c i):zlc ws c (i + 1)∧((rdF ws c (List.replicate c 0) (i + 1)).2.2=none→(rdF ws c (List.replicate c 0) (i + 1)).1=(rdF ws c (List.replicate c 0) i).1∧∀ n,n<ws.length→0≤slk (wn ws c) (fn (rdF ws c (List.replicate c 0) i).1) n):=by
 obtain⟨t,pu,h1,h2,h3,_⟩:=h
 have hl:(rdF ws c (List.replicate c 0) i).1.length=c:=by rw[(zgG ws c _ i).1,List.length_replicate]
 obtain⟨t',pu',i1,i2,i3,i4,i5⟩:=ziy hl ok h1 h2 h3 ws.length (Nat.le_refl _)
 refine⟨⟨t',pu',i1,i2,Rd.next i3,i5⟩,fun e=>?_⟩
 obtain⟨e1,e2⟩:=i4 e
 refine⟨?_,e2⟩
 show(psh ws c (rdF ws c (List.replicate c 0) i).1 (rdF ws c (List.replicate c 0) i).2.1 ws.length).1=_
 rw[e1]
section
variable {P:Program}{w:World}{K:PySem.W.Frag}{mg:Str→Option Value}{base:Heap}{a:Adr}
def zld (C:Addr):Sp:=fun vs H Q _=>∃ x t g ys,vs=[.ref x,.ref g]∧H x=some (zi5 C t x none)∧H g=some (.lst ys)∧∀ l,H l=none→∀ dx,upd H l (.lst ys) dx=none→Q .non (upd (upd (upd H l (.lst ys)) dx (.xd [("ring",.ref l)])) x (zi5 C t x (some dx)))
theorem zle (T:Tx K mg a):zkT P w K mg base CX0 1 a.Ring "Ring" ["self","ring"] (zld a.Ring):=T.xi_Ring.cal fun f fd F=>by
 refine F.ok zdy (fun vs H Q E h=>?_) (fun cdv A outer s H vs Q E hr h=>?_)
 ·obtain⟨x,t,g,ys,rfl,_⟩:=h
  rfl
 ·obtain⟨x,t,g,ys,rfl,hx,hg,k⟩:=h
  refine⟨_,(zai (zkR (pv 0) (zfo zdp rfl T.n_list zdX (zab (pv 1) zah)) rfl)),?_⟩
  exact⟨_,rfl,g,_,rfl,.inl (SqL.of hg),fun l nl=>⟨_,rfl,x,a.Ring,t,rfl,by rw[zag (zac hx nl)];exact hx,T.xs_Ring_ring,fun dx nd=>k l nl dx nd⟩⟩
def spFit (a:Adr):Sp:=fun vs H Q E=>∃ q r ws c,vs=[.ref q]∧zcH a.Layout H q r ws c∧H r.p=some (.lst ((List.replicate c (0:Int)).map V.int))∧(wn ws c).Ok∧ws.length≤200∧c≤200 ∧
 ((∀ n,n<ws.length→0≤slk (wn ws c) (fn (zkb ws c)) n)→(zkb ws c).length=c→∀ H',Kx [r.p] H H'→H' r.p=some (.lst ((zkb ws c).map V.int))→Q .non H') ∧
 ∀ ring l dx H',Kx [r.p] H H'→H' dx=some (.xd [("ring",.ref l)])→H' l=some (.lst (zbh ring))→zcj (wn ws c) ring→ring.length≤c + 1→E (.ref a.Ring) (some dx) H'
set_option maxHeartbeats 4000000 in
theorem ok_fit (T:Tx K mg a):Cal P w K mg base (CXe P w) 3 "fit" ["layout"] [] (spFit a):=T.d_fit.cal fun f fd F=>by
 have c_push_once:=zla (P:=P) (w:=w) (base:=base) T
 have c_ring_behind:=zlb (P:=P) (w:=w) (base:=base) T
 have x_Ring:=zle (P:=P) (w:=w) (base:=base) T
 refine F.okX zet (fun vs H Q E h=>?_) (fun cdv A outer s H vs Q E hr h=>?_)
 ·obtain⟨q,r,ws,c,rfl,_⟩:=h
  rfl
 ·obtain⟨q,r,ws,c,rfl,L,hp,ok,hw,hc,k1,k2⟩:=h
  obtain⟨dx,ex⟩:=L.ex
  refine⟨_,(zad (zam (i:=1) zet.nd rfl (by first|exact Or.inl rfl|exact Or.inr rfl) (zao zaS rfl T.n_len zde (zab (zaJ (pv 0) rfl) zah)))
   (zad (zam (i:=2) zet.nd rfl (by first|exact Or.inl rfl|exact Or.inr rfl) zc7)
   (zad (zam (i:=3) zet.nd rfl (by first|exact Or.inl rfl|exact Or.inr rfl) zfe)
   (zad (zce PassesOwn.leaving rfl (zdJ rfl T.n_range (zab (pv 1) zah)) (zak (i:=4) zet.nd rfl (by first|exact Or.inl rfl|exact Or.inr rfl)) (zad (zam (i:=3) zet.nd rfl (by first|exact Or.inl rfl|exact Or.inr rfl) (zaK c_push_once (hr.mono (by decide)) rfl (zab (pv 0) (zab (pv 2) zah))))
   (zai (zbF (zco (zhq (pv 3))) (zai zku) zaI))))
   (zai (zbF (zco (zcN (pv 3))) (zai (zhY zhP x_Ring (hr.mono (by decide)) rfl (zab (zaK c_ring_behind (hr.mono (by decide)) rfl (zab (pv 0) (zab (pv 2) (zab (pv 3) zah)))) zah))) zaI)))))),?_⟩
  refine⟨_,rfl,q,a.Layout,dx,_,_,rfl,ex,T.c_Layout,T.na_Layout_places,zbS,r.p,_,rfl,.inl (SqL.of hp),fun d nd=>?_⟩
  have lz:((List.replicate c (0:Int)).map V.int).length=c:=by rw[List.length_map,List.length_replicate]
  have npd:r.p≠d:=zac hp nd
  have s1:zaj H (upd H d (.dK [])):=zaj.new nd
  have h1:upd H d (.dK []) d=some (.dK []):=zaa
  generalize upd H d (.dK [])=H1 at s1 h1 ⊢
  have L1:=L.same s1
  have lay:∀ G,Kx [r.p,d] H1 G→zcH a.Layout G q r ws c:=fun G kx=>L1.kx kx fun x hx=>by
   rcases List.mem_cons.mp hx with z|z
   ·exact .inl z
   ·rw[List.mem_singleton.mp z]
    exact .inr (.inr (.inr ⟨[],h1⟩))
  have bac:∀ G,Kx [r.p,d] H1 G→Kx [r.p] H G:=fun G kx b o e z=>kx b o (s1 b o e) fun y=>by
   rcases List.mem_cons.mp y with y|y
   ·exact z (by rw[y];simp)
   ·rw[List.mem_singleton.mp y,nd] at e
    cases e
  rw[lz]
  refine⟨_,rfl,_,rfl,by omega,by omega,zht (lo:=0) (n:=((c:Nat):Int).toNat) (fun i σ G=>∃ v4,σ=[some (.ref q),some (.int (c:Nat)),some (.ref d),some (zk9 (rdF ws c (List.replicate c 0) i).2.2),v4]∧zlc ws c i∧Kx [r.p,d] H1 G∧G r.p=some (.lst ((rdF ws c (List.replicate c 0) i).1.map V.int))∧G d=some (.dK (rdF ws c (List.replicate c 0) i).2.1)∧(0<i→(rdF ws c (List.replicate c 0) i).2.2≠none))
   ⟨none,rfl,zlc.start ws c,Kx.of (zaj.refl _),s1 _ _ hp,h1,fun z=>absurd z (Nat.lt_irrefl _)⟩ ?_ ?_⟩
  ·rintro i σ G hi ⟨v4,rfl,ro,kx,hG,hdG,_⟩
   rw[Int.toNat_natCast] at hi
   obtain⟨l1,l2⟩:=zgG ws c (List.replicate c 0) i
   rw[List.length_replicate] at l1
   have l3:i * ws.length≤200 * 200:=Nat.mul_le_mul (by omega) hw
   dsimp only[zbl]
   refine⟨_,rfl,_,rfl,q,r,ws,c,_,d,_,rfl,lay G kx,hG,l1,ok,by omega,hdG,by omega,fun H2 kx2 h2 hd2=>?_⟩
   obtain⟨ro2,non⟩:=ro.next ok
   have st:psh ws c (rdF ws c (List.replicate c 0) i).1 (rdF ws c (List.replicate c 0) i).2.1 ws.length=rdF ws c (List.replicate c 0) (i + 1):=rfl
   rw[st] at h2 hd2 ⊢
   refine⟨_,rfl,_,rfl,?_⟩
   cases e:(rdF ws c (List.replicate c 0) (i + 1)).2.2 with
   | none=>
    refine zd8 ?_
    obtain⟨e1,e2⟩:=non e
    have still:=zgF e2 (c - i)
    rw[show i + (c - i)=c by omega] at still
    have fp:zkb ws c=(rdF ws c (List.replicate c 0) (i + 1)).1:=still.trans e1.symm
    refine k1 ?_ ?_ H2 (bac _ (kx.trans kx2)) (by rw[fp];exact h2)
    ·rw[fp,e1]
     exact e2
    ·rw[fp,e1]
     exact l1
   | some v=>
    refine zcL ?_
    exact⟨_,rfl,ro2,kx.trans kx2,h2,hd2,fun _ z=>by cases z⟩
  ·rintro σ G ⟨v4,rfl,ro,kx,hG,hdG,ne⟩
   rw[Int.toNat_natCast] at ro hG hdG ne ⊢
   obtain⟨l1,l2⟩:=zgG ws c (List.replicate c 0) c
   rw[List.length_replicate] at l1
   refine⟨_,rfl,_,rfl,?_⟩
   cases e:(rdF ws c (List.replicate c 0) c).2.2 with
   | none=>
    refine zcL ?_
    have c0:c=0:=by
     rcases Nat.eq_zero_or_pos c with z|z
     ·exact z
     ·exact absurd e (ne z)
    refine k1 (fun n hn=>?_) l1 G (bac _ kx) hG
    have z:(wn ws c).on n<c:=ok.on n hn
    omega
   | some v=>
    refine zd8 ?_
    obtain⟨t,pu,r1,r2,r3,r4⟩:=ro
    obtain⟨t1,t2⟩:=r4 v e
    refine⟨_,rfl,_,rfl,_,rfl,q,r,ws,c,_,d,_,t,pu,v,rfl,lay G kx,hG,l1,ok,by omega,hdG,r1,r2,t1,t2,fun g ring H2 s2 hg ng told len=>?_⟩
    refine⟨by show 1≤sizeLine;decide,fun x tk hx=>⟨x,tk,g,zbh ring,rfl,zaa,by rw[zag (zac hg hx)];exact hg,fun l nl d2 nd2=>⟨rfl,some d2,zaa,?_⟩⟩⟩
    have lx:l≠x:=fun z=>by rw[z,zaa] at nl;cases nl
    have dl:d2≠l:=fun z=>by rw[z,zaa] at nd2;cases nd2
    rw[zag dl] at nd2
    have d2x:d2≠x:=fun z=>by rw[z,zaa] at nd2;cases nd2
    rw[zag d2x] at nd2
    rw[zag lx] at nl
    have e:del (upd (upd (upd (upd H2 x (zi5 a.Ring tk x none)) l (.lst (zbh ring))) d2 (.xd [("ring",.ref l)])) x (zi5 a.Ring tk x (some d2))) x=upd (upd H2 l (.lst (zbh ring))) d2 (.xd [("ring",.ref l)]):=by
     funext b
     unfold del
     by_cases h1:b=x
     ·subst h1
      rw[if_pos rfl,zag (Ne.symm d2x),zag (Ne.symm lx),hx]
     ·rw[if_neg h1,zag h1]
      by_cases h2:b=d2
      ·subst h2;rw[zaa,zaa]
      ·rw[zag h2,zag h2]
       by_cases h3:b=l
       ·subst h3;rw[zaa,zaa]
       ·rw[zag h3,zag h1,zag h3]
    show E _ _ _
    rw[e]
    have sl:zaj H2 (upd H2 l (.lst (zbh ring))):=zaj.new nl
    have nd3:upd H2 l (.lst (zbh ring)) d2=none:=by rw[zag dl];exact nd2
    have sd:zaj (upd H2 l (.lst (zbh ring))) (upd (upd H2 l (.lst (zbh ring))) d2 (.xd [("ring",.ref l)])):=zaj.new nd3
    exact k2 ring l d2 _ ((bac _ kx).trans (Kx.of (s2.trans (sl.trans sd)))) zaa (by rw[zag (Ne.symm dl)];exact zaa) told len
end
end K21
namespace K21
open PySem L2
def intOf:Option V→Option Int
 | some (.int i)=>some i
 | _=>none
def gI (kvs:Kvs) (v:Nat):Option Int:=intOf (zcP kvs (Sum.inl (v:Int)))
def Wf (kvs:Kvs):Prop:=∀ p∈kvs,∃ (v:Nat) (i:Int),p=(Sum.inl (v:Int),V.int i)
theorem Wf.val {kvs:Kvs} (h:Wf kvs) (v:Nat):zcP kvs (Sum.inl (v:Int))=(gI kvs v).map V.int:=by
 unfold gI
 cases e:zcP kvs (Sum.inl (v:Int)) with
 | none=>rfl
 | some x=>
  unfold zcP at e
  obtain⟨p,e1,e2⟩:=Option.map_eq_some_iff.mp e
  obtain⟨u,i,e3⟩:=h p (List.mem_of_find?_eq_some e1)
  rw[e3] at e2
  rw[← e2]
  rfl
theorem Wf.put {kvs:Kvs} (h:Wf kvs) (v:Nat) (i:Int):Wf (zbu kvs (Sum.inl (v:Int)) (.int i)):=fun p hp=>by
 unfold zbu at hp
 split at hp
 ·obtain⟨p',h1,h2⟩:=List.mem_map.mp hp
  obtain⟨u,j,rfl⟩:=h p' h1
  split at h2
  ·exact⟨u,i,h2.symm⟩
  ·exact⟨u,j,h2.symm⟩
 ·rcases List.mem_append.mp hp with z|z
  ·exact h p z
  ·exact⟨v,i,List.mem_singleton.mp z⟩
theorem zck (kvs:Kvs) (v:Nat) (i:Int):gI (zbu kvs (Sum.inl (v:Int)) (.int i))=up (gI kvs) v (some i):=by
 funext u
 unfold gI
 rw[zgp]
 by_cases c:u=v
 ·subst c
  rw[if_pos rfl,zal]
  rfl
 ·rw[if_neg (fun z=>c (by injection z with z;exact Int.ofNat.inj z)),zaz _ _ c]
theorem Wf.dget {H:Hp}{d:Addr}{kvs:Kvs}{v:Nat} (h:Wf kvs) (hd:H d=some (.dK kvs)):zhg H d (.int (v:Nat)) ((gI kvs v).map V.int):=.inl ⟨kvs,Sum.inl (v:Int),.inl hd,rfl,(h.val v).symm⟩
def stD (s:Nat×Int):Dt:=.tup [.int s.1,.int s.2]
def sts (ws:List Wt) (c:Nat) (P fl:List Int) (x:Nat):List (Nat×Int):=(goN ws x).map (fun n=>(n,slk (wn ws c) (fn P) n))++((coN ws x).filter fun n=>decide (0<fn fl n)).map fun n=>(n,0)
def near:Option Int→Int→Bool
 | none,_=>true
 | some b,e=>decide (e<b)
def rlx (ws:List Wt) (c:Nat) (far:Kvs) (x:Nat) (a:Int) (s:Kvs×Kvs) (st:Nat×Int):Kvs×Kvs:=
 if (!(gI far (ac (wn ws c) st.1 x)).isSome && near (gI s.1 (ac (wn ws c) st.1 x)) (a + st.2))=true then
  (zbu s.1 (Sum.inl ((ac (wn ws c) st.1 x:Nat):Int)) (.int (a + st.2)),zbu s.2 (Sum.inl ((ac (wn ws c) st.1 x:Nat):Int)) (.int (st.1:Nat))) else s
def zdn (ws:List Wt) (c:Nat) (P fl:List Int) (far:Kvs) (x:Nat) (a:Int) (s:Kvs×Kvs):Kvs×Kvs:=(sts ws c P fl x).foldl (rlx ws c far x a) s
theorem zkc {ws:List Wt}{c:Nat}{far:Kvs}{x:Nat}{a:Int}{s:Kvs×Kvs}{st:Nat×Int} (h:Wf s.1∧Wf s.2):(Wf (rlx ws c far x a s st).1∧Wf (rlx ws c far x a s st).2)∧(rlx ws c far x a s st).1.length≤s.1.length + 1∧(rlx ws c far x a s st).2.length≤s.2.length + 1:=by
 unfold rlx
 split
 ·exact⟨⟨h.1.put _ _,h.2.put _ _⟩,zdm _ _ _,zdm _ _ _⟩
 ·exact⟨h,by omega,by omega⟩
theorem zlf {ws:List Wt}{x n:Nat} (h:n∈goN ws x):n<ws.length:=List.mem_range.mp (List.mem_filter.mp h).1
theorem zlg {ws:List Wt}{x n:Nat} (h:n∈coN ws x):n<ws.length:=List.mem_range.mp (List.mem_filter.mp h).1
theorem sts_lt {ws:List Wt}{c:Nat}{P fl:List Int}{x:Nat}{s:Nat×Int} (h:s∈sts ws c P fl x):s.1<ws.length:=by
 rcases List.mem_append.mp h with z|z
 ·obtain⟨n,hn,rfl⟩:=List.mem_map.mp z
  exact zlf hn
 ·obtain⟨n,hn,rfl⟩:=List.mem_map.mp z
  exact zlg (List.mem_filter.mp hn).1
theorem zkd (ws:List Wt) (x:Nat):(goN ws x).length≤ws.length:=by
 have:=List.length_filter_le (fun n=>decide ((ws.getD n (0,0,0,0)).1=x)) (List.range ws.length)
 rw[List.length_range] at this
 exact this
theorem zke (ws:List Wt) (x:Nat):(coN ws x).length≤ws.length:=by
 have:=List.length_filter_le (fun n=>decide ((ws.getD n (0,0,0,0)).2.1=x)) (List.range ws.length)
 rw[List.length_range] at this
 exact this
theorem ziz {K:PySem.W.Frag}{H:Hp}:∀ {ds:List Dt}{xs:List V}{es:List Dt}{ys:List V},zb4 K H ds xs→zb4 K H es ys→zb4 K H (ds++es) (xs++ys)
 | [],xs,es,ys,h,h'=>by
  have e:xs=[]:=h
  subst e
  exact h'
 | d::ds,xs,es,ys,h,h'=>by
  obtain⟨y,r,e,h1,h2⟩:=h
  subst e
  exact⟨y,r++ys,rfl,h1,ziz h2 h'⟩
theorem zjz {K:PySem.W.Frag}{H:Hp}{x:V}{s:Nat×Int} (h:DtV K H (stD s) x):∃ t,x=.ref t∧SqT K H t [.int s.1,.int s.2]:=by
 obtain⟨t,xs,rfl,h,y1,r1,rfl,e1,y2,r2,rfl,e2,e3⟩:=h
 have z1:y1=.int s.1:=e1
 have z2:y2=.int s.2:=e2
 have z3:r2=[]:=e3
 subst z1 z2 z3
 exact⟨t,rfl,h⟩
theorem zdo {l:List Nat}{j:Nat}{x:V} (h:(zbh l)[j]?=some x):∃ n,l[j]?=some n∧x=.int (n:Nat):=by
 unfold zbh at h
 rw[List.getElem?_map] at h
 cases e:l[j]? with
 | none=>rw[e] at h;cases h
 | some n=>rw[e] at h;exact⟨n,rfl,(Option.some.inj h).symm⟩
section
variable {P:Program}{w:World}{K:PySem.W.Frag}{mg:Str→Option Value}{base:Heap}{a:Adr}
def spLook (C:Addr):Sp:=fun vs H Q _=>∃ q r ws c p fl fA wA cA far wt cm,∃ (x:Nat) (e:Int),vs=[.ref q,.int x,.ref fA,.ref wA,.ref cA]∧zcH C H q r ws c∧H r.p=some (.lst ((p:List Int).map V.int))∧p.length=c∧H r.f=some (.lst ((fl:List Int).map V.int))∧fl.length=ws.length∧(wn ws c).Ok∧ws.length≤200∧x<c ∧
 H fA=some (.dK far)∧Wf far∧gI far x=some e∧H wA=some (.dK wt)∧Wf wt∧wt.length≤1000000∧H cA=some (.dK cm)∧Wf cm∧cm.length≤1000000∧fA≠wA∧fA≠cA∧wA≠cA ∧
 ∀ H',Kx [wA,cA] H H'→H' wA=some (.dK (zdn ws c p fl far x e (wt,cm)).1)→H' cA=some (.dK (zdn ws c p fl far x e (wt,cm)).2)→Q .non H'
set_option maxHeartbeats 4000000 in
theorem zlh (T:Tx K mg a):Cal P w K mg base CX0 2 "look_around" ["layout","point","far","waiting","came_by"] [] (spLook a.Layout):=T.d_look_around.cal fun f fd F=>by
 have m_Layout_slack:=zgE (P:=P) (w:=w) (base:=base) T
 have m_Layout_end_across:=zd4 (P:=P) (w:=w) (base:=base) T
 refine F.ok za3 (fun vs H Q E h=>?_) (fun cdv A outer s H vs Q E hr h=>?_)
 ·obtain⟨q,r,ws,c,p,fl,fA,wA,cA,far,wt,cm,x,e,rfl,_⟩:=h
  rfl
 ·obtain⟨q,r,ws,c,p,fl,fA,wA,cA,far,wt,cm,x,e,rfl,L,hp,hc,hf,hfl,ok,hw,hx,hfA,wff,ge,hwA,wfw,hwl,hcA,wfc,hcl,n1,n2,n3,k⟩:=h
  obtain⟨dx,ex⟩:=L.ex
  obtain⟨gs,g1,g2,g3⟩:=L.hg
  obtain⟨cs,c1,c2,c3⟩:=L.hc
  obtain⟨ga,ega⟩:=zbo (l:=gs) (j:=x) (by omega)
  obtain⟨ca,eca⟩:=zbo (l:=cs) (j:=x) (by omega)
  have hga:=(g3 x ga ega).1
  have hca:=(c3 x ca eca).1
  have atg:atI (gs.map V.ref) (x:Int)=some (.ref ga):=by rw[zch (by omega),Int.toNat_natCast,List.getElem?_map,ega];rfl
  have atc:atI (cs.map V.ref) (x:Int)=some (.ref ca):=by rw[zch (by omega),Int.toNat_natCast,List.getElem?_map,eca];rfl
  have gl:=zkd ws x
  have cl:=zke ws x
  refine⟨_,(zad (zdS (i:=5) za3.nd rfl rfl (N:=["number","layout"]) (cap:=[none,some 0]) rfl (zaT (osc:=zae zaZ) (XN:=["layout","point","far","waiting","came_by","steps","number","slack","neighbour","distance"]) rfl rfl (by decide +kernel)) (zaF (zas zav (zaJ (pv 0) rfl) (pv 1) (fun _ _=>rfl))) (fun cl C s H fp pins=>(zak (i:=0) (show(["number","layout"]:List Str).Nodup by decide +kernel) rfl (by first|exact Or.inl rfl|exact Or.inr rfl))) (fun cl C s H fp pins=>zaW) (fun cl C s H fp pins=>(zfj (zab (pv 0) (zab (zdV (pv 1) T.c_Layout m_Layout_slack (hr.mono (by decide)) (zab (pv 0) zah)) zah)))) (hsw:=rfl))
   (zad (zbX (zg0 PySem.F.plainAttrs_list PySem.F.slot_list_extend PySem.F.type_list_extend zhH (pv 5) (zab (zaN (N:=["number","layout"]) (cap:=[none,some 0]) rfl (zaT (osc:=zae zaZ) (XN:=["layout","point","far","waiting","came_by","steps","number","slack","neighbour","distance"]) rfl rfl (by decide +kernel)) (zaF (zas zav (zaJ (pv 0) rfl) (pv 1) (fun _ _=>rfl))) (fun cl C s H fp pins=>(zak (i:=0) (show(["number","layout"]:List Str).Nodup by decide +kernel) rfl (by first|exact Or.inl rfl|exact Or.inr rfl))) (fun cl C s H fp pins=>zcR (zaq zc4 (zas (zdB (K:=K) rfl) (zga (K:=K) rfl (pv 1) rfl) (pv 0) (fun _ _=>rfl)) zaf (zau _))) (fun cl C s H fp pins=>(zfj (zab (pv 0) (zab zaf zah))))) zah)))
   (zai (zce PassesOwn.never rfl (zaF (pv 5)) (zcZ rfl (zar (zak (i:=6) za3.nd rfl (by first|exact Or.inl rfl|exact Or.inr rfl)) (zar (zak (i:=7) za3.nd rfl (by first|exact Or.inl rfl|exact Or.inr rfl)) zbm))) (zad (zam (i:=8) za3.nd rfl (by first|exact Or.inl rfl|exact Or.inr rfl) (zdV (pv 0) T.c_Layout m_Layout_end_across (hr.mono (by decide)) (zab (pv 6) (zab (pv 1) zah))))
   (zad (zam (i:=9) za3.nd rfl (by first|exact Or.inl rfl|exact Or.inr rfl) (zaC zef (zbZ (zb1 hr) (pv 2) (pv 1) (fun _ _=>rfl)) (pv 7)))
   (zai (zbF (PW.pt (zcp (zco (zft (zb1 hr) (pv 8) (pv 2))) (zbW (PW.pt (zcY (zco (zft (zb1 hr) (pv 8) (pv 3))) (zcJ (zaq zeE (pv 9) (zbZ (zb1 hr) (pv 3) (pv 8) (fun _ _=>rfl)) (zau _)))))))) (zad (zdi (zb1 hr) (pv 3) (pv 8) (pv 9) rfl)
   (zai (zdi (zb1 hr) (pv 4) (pv 8) (pv 6) rfl))) zaI)))))))),?_⟩
  refine⟨_,rfl,q,a.Layout,dx,_,_,rfl,ex,T.c_Layout,T.na_Layout_going,zgD,_,rfl,r.g,_,_,_,rfl,rfl,SqL.of g1,atg,ga,rfl,⟨_,SqL.of hga⟩,fun D hD=>?_⟩
  refine zax (K:=K) (a:=ga) (xs:=zbh (goN ws x)) (fun j τ G=>∃ v1 ys,τ=[v1,some (.ref q)]∧zaj H G∧G D=some (.lst ys)∧zb4 K G ((((goN ws x).take j).map fun n=>(n,slk (wn ws c) (fn p) n)).map stD) ys) ⟨none,[],rfl,zaj.new hD,zaa,rfl⟩ ?_ ?_ ?_
  ·rintro j τ G _ ⟨_,_,rfl,sg,_⟩
   exact SqL.of (sg _ _ hga)
  ·rintro j y τ G hy ⟨v1,ys,rfl,sg,hyD,hds⟩
   obtain⟨n,hn,rfl⟩:=zdo hy
   have nl:=zlf (List.mem_of_getElem? hn)
   have kn:ys.length≤200:=by
    have:=hds.length
    rw[List.length_map,List.length_map,List.length_take] at this
    omega
   dsimp only[zbl,zd7]
   rw[if_pos rfl]
   refine⟨_,rfl,_,rfl,q,dx,_,rfl,sg _ _ ex,by rfl,_,rfl,q,r,ws,c,p,n,rfl,L.same sg,sg _ _ hp,hc,nl,ok,(by show 2≤sizeLine;decide),fun z nz=>?_⟩
   have s5:zaj G (upd G z (.tup [.int (n:Nat),.int (slk (wn ws c) (fn p) n)])):=zaj.new nz
   have h5:upd G z (.tup [.int (n:Nat),.int (slk (wn ws c) (fn p) n)]) z=some (.tup [.int (n:Nat),.int (slk (wn ws c) (fn p) n)]):=zaa
   generalize upd G z (.tup [.int (n:Nat),.int (slk (wn ws c) (fn p) n)])=H5 at s5 h5 ⊢
   refine⟨_,s5 _ _ hyD,by rw[sizeLine_eq];omega,_,_,rfl,zap hD (sg.trans s5),zaa,?_⟩
   rw[zan hn,List.map_append,List.map_append]
   have kp:Tk H5 (upd H5 D (.lst (ys++[.ref z]))):=Tk.upd (s5 _ _ hyD) rfl
   exact zb4.snoc (d:=stD (n,slk (wn ws c) (fn p) n)) (kp.dt rfl ⟨z,_,rfl,SqT.of h5,_,_,rfl,rfl,_,_,rfl,rfl,rfl⟩) (kp.dts (zaD (fun _=>rfl) _) (s5.dts hds))
  rintro τ H1 ⟨v1,ys,rfl,s1,hD1,hds1⟩
  rw[List.take_of_length_le (by unfold zbh;rw[List.length_map];exact Nat.le_refl _)] at hds1
  have ky:ys.length≤200:=by
   have:=hds1.length
   rw[List.length_map,List.length_map] at this
   omega
  have nDH:H D=none:=hD
  refine⟨_,rfl,.inl ⟨rfl,_,SqL.of hD1⟩,_,rfl,q,a.Layout,dx,_,_,rfl,s1 _ _ ex,T.c_Layout,T.na_Layout_coming,zfM,_,rfl,r.c,_,_,_,rfl,rfl,SqL.of (s1 _ _ c1),atc,ca,rfl,⟨_,SqL.of (s1 _ _ hca)⟩,fun Z hZ=>?_⟩
  refine zax (K:=K) (a:=ca) (xs:=zbh (coN ws x)) (fun j τ G=>∃ v1 zs,τ=[v1,some (.ref q)]∧zaj H1 G∧G Z=some (.lst zs)∧zb4 K G (((((coN ws x).take j).filter fun n=>decide (0<fn fl n)).map fun n=>(n,(0:Int))).map stD) zs) ⟨none,[],rfl,zaj.new hZ,zaa,rfl⟩ ?_ ?_ ?_
  ·rintro j τ G _ ⟨_,_,rfl,sg,_⟩
   exact SqL.of (sg _ _ (s1 _ _ hca))
  ·rintro j y τ G hy ⟨v1,zs,rfl,sg,hzZ,hds⟩
   obtain⟨n,hn,rfl⟩:=zdo hy
   have nl:=zlg (List.mem_of_getElem? hn)
   have tg:=s1.trans sg
   have kn:zs.length≤200:=by
    have e1:=hds.length
    have e2:=List.length_filter_le (fun n=>decide (0<fn fl n)) ((coN ws x).take j)
    rw[List.length_map,List.length_map] at e1
    rw[List.length_take] at e2
    omega
   dsimp only[zbl]
   refine⟨_,rfl,q,a.Layout,dx,_,_,rfl,tg _ _ ex,T.c_Layout,T.na_Layout_flow,zd3,_,rfl,r.f,_,_,_,rfl,rfl,SqL.of (tg _ _ hf),zeX (by omega),_,_,rfl,rfl,_,rfl,?_⟩
   refine zcT (fun b1=>?_) (fun b1=>?_)
   ·have b2:decide (0<fn fl n)=true:=decide_eq_true (of_decide_eq_true b1)
    refine⟨_,rfl,(by show 2≤sizeLine;decide),fun z nz=>?_⟩
    have s5:zaj G (upd G z (.tup [.int (n:Nat),.int 0])):=zaj.new nz
    have h5:upd G z (.tup [.int (n:Nat),.int 0]) z=some (.tup [.int (n:Nat),.int 0]):=zaa
    generalize upd G z (.tup [.int (n:Nat),.int 0])=H5 at s5 h5 ⊢
    refine⟨_,s5 _ _ hzZ,by rw[sizeLine_eq];omega,_,_,rfl,zap hZ (sg.trans s5),zaa,?_⟩
    rw[zan hn,List.filter_append,List.filter_cons,if_pos b2,List.filter_nil,List.map_append,List.map_append]
    have kp:Tk H5 (upd H5 Z (.lst (zs++[.ref z]))):=Tk.upd (s5 _ _ hzZ) rfl
    exact zb4.snoc (d:=stD (n,0)) (kp.dt rfl ⟨z,_,rfl,SqT.of h5,_,_,rfl,rfl,_,_,rfl,rfl,rfl⟩) (kp.dts (zaD (fun _=>rfl) _) (s5.dts hds))
   ·have b2:decide (0<fn fl n)=false:=decide_eq_false (of_decide_eq_false b1)
    refine⟨_,zs,rfl,sg,hzZ,?_⟩
    rw[zan hn,List.filter_append,List.filter_cons,if_neg (by rw[b2];decide),List.filter_nil,List.append_nil]
    exact hds
  rintro τ H2 ⟨v2,zs,rfl,s2,hZ2,hds2⟩
  rw[List.take_of_length_le (by unfold zbh;rw[List.length_map];exact Nat.le_refl _)] at hds2
  have kz:zs.length≤200:=by
   have e1:=hds2.length
   have e2:=List.length_filter_le (fun n=>decide (0<fn fl n)) (coN ws x)
   rw[List.length_map,List.length_map] at e1
   omega
  have hD2:=s2 _ _ hD1
  refine⟨D,Z,ys,zs,rfl,rfl,hD2,hZ2,by rw[sizeLine_eq];omega,?_⟩
  have kp3:Tk H2 (upd H2 D (.lst (ys++zs))):=Tk.upd hD2 rfl
  have hds3:zb4 K (upd H2 D (.lst (ys++zs))) ((sts ws c p fl x).map stD) (ys++zs):=by
   unfold sts
   rw[List.map_append]
   exact ziz (kp3.dts (zaD (fun _=>rfl) _) (s2.dts hds1)) (kp3.dts (zaD (fun _=>rfl) _) hds2)
  have s3:zaj H (upd H2 D (.lst (ys++zs))):=zap hD (s1.trans s2)
  have h3:upd H2 D (.lst (ys++zs)) D=some (.lst (ys++zs)):=zaa
  generalize upd H2 D (.lst (ys++zs))=H3 at hds3 s3 h3 ⊢
  clear hds1 hds2 hD1 hD2 hZ2 kp3 s1 s2
  have hfA3:=s3 _ _ hfA
  have hwA3:=s3 _ _ hwA
  have hcA3:=s3 _ _ hcA
  have L3:=L.same s3
  generalize hst:sts ws c p fl x=st at hds3
  have lts:∀ s∈st,s.1<ws.length:=fun s hs=>sts_lt (by rw[hst];exact hs)
  have kst:st.length≤400:=by
   have:=hds3.length
   rw[List.length_map,List.length_append] at this
   omega
  have lay:∀ G,Kx [wA,cA] H3 G→zcH a.Layout G q r ws c:=fun G kx=>L3.kx kx fun y hy=>by
   rcases List.mem_cons.mp hy with z|z
   ·rw[z]
    exact .inr (.inr (.inr ⟨wt,hwA3⟩))
   ·rw[List.mem_singleton.mp z]
    exact .inr (.inr (.inr ⟨cm,hcA3⟩))
  have tkx:∀ G,Kx [wA,cA] H3 G→Tk H3 G:=fun G kx b o e z=>kx b o e fun y=>by
   rcases List.mem_cons.mp y with y|y
   ·rw[y,hwA3] at e
    cases e
    cases z
   ·rw[List.mem_singleton.mp y,hcA3] at e
    cases e
    cases z
  have kD:∀ G,Kx [wA,cA] H3 G→G D=some (.lst (ys++zs)):=fun G kx=>kx _ _ h3 fun y=>by
   rcases List.mem_cons.mp y with y|y
   ·rw[y,hwA3] at h3
    cases h3
   ·rw[List.mem_singleton.mp y,hcA3] at h3
    cases h3
  have kF:∀ G,Kx [wA,cA] H3 G→G fA=some (.dK far):=fun G kx=>kx _ _ hfA3 fun y=>by
   rcases List.mem_cons.mp y with y|y
   ·exact n1 y
   ·exact n2 (List.mem_singleton.mp y)
  refine⟨_,rfl,D,rfl,⟨_,SqL.of h3⟩,zc1 (K:=K) (a:=D) (xs:=ys++zs) (fun i σ G=>∃ v6 v7 v8 v9,σ=[some (.ref q),some (.int (x:Nat)),some (.ref fA),some (.ref wA),some (.ref cA),some (.ref D),v6,v7,v8,v9]∧Kx [wA,cA] H3 G∧G wA=some (.dK ((st.take i).foldl (rlx ws c far x e) (wt,cm)).1)∧G cA=some (.dK ((st.take i).foldl (rlx ws c far x e) (wt,cm)).2)∧(Wf ((st.take i).foldl (rlx ws c far x e) (wt,cm)).1∧Wf ((st.take i).foldl (rlx ws c far x e) (wt,cm)).2)∧((st.take i).foldl (rlx ws c far x e) (wt,cm)).1.length≤1000000 + i∧((st.take i).foldl (rlx ws c far x e) (wt,cm)).2.length≤1000000 + i)
   ⟨none,none,none,none,rfl,Kx.of (zaj.refl _),hwA3,hcA3,⟨wfw,wfc⟩,hwl,hcl⟩ ?_ ?_ ?_⟩
  ·rintro i σ G _ ⟨_,_,_,_,rfl,kx,_⟩
   exact SqL.of (kD G kx)
  ·rintro i y σ G hy ⟨v6,v7,v8,v9,rfl,kx,hwG,hcG,wf,lw,lc⟩
   obtain⟨⟨n,d⟩,hs,ds⟩:=zaR hds3 hy
   have hi:i<st.length:=(List.getElem?_eq_some_iff.mp hs).1
   have nl:=lts _ (List.mem_of_getElem? hs)
   obtain⟨t,rfl,ht⟩:=zjz ((tkx G kx).dt rfl ds)
   have LG:=lay G kx
   obtain⟨dx3,ex3⟩:=LG.ex
   have fo:(st.take (i + 1)).foldl (rlx ws c far x e) (wt,cm)=rlx ws c far x e ((st.take i).foldl (rlx ws c far x e) (wt,cm)) (n,d):=by rw[zan hs,List.foldl_append];rfl
   rw[fo]
   obtain⟨r1,r2,r3⟩:=zkc (ws:=ws) (c:=c) (far:=far) (x:=x) (a:=e) (st:=(n,d)) wf
   generalize (st.take i).foldl (rlx ws c far x e) (wt,cm)=now at hwG hcG wf lw lc r1 r2 r3 ⊢
   refine⟨t,_,rfl,ht,rfl,_,_,rfl,_,_,rfl,rfl,?_⟩
   refine⟨_,rfl,q,dx3,_,rfl,ex3,by rfl,_,rfl,_,rfl,q,r,ws,c,n,x,rfl,LG,nl,?_⟩
   have gf:=wff.dget (v:=x) (kF G kx)
   rw[ge] at gf
   refine⟨_,rfl,_,rfl,fA,_,rfl,gf,_,rfl,_,_,rfl,rfl,?_⟩
   generalize hnb:ac (wn ws c) n x=nb
   have gn:=wff.dget (v:=nb) (kF G kx)
   have gw:=wf.1.dget (v:=nb) hwG
   have rx:rlx ws c far x e now (n,d)=if (!(gI far nb).isSome && near (gI now.1 nb) (e + d))=true then(zbu now.1 (Sum.inl ((nb:Nat):Int)) (.int (e + d)),zbu now.2 (Sum.inl ((nb:Nat):Int)) (.int (n:Nat))) else now:=by rw[← hnb];rfl
   dsimp only[zbl]
   refine⟨_,rfl,_,rfl,fA,_,rfl,gn,_,rfl,?_⟩
   cases ef:gI far nb with
   | some b=>
    rw[ef] at rx
    have rx:rlx ws c far x e now (n,d)=now:=rx
    refine zcL (zcL ⟨_,_,_,_,rfl,kx,?_,?_,r1,by omega,by omega⟩)
    ·rw[rx];exact hwG
    ·rw[rx];exact hcG
   | none=>
    rw[ef] at rx
    refine zd8 ?_
    refine⟨_,rfl,_,rfl,wA,_,rfl,gw,_,rfl,?_⟩
    cases ew:gI now.1 nb with
    | none=>
     rw[ew] at rx
     have rx:rlx ws c far x e now (n,d)=(zbu now.1 (Sum.inl ((nb:Nat):Int)) (.int (e + d)),zbu now.2 (Sum.inl ((nb:Nat):Int)) (.int (n:Nat))):=rx
     refine zd8 (zd8 ?_)
     refine⟨_,rfl,_,rfl,_,rfl,wA,_,rfl,.inl ⟨now.1,Sum.inl ((nb:Nat):Int),hwG,rfl,by rw[sizeLine_eq];omega,rfl⟩,?_⟩
     refine⟨_,rfl,_,rfl,_,rfl,cA,_,rfl,.inl ⟨now.2,Sum.inl ((nb:Nat):Int),by rw[zag (Ne.symm n3)];exact hcG,rfl,by rw[sizeLine_eq];omega,rfl⟩,?_⟩
     refine⟨_,_,_,_,rfl,(kx.trans (Kx.upd (by simp))).trans (Kx.upd (by simp)),?_,?_,r1,by omega,by omega⟩
     ·rw[zag n3,zaa,rx]
     ·rw[zaa,rx]
    | some b=>
     rw[ew] at rx gw
     refine zcL ?_
     refine⟨_,rfl,_,rfl,_,rfl,wA,_,rfl,gw,_,_,rfl,rfl,_,rfl,?_⟩
     refine zcT (fun b1=>?_) (fun b1=>?_)
     ·have b2:decide (e + d<b)=true:=b1
      have rx:rlx ws c far x e now (n,d)=(zbu now.1 (Sum.inl ((nb:Nat):Int)) (.int (e + d)),zbu now.2 (Sum.inl ((nb:Nat):Int)) (.int (n:Nat))):=by
       rw[rx]
       exact if_pos b2
      refine⟨_,rfl,_,rfl,_,rfl,wA,_,rfl,.inl ⟨now.1,Sum.inl ((nb:Nat):Int),hwG,rfl,by rw[sizeLine_eq];omega,rfl⟩,?_⟩
      refine⟨_,rfl,_,rfl,_,rfl,cA,_,rfl,.inl ⟨now.2,Sum.inl ((nb:Nat):Int),by rw[zag (Ne.symm n3)];exact hcG,rfl,by rw[sizeLine_eq];omega,rfl⟩,?_⟩
      refine⟨_,_,_,_,rfl,(kx.trans (Kx.upd (by simp))).trans (Kx.upd (by simp)),?_,?_,r1,by omega,by omega⟩
      ·rw[zag n3,zaa,rx]
      ·rw[zaa,rx]
     ·have b2:decide (e + d<b)=false:=b1
      have rx:rlx ws c far x e now (n,d)=now:=by
       rw[rx]
       exact if_neg (by show ¬ decide (e + d<b)=true;rw[b2];decide)
      refine⟨_,_,_,_,rfl,kx,?_,?_,r1,by omega,by omega⟩
      ·rw[rx];exact hwG
      ·rw[rx];exact hcG
  ·rintro σ G ⟨v6,v7,v8,v9,rfl,kx,hwG,hcG,_⟩
   have hl:(ys++zs).length=st.length:=by rw[← hds3.length,List.length_map]
   rw[hl,List.take_length] at hwG hcG
   refine k G (fun b o q z=>kx b o (s3 b o q) z) ?_ ?_
   ·rw[hwG]
    unfold zdn
    rw[hst]
   ·rw[hcG]
    unfold zdn
    rw[hst]
end
end K21
namespace K21
open PySem L2
def cI (kvs:Kvs) (v:Nat):Option Nat:=(gI kvs v).map Int.toNat
theorem zkf (kvs:Kvs) (v n:Nat):cI (zbu kvs (Sum.inl (v:Int)) (.int (n:Nat)))=up (cI kvs) v (some n):=by
 funext u
 unfold cI
 rw[zck]
 by_cases c:u=v
 ·subst c
  rw[zal,zal]
  rfl
 ·rw[zaz _ _ c,zaz _ _ c]
theorem Arc.to {N:Wn}{P fl:Nat→Int}{q p n:Nat}{d:Int} (A:Arc N P fl q p n d):p=K21.ac N n q:=by
 unfold K21.ac
 obtain⟨_,⟨h1,h2,_⟩|⟨h1,h2,_⟩⟩:=A
 ·by_cases c:N.ot n=q
  ·rw[if_pos c,h1,← c,h2]
  ·rw[if_neg c,h2]
 ·rw[if_pos h1,h2]
theorem zli {ws:List Wt}{c:Nat}{P fl:List Int}{x n:Nat}{d:Int} (h:(n,d)∈sts ws c P fl x):Arc (wn ws c) (fn P) (fn fl) x (ac (wn ws c) n x) n d:=by
 have key:∀ p,Arc (wn ws c) (fn P) (fn fl) x p n d→Arc (wn ws c) (fn P) (fn fl) x (ac (wn ws c) n x) n d:=fun p A=>by
  have e:=A.to
  rw[← e]
  exact A
 rcases List.mem_append.mp h with z|z
 ·obtain⟨n',hn,e⟩:=List.mem_map.mp z
  cases e
  exact key ((wn ws c).ot n) ⟨zlf hn,.inl ⟨of_decide_eq_true (List.mem_filter.mp hn).2,rfl,rfl⟩⟩
 ·obtain⟨n',hn,e⟩:=List.mem_map.mp z
  cases e
  obtain⟨h1,h2⟩:=List.mem_filter.mp hn
  exact key ((wn ws c).on n) ⟨zlg h1,.inr ⟨of_decide_eq_true (List.mem_filter.mp h1).2,rfl,of_decide_eq_true h2,rfl⟩⟩
theorem zlj {ws:List Wt}{c:Nat}{P fl:List Int}{x p n:Nat}{d:Int} (A:Arc (wn ws c) (fn P) (fn fl) x p n d):(n,d)∈sts ws c P fl x:=by
 obtain⟨hn,⟨h1,h2,h3⟩|⟨h1,h2,h3,h4⟩⟩:=A
 ·exact List.mem_append_left _ (List.mem_map.mpr ⟨n,List.mem_filter.mpr ⟨List.mem_range.mpr hn,decide_eq_true h1⟩,by rw[h3]⟩)
 ·exact List.mem_append_right _ (List.mem_map.mpr ⟨n,List.mem_filter.mpr ⟨List.mem_filter.mpr ⟨List.mem_range.mpr hn,decide_eq_true h1⟩,decide_eq_true h3⟩,by rw[h4]⟩)
theorem zlk {ws:List Wt}{c:Nat}{P fl:List Int}{nd:Nat→Int}{far wt cm:Kvs}{rk:Nat→Nat}{size x:Nat}{a:Int} (ok:(wn ws c).Ok) (ti:Ti (wn ws c) (fn P) (fn fl)) (hx:gI far x=some a) (mx:∀ q b,gI far q=some b→b≤a)
  (h:Se (wn ws c) (fn P) (fn fl) nd (gI far) (gI wt) (cI cm) rk size fun q _ _=>q≠x∧gI far q≠none) :
  Se (wn ws c) (fn P) (fn fl) nd (gI far) (gI (zdn ws c P fl far x a (wt,cm)).1) (cI (zdn ws c P fl far x a (wt,cm)).2) rk size fun q _ _=>gI far q≠none:=by
 have gen:∀ j,j≤(sts ws c P fl x).length→Se (wn ws c) (fn P) (fn fl) nd (gI far) (gI (((sts ws c P fl x).take j).foldl (rlx ws c far x a) (wt,cm)).1) (cI (((sts ws c P fl x).take j).foldl (rlx ws c far x a) (wt,cm)).2) rk size fun q n d=>(q≠x∧gI far q≠none)∨(q=x∧(n,d)∈(sts ws c P fl x).take j):=fun j=>by
  induction j with
  | zero=>
   intro _
   refine⟨h.dj,h.lo,h.nn,h.ro,h.cb,h.ck,h.rk,fun q n d p b A L e=>h.ar q n d p b A ?_ e⟩
   rcases L with L|⟨_,L⟩
   ·exact L
   ·cases L
  | succ j ih=>
   intro hj
   have ih:=ih (by omega)
   obtain⟨⟨n,d⟩,hs⟩:∃ s,(sts ws c P fl x)[j]?=some s:=⟨(sts ws c P fl x)[j],List.getElem?_eq_getElem (by omega)⟩
   have A:=zli (List.mem_of_getElem? hs)
   have tk:(sts ws c P fl x).take (j + 1)=(sts ws c P fl x).take j++[(n,d)]:=by rw[List.take_add_one,hs];rfl
   have hl:∀ q n' d',((q≠x∧gI far q≠none)∨(q=x∧(n',d')∈(sts ws c P fl x).take (j + 1)))→((q≠x∧gI far q≠none)∨(q=x∧(n',d')∈(sts ws c P fl x).take j))∨(q=x∧n'=n∧d'=d):=fun q n' d' z=>by
    rcases z with z|⟨z1,z2⟩
    ·exact .inl (.inl z)
    ·rw[tk] at z2
     rcases List.mem_append.mp z2 with y|y
     ·exact .inl (.inr ⟨z1,y⟩)
     ·have e:=List.mem_singleton.mp y
      injection e with e1 e2
      exact .inr ⟨z1,e1,e2⟩
   have ta:∀ p',Arc (wn ws c) (fn P) (fn fl) x p' n d→p'=ac (wn ws c) n x:=fun p' A'=>A'.to
   have fo:((sts ws c P fl x).take (j + 1)).foldl (rlx ws c far x a) (wt,cm)=rlx ws c far x a (((sts ws c P fl x).take j).foldl (rlx ws c far x a) (wt,cm)) (n,d):=by rw[tk,List.foldl_append];rfl
   rw[fo]
   generalize ((sts ws c P fl x).take j).foldl (rlx ws c far x a) (wt,cm)=now at ih ⊢
   unfold rlx
   cases ef:gI far (ac (wn ws c) n x) with
   | some b=>
    have e:(!(gI far (ac (wn ws c) n x)).isSome && near (gI now.1 (ac (wn ws c) n x)) (a + d))=false:=by rw[ef];rfl
    rw[if_neg (by rw[ef] at e;rw[e];decide)]
    exact ih.keep ti hx mx A (.inl ⟨b,ef⟩) hl ta
   | none=>
    cases ew:gI now.1 (ac (wn ws c) n x) with
    | none=>
     rw[if_pos (show(!(none:Option Int).isSome && near none (a + d))=true from rfl),zck,zkf]
     exact ih.near ok ti hx mx A ef (fun b z=>by rw[ew] at z;cases z) hl ta
    | some b=>
     by_cases cc:a + d<b
     ·rw[if_pos (by show(true && decide (a + d<b))=true;rw[decide_eq_true cc];rfl),zck,zkf]
      exact ih.near ok ti hx mx A ef (fun b' z=>by rw[ew] at z;cases z;exact cc) hl ta
     ·rw[if_neg (by show ¬ (true && decide (a + d<b))=true;rw[decide_eq_false cc];decide)]
      exact ih.keep ti hx mx A (.inr ⟨b,ew,by omega⟩) hl ta
 have fin:=gen _ (Nat.le_refl _)
 rw[List.take_length] at fin
 refine⟨fin.dj,fin.lo,fin.nn,fin.ro,fin.cb,fin.ck,fin.rk,fun q n d p b A L e=>fin.ar q n d p b A ?_ e⟩
 by_cases z:q=x
 ·exact .inr ⟨z,by rw[z] at A;exact zlj A⟩
 ·exact .inl ⟨z,L⟩
end K21
namespace K21
open PySem L2
theorem zll {key:V→Int}{xs:List V}{m m':V} (h:zbH key xs m) (h':zbH key xs m'):m=m':=by
 obtain⟨i,e,l,f⟩:=h
 obtain⟨i',e',l',f'⟩:=h'
 rcases Nat.lt_trichotomy i i' with c|c|c
 ·have:=f' i m c e
  have:=l i' m' e'
  omega
 ·subst c
  rw[e] at e'
  exact Option.some.inj e'
 ·have:=f i' m' c e'
  have:=l' i m e
  omega
def kyF (wt:Kvs):V→Int
 | .int i=>(gI wt i.toNat).getD 0
 | _=>0
open Classical in
def mn (wt:Kvs):Nat:=if h:∃ x:Nat,zbH (kyF wt) (L2.zbp wt) (.int (x:Nat)) then Classical.choose h else 0
theorem mn_eq {wt:Kvs}{x:Nat} (h:zbH (kyF wt) (L2.zbp wt) (.int (x:Nat))):mn wt=x:=by
 have e:∃ x:Nat,zbH (kyF wt) (L2.zbp wt) (.int (x:Nat)):=⟨x,h⟩
 unfold mn
 rw[dif_pos e]
 have z:=zll (Classical.choose_spec e) h
 injection z with z
 exact Int.ofNat.inj z
theorem Wf.drop {kvs:Kvs} (h:Wf kvs) (k:Key):Wf (zbY kvs k):=fun p hp=>h p (List.mem_filter.mp hp).1
theorem zjA (kvs:Kvs) (k:Key):(zbY kvs k).length≤kvs.length:=List.length_filter_le _ _
theorem zew (k j:Key):∀ kvs:Kvs,zcP (zbY kvs k) j=if j=k then none else zcP kvs j
 | []=>by split <;> rfl
 | p::r=>by
  have ih:=zew k j r
  unfold zbY at ih ⊢
  by_cases c:p.1=k
  ·rw[List.filter_cons,if_neg (by simp[c]),ih]
   by_cases c2:j=k
   ·rw[if_pos c2,if_pos c2]
   ·rw[if_neg c2,if_neg c2,zaY (fun z=>c2 (by rw[← z,c]))]
  ·rw[List.filter_cons,if_pos (by simp[c])]
   by_cases c3:p.1=j
   ·rw[za5 c3,if_neg (fun z=>c (by rw[c3,z])),za5 c3]
   ·rw[zaY c3,ih,zaY c3]
theorem ziA (kvs:Kvs) (v:Nat):gI (zbY kvs (Sum.inl (v:Int)))=up (gI kvs) v none:=by
 funext u
 unfold gI
 rw[zew]
 by_cases c:u=v
 ·subst c
  rw[if_pos rfl,zal]
  rfl
 ·rw[if_neg (fun z=>c (by injection z with z;exact Int.ofNat.inj z)),zaz _ _ c]
theorem Wf.has {kvs:Kvs} (h:Wf kvs){p:Key×V} (hp:p∈kvs):∃ v i,p.1=Sum.inl ((v:Nat):Int)∧gI kvs v=some i:=by
 obtain⟨v,i,rfl⟩:=h p hp
 have z:(zcP kvs (Sum.inl (v:Int))).isSome=true:=by
  rw[← zc6]
  exact List.any_eq_true.mpr ⟨_,hp,decide_eq_true rfl⟩
 rw[h.val v] at z
 obtain⟨y,e⟩:=Option.isSome_iff_exists.mp z
 cases g:gI kvs v with
 | none=>rw[g] at e;cases e
 | some j=>exact⟨v,j,rfl,g⟩
theorem Wf.mem {kvs:Kvs}{v:Nat}{i:Int} (g:gI kvs v=some i):V.int (v:Nat)∈L2.zbp kvs:=by
 unfold gI at g
 cases e:zcP kvs (Sum.inl (v:Int)) with
 | none=>rw[e] at g;cases g
 | some x=>
  unfold zcP at e
  obtain⟨p,e1,e2⟩:=Option.map_eq_some_iff.mp e
  have m:=List.mem_of_find?_eq_some e1
  have c:=List.find?_some e1
  unfold L2.zbp
  refine List.mem_map.mpr ⟨p,m,?_⟩
  rw[show p.1=Sum.inl (v:Int) from of_decide_eq_true c]
  rfl
theorem Wf.least {kvs:Kvs} (h:Wf kvs){m:V} (f:zbH (kyF kvs) (L2.zbp kvs) m):m=.int (mn kvs:Nat)∧∃ a,gI kvs (mn kvs)=some a∧∀ q b,gI kvs q=some b→a≤b:=by
 obtain⟨i,e,l,fl⟩:=id f
 have mm:=List.mem_of_getElem? e
 unfold L2.zbp at mm
 obtain⟨p,hp,rfl⟩:=List.mem_map.mp mm
 obtain⟨v,a,e1,e2⟩:=h.has hp
 rw[e1] at f l ⊢
 have f:zbH (kyF kvs) (L2.zbp kvs) (.int (v:Nat)):=f
 have z:=mn_eq f
 rw[z]
 refine⟨rfl,a,e2,fun q b g=>?_⟩
 obtain⟨j,hj⟩:=List.mem_iff_getElem?.mp (Wf.mem g)
 have y:=l j _ hj
 have y1:kyF kvs (kV (Sum.inl ((v:Nat):Int)))=a:=by
  show(gI kvs ((v:Nat):Int).toNat).getD 0=a
  rw[Int.toNat_natCast,e2]
  rfl
 have y2:kyF kvs (V.int (q:Nat))=b:=by
  show(gI kvs ((q:Nat):Int).toNat).getD 0=b
  rw[Int.toNat_natCast,g]
  rfl
 rw[y1,y2] at y
 exact y
def left (far:Nat→Option Int) (c:Nat):Nat:=(sm (fun v=>if (far v).isSome=true then 0 else 1) c).toNat
theorem ziB {far:Nat→Option Int}{c x:Nat}{a:Int} (hx:x<c) (h:far x=none):left (up far x (some a)) c<left far c:=by
 have e:sm (fun v=>if (far v).isSome=true then 0 else 1) c=sm (fun v=>(if (up far x (some a) v).isSome=true then 0 else 1) + (if v=x then 1 else 0)) c:=zaA c fun v _=>by
  by_cases z:v=x
  ·subst z
   rw[h,zal,if_pos (show v=v from rfl)]
   rfl
  ·rw[zaz _ _ z,if_neg z]
   omega
 rw[zeu,zev,if_pos hx] at e
 have nn:=zcy (f:=fun v=>if (up far x (some a) v).isSome=true then 0 else 1) c fun v _=>by
  show(0:Int)≤if (up far x (some a) v).isSome=true then 0 else 1
  split <;> decide
 unfold left
 omega
end K21
namespace K21
open PySem L2
def w0 (nd:List Int):Nat→Kvs
 | 0=>[]
 | k + 1=>if fn nd k<0 then zbu (w0 nd k) (Sum.inl ((k:Nat):Int)) (.int 0) else w0 nd k
theorem zlm (nd:List Int):∀ k,Wf (w0 nd k)∧(w0 nd k).length≤k∧∀ p,gI (w0 nd k) p=if p<k∧fn nd p<0 then some 0 else none
 | 0=>⟨(fun p hp=>by cases hp),Nat.le_refl _,fun p=>by rw[if_neg (fun z=>absurd z.1 (Nat.not_lt_zero _))];rfl⟩
 | k + 1=>by
  obtain⟨h1,h2,h3⟩:=zlm nd k
  unfold w0
  by_cases c:fn nd k<0
  ·rw[if_pos c]
   refine⟨h1.put _ _,Nat.le_trans (zdm _ _ _) (by omega),fun p=>?_⟩
   rw[zck]
   by_cases z:p=k
   ·subst z
    rw[zal,if_pos ⟨Nat.lt_succ_self _,c⟩]
   ·rw[zaz _ _ z,h3]
    by_cases y:p<k∧fn nd p<0
    ·rw[if_pos y,if_pos ⟨by omega,y.2⟩]
    ·rw[if_neg y,if_neg (fun q=>y ⟨by omega,q.2⟩)]
  ·rw[if_neg c]
   refine⟨h1,by omega,fun p=>?_⟩
   rw[h3]
   by_cases z:p=k
   ·subst z
    rw[if_neg (fun q=>c q.2),if_neg (fun q=>c q.2)]
   ·by_cases y:p<k∧fn nd p<0
    ·rw[if_pos y,if_pos ⟨by omega,y.2⟩]
    ·rw[if_neg y,if_neg (fun q=>y ⟨by omega,q.2⟩)]
theorem zln (ws:List Wt) (c:Nat) (P fl:List Int) (x:Nat):(sts ws c P fl x).length≤2 * ws.length:=by
 unfold sts
 rw[List.length_append,List.length_map,List.length_map]
 have h1:=zkd ws x
 have h2:=zke ws x
 have h3:=List.length_filter_le (fun n=>decide (0<fn fl n)) (coN ws x)
 omega
theorem ziC {ws:List Wt}{c:Nat}{far:Kvs}{x:Nat}{a:Int}:∀ (st:List (Nat×Int)){s:Kvs×Kvs},Wf s.1∧Wf s.2→(Wf (st.foldl (rlx ws c far x a) s).1∧Wf (st.foldl (rlx ws c far x a) s).2)∧(st.foldl (rlx ws c far x a) s).1.length≤s.1.length + st.length∧(st.foldl (rlx ws c far x a) s).2.length≤s.2.length + st.length
 | [],s,h=>⟨h,Nat.le_refl _,Nat.le_refl _⟩
 | t::st,s,h=>by
  obtain⟨r1,r2,r3⟩:=zkc (ws:=ws) (c:=c) (far:=far) (x:=x) (a:=a) (st:=t) h
  obtain⟨f1,f2,f3⟩:=ziC (ws:=ws) (c:=c) (far:=far) (x:=x) (a:=a) st r1
  refine⟨f1,?_,?_⟩
  ·show(st.foldl _ (rlx ws c far x a s t)).1.length≤_
   rw[List.length_cons]
   omega
  ·show(st.foldl _ (rlx ws c far x a s t)).2.length≤_
   rw[List.length_cons]
   omega
theorem zlo {ws:List Wt}{c:Nat}{P fl:List Int}{far:Kvs}{x:Nat}{a:Int}{s:Kvs×Kvs} (h:Wf s.1∧Wf s.2):(Wf (zdn ws c P fl far x a s).1∧Wf (zdn ws c P fl far x a s).2)∧(zdn ws c P fl far x a s).1.length≤s.1.length + 2 * ws.length∧(zdn ws c P fl far x a s).2.length≤s.2.length + 2 * ws.length:=by
 obtain⟨f1,f2,f3⟩:=ziC (ws:=ws) (c:=c) (far:=far) (x:=x) (a:=a) (sts ws c P fl x) h
 have:=zln ws c P fl x
 exact⟨f1,Nat.le_trans f2 (by omega),Nat.le_trans f3 (by omega)⟩
abbrev Sst:=Kvs×Kvs×Kvs
def tkF (s:Sst):Kvs:=zbu s.1 (Sum.inl ((mn s.2.1:Nat):Int)) (.int ((gI s.2.1 (mn s.2.1)).getD 0))
def zbI (ws:List Wt) (c:Nat) (P fl:List Int) (s:Sst):Sst:=(tkF s,zdn ws c P fl (tkF s) (mn s.2.1) ((gI s.2.1 (mn s.2.1)).getD 0) (zbY s.2.1 (Sum.inl ((mn s.2.1:Nat):Int)),s.2.2))
theorem ziD (far:Nat→Option Int):∀ c,left far c≤c∧0≤sm (fun v=>if (far v).isSome=true then 0 else 1) c
 | 0=>⟨Nat.le_refl _,Int.le_refl _⟩
 | c + 1=>by
  obtain⟨h1,h2⟩:=ziD far c
  unfold left at h1 ⊢
  have e:sm (fun v=>if (far v).isSome=true then 0 else 1) (c + 1)=sm (fun v=>if (far v).isSome=true then 0 else 1) c + (if (far c).isSome=true then 0 else 1):=rfl
  rw[e]
  by_cases z:(far c).isSome=true
  ·rw[if_pos z]
   omega
  ·rw[if_neg z]
   omega
end K21
namespace K21
open PySem L2
structure zlU (ws:List Wt) (c:Nat) (P fl nd:List Int) (k x:Nat) (far cm:Kvs):Prop where
 at_:x=mn (itr (zbI ws c P fl) k ([],w0 nd c,[])).2.1
 far:far=tkF (itr (zbI ws c P fl) k ([],w0 nd c,[]))
 cm:cm=(itr (zbI ws c P fl) k ([],w0 nd c,[])).2.2
 pos:0<fn nd x
 no:∀ j,j<k→¬ 0<fn nd (mn (itr (zbI ws c P fl) j ([],w0 nd c,[])).2.1)
theorem Se.less {N:Wn}{P fl nd:Nat→Int}{far wt:Nat→Option Int}{cm:Nat→Option Nat}{rk:Nat→Nat}{size:Nat}{Lk Lk':Nat→Nat→Int→Prop} (h:Se N P fl nd far wt cm rk size Lk) (hl:∀ q n d,Lk' q n d→Lk q n d):Se N P fl nd far wt cm rk size Lk':=
 ⟨h.dj,h.lo,h.nn,h.ro,h.cb,h.ck,h.rk,fun q n d p b A L e=>h.ar q n d p b A (hl q n d L) e⟩
section
variable {P:Program}{w:World}{K:PySem.W.Frag}{mg:Str→Option Value}{base:Heap}{a:Adr}
def zjB (t:Adr):Sp:=fun vs H Q _=>∃ q r ws c p fl nd fA cA wgt,∃ k0:Nat,vs=[.ref q,.ref fA,.ref cA]∧zcH t.Layout H q r ws c∧H r.p=some (.lst ((p:List Int).map V.int))∧p.length=c∧H r.f=some (.lst ((fl:List Int).map V.int))∧fl.length=ws.length∧H r.n=some (.lst ((nd:List Int).map V.int))∧nd.length=c∧(wn ws c).Ok∧ws.length≤200∧c≤200 ∧
 H fA=some (.dK [])∧H cA=some (.dK [])∧fA≠cA∧Ti (wn ws c) (fn p) (fn fl)∧(∀ n,n<ws.length→0≤wgt n)∧(∀ v,v<c→fn nd v=bal (wn ws c) wgt v - bal (wn ws c) (fn fl) v)∧k0<c∧0<fn nd k0 ∧
 H t.tb_search=some (.tbl zb7 zb8) ∧
 ∀ k x far cm H',Kx [fA,cA] H H'→zlU ws c p fl nd k x far cm→H' fA=some (.dK far)→H' cA=some (.dK cm)→Wf far→Wf cm→far.length≤1000000→cm.length≤1000000 →
  (∃ wt rk size D,size≤1000∧Se (wn ws c) (fn p) (fn fl) (fn nd) (gI far) wt (cI cm) rk size (fun q _ _=>q≠x∧gI far q≠none)∧gI far x=some D∧(∀ q b,gI far q=some b→b≤D)∧∀ q b,wt q=some b→D≤b)→Q (.int (x:Nat)) H'
set_option maxHeartbeats 4000000 in
theorem ziE (T:Tx K mg a):Cal P w K mg base CX0 4 "search" ["layout","far","came_by"] [] (zjB a):=T.d_search.calL T.lam_search fun f fd F LM=>by
 have c_look_around:=zlh (P:=P) (w:=w) (base:=base) T
 refine F.okL LM zcx (fun vs H Q E h=>?_) (fun cc A outer s H vs Q E hc hr h=>?_)
 ·obtain⟨q,r,ws,c,p,fl,nd,fA,cA,wgt,k0,rfl,_⟩:=h
  rfl
 ·obtain⟨q,r,ws,c,p,fl,nd,fA,cA,wgt,k0,rfl,L,hp,hpc,hf,hfl,hn,hnc,ok,hw,hc2,hfA,hcA,nfc,ti,hwg,hnd,hk0,pos0,htb,k⟩:=h
  obtain⟨dx,ex⟩:=L.ex
  refine⟨_,(zad (zam (i:=3) zcx.nd rfl (by first|exact Or.inl rfl|exact Or.inr rfl) zc7)
   (zad (zce PassesOwn.never rfl (zcv rfl T.n_enumerate (zab (zaJ (pv 0) rfl) zah)) (zcZ rfl (zar (zak (i:=4) zcx.nd rfl (by first|exact Or.inl rfl|exact Or.inr rfl)) (zar (zak (i:=5) zcx.nd rfl (by first|exact Or.inl rfl|exact Or.inr rfl)) zbm))) (zai (zbF (zaq zeE (pv 5) zaf (zau _)) (zai (zdi (zb1 hr) (pv 3) (pv 4) zaf rfl)) zaI)))
   (zai (zc0 PassesOwn.never (zbT zdv) (zad (zam (i:=4) zcx.nd rfl (by first|exact Or.inl rfl|exact Or.inr rfl) (zk4 (N:=["candidate","waiting"]) (cap:=[none,some 3]) rfl T.n_min hr (zab (pv 3) zah) rfl hc (zaT (osc:=zae zcE) (XN:=["layout","far","came_by","waiting","point","need"]) rfl rfl (by decide +kernel)) (fun f c' s H=>(zbZ (zb1 (zb9.deeper (k:=0) (zb9.in1 (hr.mono (by decide))) _)) (pv 1) (pv 0) (fun _ _=>rfl)))))
   (zad (zdi (zb1 hr) (pv 1) (pv 4) (zjh (pv 3) (pv 4) ⟨rfl,rfl,rfl,rfl⟩) rfl)
   (zad (zbF (zaq zc4 (zas zav (zaJ (pv 0) rfl) (pv 4) (fun _ _=>rfl)) zaf (zau _)) (zai (zaH (pv 4))) zaI)
   (zai (zbX (zaK c_look_around (hr.mono (by decide)) rfl (zab (pv 0) (zab (pv 4) (zab (pv 1) (zab (pv 3) (zab (pv 2) zah))))))))))))))),?_⟩
  refine fun wA nwA=>?_
  have nfw:fA≠wA:=zac hfA nwA
  have ncw:cA≠wA:=zac hcA nwA
  have s1:zaj H (upd H wA (.dK [])):=zaj.new nwA
  have h1:upd H wA (.dK []) wA=some (.dK []):=zaa
  generalize upd H wA (.dK [])=H1 at s1 h1 ⊢
  have dcs:∀ y∈[fA,cA,wA],Dc H1 y:=fun y hy=>by
   simp only[List.mem_cons,List.not_mem_nil,or_false] at hy
   rcases hy with z|z|z <;> rw[z]
   ·exact⟨_,s1 _ _ hfA⟩
   ·exact⟨_,s1 _ _ hcA⟩
   ·exact⟨_,h1⟩
  have lay:∀ G,Kx [fA,cA,wA] H1 G→zcH a.Layout G q r ws c:=fun G kx=>(L.same s1).kx kx fun y hy=>.inr (.inr (.inr (dcs y hy)))
  have keep:∀ G,Kx [fA,cA,wA] H1 G→∀ b o,H1 b=some o→(∀ kvs,o≠.dK kvs)→G b=some o:=fun G kx b o e z=>kx b o e fun y=>by
   obtain⟨kvs,q⟩:=dcs b y
   rw[e] at q
   cases q
   exact z _ rfl
  refine⟨_,rfl,q,a.Layout,dx,_,_,rfl,s1 _ _ ex,T.c_Layout,T.na_Layout_needs,zcd,r.n,rfl,⟨_,SqL.of (s1 _ _ hn)⟩,zeQ (K:=K) (l:=r.n) (xs:=nd.map V.int) (fun i σ G=>∃ v4 v5,σ=[some (.ref q),some (.ref fA),some (.ref cA),some (.ref wA),v4,v5]∧Kx [wA] H1 G∧G wA=some (.dK (w0 nd i)))
   ⟨none,none,rfl,Kx.of (zaj.refl _),h1⟩ ?_ ?_ ?_⟩
  ·rintro i σ G _ ⟨_,_,rfl,kx,_⟩
   exact SqL.of (keep G (kx.mono (by simp)) _ _ (s1 _ _ hn) (fun _ z=>by cases z))
  ·rintro i y tt σ G hy nt ⟨v4,v5,rfl,kx,hG⟩
   have hi:i<nd.length:=by
    have:=(List.getElem?_eq_some_iff.mp hy).1
    rw[List.length_map] at this
    exact this
   have ey:y=.int (fn nd i):=by
    rw[List.getElem?_map,List.getElem?_eq_getElem hi] at hy
    rw[← Option.some.inj hy]
    unfold fn
    rw[List.getD_eq_getElem?_getD,List.getElem?_eq_getElem hi]
    rfl
   subst ey
   have s3:zaj G (upd G tt (.tup [.int i,.int (fn nd i)])):=zaj.new nt
   have h3:upd G tt (.tup [.int i,.int (fn nd i)]) tt=some (.tup [.int i,.int (fn nd i)]):=zaa
   generalize upd G tt (.tup [.int i,.int (fn nd i)])=G3 at s3 h3 ⊢
   have st:w0 nd (i + 1)=if fn nd i<0 then zbu (w0 nd i) (Sum.inl ((i:Nat):Int)) (.int 0) else w0 nd i:=rfl
   have wl:=(zlm nd i).2.1
   refine⟨tt,_,rfl,SqT.of h3,rfl,_,_,rfl,_,_,rfl,rfl,?_⟩
   refine⟨_,rfl,_,_,rfl,rfl,_,rfl,?_⟩
   refine zcT (fun c1=>?_) (fun c1=>?_)
   ·rw[st,if_pos (of_decide_eq_true c1)]
    exact⟨_,rfl,_,rfl,wA,_,rfl,.inl ⟨w0 nd i,Sum.inl ((i:Nat):Int),s3 _ _ hG,rfl,by rw[sizeLine_eq];omega,rfl⟩,_,_,rfl,(kx.trans (Kx.of s3)).trans (Kx.upd (by simp)),zaa⟩
   ·rw[st,if_neg (of_decide_eq_false c1)]
    exact⟨_,_,rfl,kx.trans (Kx.of s3),s3 _ _ hG⟩
  ·rintro σ G0 ⟨v4,v5,rfl,kx0,hG0⟩
   rw[List.length_map,hnc] at hG0
   have kx0':Kx [fA,cA,wA] H1 G0:=kx0.mono (by simp)
   have hfA0:G0 fA=some (.dK []):=kx0 _ _ (s1 _ _ hfA) (by simp[nfw])
   have hcA0:G0 cA=some (.dK []):=kx0 _ _ (s1 _ _ hcA) (by simp[ncw])
   obtain⟨w1,w2,w3⟩:=zlm nd c
   have bac:∀ G,Kx [fA,cA,wA] H1 G→Kx [fA,cA] H G:=fun G kx b o e z=>kx b o (s1 b o e) fun y=>by
    simp only[List.mem_cons,List.not_mem_nil,or_false] at y z
    rcases y with y|y|y
    ·exact z (.inl y)
    ·exact z (.inr y)
    ·rw[y,nwA] at e
     cases e
   have wfn:Wf ([]:Kvs):=fun p hp=>by cases hp
   refine⟨fun m σ G=>∃ j v4 v5 rk,σ=[some (.ref q),some (.ref fA),some (.ref cA),some (.ref wA),v4,v5]∧Kx [fA,cA,wA] H1 G∧m=left (gI (itr (zbI ws c p fl) j ([],w0 nd c,[])).1) c∧j + left (gI (itr (zbI ws c p fl) j ([],w0 nd c,[])).1) c≤c ∧
     G fA=some (.dK (itr (zbI ws c p fl) j ([],w0 nd c,[])).1)∧G wA=some (.dK (itr (zbI ws c p fl) j ([],w0 nd c,[])).2.1)∧G cA=some (.dK (itr (zbI ws c p fl) j ([],w0 nd c,[])).2.2)∧(Wf (itr (zbI ws c p fl) j ([],w0 nd c,[])).1∧Wf (itr (zbI ws c p fl) j ([],w0 nd c,[])).2.1∧Wf (itr (zbI ws c p fl) j ([],w0 nd c,[])).2.2) ∧
     ((itr (zbI ws c p fl) j ([],w0 nd c,[])).1.length≤j∧(itr (zbI ws c p fl) j ([],w0 nd c,[])).2.1.length≤c + 400 * j∧(itr (zbI ws c p fl) j ([],w0 nd c,[])).2.2.length≤400 * j) ∧
     Se (wn ws c) (fn p) (fn fl) (fn nd) (gI (itr (zbI ws c p fl) j ([],w0 nd c,[])).1) (gI (itr (zbI ws c p fl) j ([],w0 nd c,[])).2.1) (cI (itr (zbI ws c p fl) j ([],w0 nd c,[])).2.2) rk j (fun q _ _=>gI (itr (zbI ws c p fl) j ([],w0 nd c,[])).1 q≠none) ∧
     (∀ v b,gI (itr (zbI ws c p fl) j ([],w0 nd c,[])).1 v=some b→fn nd v≤0)∧∀ i,i<j→¬ 0<fn nd (mn (itr (zbI ws c p fl) i ([],w0 nd c,[])).2.1),
    ⟨_,0,v4,v5,fun _=>0,rfl,kx0',rfl,?_,hfA0,hG0,hcA0,⟨wfn,w1,wfn⟩,⟨Nat.le_refl _,Nat.le_trans w2 (Nat.le_add_right _ _),Nat.le_refl _⟩,?_,fun v b z=>(by cases z),fun i z=>absurd z (Nat.not_lt_zero _)⟩,?_⟩
   ·have:=(ziD (gI ([]:Kvs)) c).1
    show 0 + left (gI ([]:Kvs)) c≤c
    omega
   ·exact Se.start (N:=wn ws c) (nd:=fn nd) w3 _ _
   rintro m σ G ⟨j,v4,v5,rk,rfl,kx,rfl,hj,gf,gw,gc,⟨wf1,wf2,wf3⟩,⟨l1,l2,l3⟩,se,np,no⟩
   have sj:itr (zbI ws c p fl) (j + 1) ([],w0 nd c,[])=zbI ws c p fl (itr (zbI ws c p fl) j ([],w0 nd c,[])):=rfl
   have hS:zlU ws c p fl nd j (mn (itr (zbI ws c p fl) j ([],w0 nd c,[])).2.1) (tkF (itr (zbI ws c p fl) j ([],w0 nd c,[]))) (itr (zbI ws c p fl) j ([],w0 nd c,[])).2.2∨¬ 0<fn nd (mn (itr (zbI ws c p fl) j ([],w0 nd c,[])).2.1):=by
    by_cases z:0<fn nd (mn (itr (zbI ws c p fl) j ([],w0 nd c,[])).2.1)
    ·exact .inl ⟨rfl,rfl,rfl,z,no⟩
    ·exact .inr z
   have no':¬ 0<fn nd (mn (itr (zbI ws c p fl) j ([],w0 nd c,[])).2.1)→∀ i,i<j + 1→¬ 0<fn nd (mn (itr (zbI ws c p fl) i ([],w0 nd c,[])).2.1):=fun z i hi=>by
    rcases Nat.lt_or_ge i j with y|y
    ·exact no i y
    ·rw[show i=j by omega]
     exact z
   obtain⟨v0,b0,e0⟩:=se.more ok hwg hnd ti np hk0 pos0
   refine⟨_,rfl,zd8 ⟨_,fun σ' H' h=>h,?_⟩⟩
   simp only[sj]
   generalize itr (zbI ws c p fl) j ([],w0 nd c,[])=S at *
   obtain⟨far,wt,cm⟩:=S
   dsimp only at *
   have wpos:0<wt.length:=by
    cases wt with
    | nil=>cases e0
    | cons _ _=>exact Nat.succ_pos _
   refine⟨_,rfl,wA,wt,kyF wt,rfl,gw,wpos,keep G kx _ _ (s1 _ _ htb) (fun _ z=>by cases z),fun y hy o H2 sm2=>?_,fun m H2 sm fm=>?_⟩
   ·unfold L2.zbp at hy
    obtain⟨pp,hpp,rfl⟩:=List.mem_map.mp hy
    obtain⟨v,i,e1,e2⟩:=wf2.has hpp
    rw[e1]
    refine⟨_,rfl,_,rfl,wA,.int i,rfl,.inl ⟨wt,Sum.inl (v:Int),.inr ⟨o,sm2 _ _ zaa⟩,rfl,by rw[wf2.val v,e2];rfl⟩,?_,zaj.refl _⟩
    show V.int i=V.int ((gI wt ((v:Nat):Int).toNat).getD 0)
    rw[Int.toNat_natCast,e2]
    rfl
   obtain⟨rfl,a0,ga,mle⟩:=wf2.least fm
   obtain⟨se1,mx,fx⟩:=se.pop ga mle
   have xc:=(se.nn _ _ (.inr ga)).2
   have tk:tkF (far,wt,cm)=zbu far (Sum.inl ((mn wt:Nat):Int)) (.int a0):=by
    show zbu far _ (.int ((gI wt (mn wt)).getD 0))=_
    rw[ga]
    rfl
   have tn:zbI ws c p fl (far,wt,cm)=(zbu far (Sum.inl ((mn wt:Nat):Int)) (.int a0),zdn ws c p fl (zbu far (Sum.inl ((mn wt:Nat):Int)) (.int a0)) (mn wt) a0 (zbY wt (Sum.inl ((mn wt:Nat):Int)),cm)):=by
    unfold zbI
    rw[tk]
    show(_,zdn ws c p fl _ (mn wt) ((gI wt (mn wt)).getD 0) _)=_
    rw[ga]
    rfl
   rw[tk] at hS
   simp only[tn]
   generalize mn wt=x at *
   have kx2:Kx [fA,cA,wA] H1 H2:=kx.trans (Kx.of sm)
   refine⟨_,rfl,wA,rfl,.inl ⟨wt,.inl (sm _ _ gw)⟩,_,rfl,wt,Sum.inl ((x:Nat):Int),.int a0,sm _ _ gw,rfl,by rw[wf2.val x,ga];rfl,_,rfl,_,rfl,fA,_,rfl,.inl ⟨far,Sum.inl ((x:Nat):Int),by rw[zag nfw];exact sm _ _ gf,rfl,by rw[sizeLine_eq];omega,rfl⟩,?_⟩
   have kx4:Kx [fA,cA,wA] H1 (upd (upd H2 wA (.dK (zbY wt (Sum.inl ((x:Nat):Int))))) fA (.dK (zbu far (Sum.inl ((x:Nat):Int)) (.int a0)))):=(kx2.trans (Kx.upd (by simp))).trans (Kx.upd (by simp))
   have f4:upd (upd H2 wA (.dK (zbY wt (Sum.inl ((x:Nat):Int))))) fA (.dK (zbu far (Sum.inl ((x:Nat):Int)) (.int a0))) fA=some (.dK (zbu far (Sum.inl ((x:Nat):Int)) (.int a0))):=zaa
   have w4:upd (upd H2 wA (.dK (zbY wt (Sum.inl ((x:Nat):Int))))) fA (.dK (zbu far (Sum.inl ((x:Nat):Int)) (.int a0))) wA=some (.dK (zbY wt (Sum.inl ((x:Nat):Int)))):=by rw[zag (Ne.symm nfw),zaa]
   have c4:upd (upd H2 wA (.dK (zbY wt (Sum.inl ((x:Nat):Int))))) fA (.dK (zbu far (Sum.inl ((x:Nat):Int)) (.int a0))) cA=some (.dK cm):=by rw[zag (Ne.symm nfc),zag ncw];exact sm _ _ gc
   generalize upd (upd H2 wA (.dK (zbY wt (Sum.inl ((x:Nat):Int))))) fA (.dK (zbu far (Sum.inl ((x:Nat):Int)) (.int a0)))=H4 at kx4 f4 w4 c4 ⊢
   have L4:=lay H4 kx4
   obtain⟨dx4,ex4⟩:=L4.ex
   have hn4:=keep H4 kx4 _ _ (s1 _ _ hn) (fun _ z=>by cases z)
   have hp4:=keep H4 kx4 _ _ (s1 _ _ hp) (fun _ z=>by cases z)
   have hf4:=keep H4 kx4 _ _ (s1 _ _ hf) (fun _ z=>by cases z)
   have xc':x<c:=xc
   have fl1:=zdm far (Sum.inl ((x:Nat):Int)) (.int a0)
   have dl:=zjA wt (Sum.inl ((x:Nat):Int))
   have gx:gI (zbu far (Sum.inl ((x:Nat):Int)) (.int a0)) x=some a0:=by rw[zck,zal]
   rw[← zck,← ziA] at se1
   rw[← zck] at mx
   have se2:Se (wn ws c) (fn p) (fn fl) (fn nd) (gI (zbu far (Sum.inl ((x:Nat):Int)) (.int a0))) (gI (zbY wt (Sum.inl ((x:Nat):Int)))) (cI cm) (up rk x j) (j + 1) fun q _ _=>q≠x∧gI (zbu far (Sum.inl ((x:Nat):Int)) (.int a0)) q≠none:=se1.less fun q n d z=>by
    have z2:=z.2
    rw[zck,zaz _ _ z.1] at z2
    exact z2
   refine⟨_,rfl,q,a.Layout,dx4,_,_,rfl,ex4,T.c_Layout,T.na_Layout_needs,zcd,_,rfl,r.n,_,_,_,rfl,rfl,SqL.of hn4,zeX (by omega),_,_,rfl,rfl,_,rfl,?_⟩
   refine zcT (fun c1=>?_) (fun c1=>?_)
   ·have c2:0<fn nd x:=of_decide_eq_true c1
    rcases hS with hS|hS
    ·refine⟨_,rfl,k j x _ cm H4 (bac _ kx4) hS f4 c4 (wf1.put _ _) wf3 (by omega) (by omega) ⟨_,_,j + 1,a0,by omega,se2,gx,mx,fun q b e=>?_⟩⟩
     rw[ziA] at e
     by_cases z:q=x
     ·rw[z,zal] at e
      cases e
     ·rw[zaz _ _ z] at e
      exact mle q b e
    ·exact absurd c2 hS
   ·have c2:¬ 0<fn nd x:=of_decide_eq_false c1
    refine⟨_,rfl,_,rfl,_,rfl,_,rfl,_,rfl,q,r,ws,c,p,fl,fA,wA,cA,_,_,cm,x,a0,rfl,L4,hp4,hpc,hf4,hfl,ok,hw,xc',f4,wf1.put _ _,gx,w4,wf2.drop _,by omega,c4,wf3,by omega,nfw,nfc,Ne.symm ncw,fun H5 kx5 h5w h5c=>?_⟩
    obtain⟨o1,o2,o3⟩:=zlo (ws:=ws) (c:=c) (P:=p) (fl:=fl) (far:=zbu far (Sum.inl ((x:Nat):Int)) (.int a0)) (x:=x) (a:=a0) (s:=(zbY wt (Sum.inl ((x:Nat):Int)),cm)) ⟨wf2.drop _,wf3⟩
    have ll:left (gI (zbu far (Sum.inl ((x:Nat):Int)) (.int a0))) c<left (gI far) c:=by
     rw[zck]
     exact ziB xc' fx
    rw[tn] at sj
    refine⟨left (gI (itr (zbI ws c p fl) (j + 1) ([],w0 nd c,[])).1) c,by rw[sj];exact ll,j + 1,some (.int (x:Nat)),v5,up rk x j,?_⟩
    rw[sj]
    refine⟨rfl,kx4.trans (kx5.mono (by simp)),rfl,?_,?_,h5w,h5c,⟨wf1.put _ _,o1.1,o1.2⟩,⟨?_,?_,?_⟩,zlk ok ti gx mx se2,fun v b e=>?_,no' c2⟩
    ·show j + 1 + left (gI (zbu far (Sum.inl ((x:Nat):Int)) (.int a0))) c≤c
     omega
    ·exact kx5 _ _ f4 (by simp[nfw,nfc])
    ·show(zbu far (Sum.inl ((x:Nat):Int)) (.int a0)).length≤j + 1
     omega
    ·refine Nat.le_trans o2 ?_
     show(zbY wt (Sum.inl ((x:Nat):Int))).length + 2 * ws.length≤c + 400 * (j + 1)
     omega
    ·refine Nat.le_trans o3 ?_
     show cm.length + 2 * ws.length≤400 * (j + 1)
     omega
    ·have e:gI (zbu far (Sum.inl ((x:Nat):Int)) (.int a0)) v=some b:=e
     rw[zck] at e
     by_cases z:v=x
     ·rw[z]
      omega
     ·rw[zaz _ _ z] at e
      exact np v b e
end
end K21
namespace K21
open PySem L2
def wyL (N:Wn) (cm:Nat→Option Nat) (e k:Nat):List (Nat×Int):=(List.range k).map fun i=>(cn cm (itr (bc N cm) i e),((itr (bc N cm) i e:Nat):Int))
theorem ze3 (N:Wn) (cm:Nat→Option Nat) (e k:Nat):wyL N cm e (k + 1)=wyL N cm e k++[(cn cm (itr (bc N cm) k e),((itr (bc N cm) k e:Nat):Int))]:=by
 unfold wyL
 rw[List.range_succ,List.map_append]
 rfl
section
variable {P:Program}{w:World}{K:PySem.W.Frag}{mg:Str→Option Value}{base:Heap}{a:Adr}
def spWay (K:PySem.W.Frag) (C:Addr):Sp:=fun vs H Q _=>∃ q r ws c cA cm,∃ (rk:Nat→Nat) (e:Nat),vs=[.ref q,.ref cA,.int e]∧zcH C H q r ws c∧H cA=some (.dK cm)∧Wf cm∧(∀ x i,gI cm x=some i→0≤i) ∧
 (∀ i,(cI cm (itr (bc (wn ws c) (cI cm)) i e)).isSome=true→cn (cI cm) (itr (bc (wn ws c) (cI cm)) i e)<ws.length∧rk (itr (bc (wn ws c) (cI cm)) (i + 1) e)<rk (itr (bc (wn ws c) (cI cm)) i e))∧rk e≤10000 ∧
 ∀ k g xs H',zaj H H'→H g=none→H' g=some (.lst xs)→zb4 K H' ((wyL (wn ws c) (cI cm) e k).map stD) xs→cI cm (itr (bc (wn ws c) (cI cm)) k e)=none→(∀ i,i<k→(cI cm (itr (bc (wn ws c) (cI cm)) i e)).isSome=true)→k≤10000→Q (.ref g) H'
set_option maxHeartbeats 4000000 in
theorem ok_way (T:Tx K mg a):Cal P w K mg base CX0 2 "way_back" ["layout","came_by","end"] [] (spWay K a.Layout):=T.d_way_back.cal fun f fd F=>by
 have m_Layout_end_across:=zd4 (P:=P) (w:=w) (base:=base) T
 refine F.ok zcc (fun vs H Q E h=>?_) (fun cdv A outer s H vs Q E hr h=>?_)
 ·obtain⟨q,r,ws,c,cA,cm,rk,e,rfl,_⟩:=h
  rfl
 ·obtain⟨q,r,ws,c,cA,cm,rk,e,rfl,L,hcA,wf,nn,hrk,re,k⟩:=h
  obtain⟨dx,ex⟩:=L.ex
  refine⟨_,(zad (zam (i:=3) zcc.nd rfl (by first|exact Or.inl rfl|exact Or.inr rfl) (zcg zah))
   (zad (zam (i:=4) zcc.nd rfl (by first|exact Or.inl rfl|exact Or.inr rfl) (pv 2))
   (zad (zc0 PassesOwn.never (zco (pc_din (zb1 hr) (pv 4) (pv 1))) (zad (zbX (zg0 PySem.F.plainAttrs_list PySem.F.slot_list_append PySem.F.type_list_append zc5 (pv 3) (zab (zfj (zab (zbZ (zb1 hr) (pv 1) (pv 4) (fun _ _=>rfl)) (zab (pv 4) zah))) zah)))
   (zai (zam (i:=4) zcc.nd rfl (by first|exact Or.inl rfl|exact Or.inr rfl) (zdV (pv 0) T.c_Layout m_Layout_end_across (hr.mono (by decide)) (zab (zbZ (zb1 hr) (pv 1) (pv 4) (fun _ _=>rfl)) (zab (pv 4) zah)))))))
   (zai (zaH (pv 3)))))),?_⟩
  refine⟨(by show 0≤sizeLine;decide),fun g ng=>?_⟩
  have s1:zaj H (upd H g (.lst [])):=zaj.new ng
  have h1:upd H g (.lst []) g=some (.lst []):=zaa
  generalize upd H g (.lst [])=H1 at s1 h1 ⊢
  refine⟨_,rfl,?_⟩
  refine⟨fun m σ G=>∃ i xs,m=rk (itr (bc (wn ws c) (cI cm)) i e)∧σ=[some (.ref q),some (.ref cA),some (.int (e:Nat)),some (.ref g),some (.int (itr (bc (wn ws c) (cI cm)) i e:Nat))]∧zaj H G∧G g=some (.lst xs)∧zb4 K G ((wyL (wn ws c) (cI cm) e i).map stD) xs∧(∀ j,j<i→(cI cm (itr (bc (wn ws c) (cI cm)) j e)).isSome=true)∧i + rk (itr (bc (wn ws c) (cI cm)) i e)≤10000,
   ⟨_,0,[],rfl,rfl,s1,h1,rfl,fun j z=>absurd z (Nat.not_lt_zero _),by show 0 + rk e≤10000;omega⟩,?_⟩
  rintro m σ G ⟨i,xs,rfl,rfl,sg,hg,hds,all,hi⟩
  have gd:=wf.dget (v:=itr (bc (wn ws c) (cI cm)) i e) (sg _ _ hcA)
  refine⟨_,rfl,_,rfl,cA,_,rfl,gd,_,rfl,?_⟩
  cases eg:gI cm (itr (bc (wn ws c) (cI cm)) i e) with
  | none=>
   refine zcL ⟨_,rfl,k i g xs G sg ng hg hds ?_ all (by omega)⟩
   show(gI cm (itr (bc (wn ws c) (cI cm)) i e)).map Int.toNat=none
   rw[eg]
   rfl
  | some z=>
   have z0:=nn _ _ eg
   obtain⟨n,rfl⟩:∃ n:Nat,z=(n:Int):=⟨z.toNat,by omega⟩
   have cs:cI cm (itr (bc (wn ws c) (cI cm)) i e)=some n:=by
    show(gI cm (itr (bc (wn ws c) (cI cm)) i e)).map Int.toNat=some n
    rw[eg]
    rfl
   have cnn:cn (cI cm) (itr (bc (wn ws c) (cI cm)) i e)=n:=by
    unfold cn
    rw[cs]
    rfl
   obtain⟨nl,rl⟩:=hrk i (by rw[cs];rfl)
   rw[cnn] at nl
   rw[eg] at gd
   have lx:xs.length≤10000:=by
    have:=hds.length
    unfold wyL at this
    rw[List.length_map,List.length_map,List.length_range] at this
    omega
   refine zd8 ⟨_,fun σ' H' h=>h,?_⟩
   refine⟨_,rfl,.inl ⟨rfl,_,SqL.of hg⟩,_,rfl,_,rfl,cA,_,rfl,gd,_,rfl,(by show 2≤sizeLine;decide),fun t nt=>⟨g,_,_,rfl,rfl,zaj.new nt _ _ hg,by rw[sizeLine_eq];omega,?_⟩⟩
   have s5:zaj G (upd G t (.tup [.int (n:Nat),.int (itr (bc (wn ws c) (cI cm)) i e:Nat)])):=zaj.new nt
   have h5:upd G t (.tup [.int (n:Nat),.int (itr (bc (wn ws c) (cI cm)) i e:Nat)]) t=some (.tup [.int (n:Nat),.int (itr (bc (wn ws c) (cI cm)) i e:Nat)]):=zaa
   generalize upd G t (.tup [.int (n:Nat),.int (itr (bc (wn ws c) (cI cm)) i e:Nat)])=H5 at s5 h5 ⊢
   have s6:zaj H (upd H5 g (.lst (xs++[.ref t]))):=zap ng (sg.trans s5)
   have kp:Tk H5 (upd H5 g (.lst (xs++[.ref t]))):=Tk.upd (s5 _ _ hg) rfl
   have h6:upd H5 g (.lst (xs++[.ref t])) g=some (.lst (xs++[.ref t])):=zaa
   have ds6:zb4 K (upd H5 g (.lst (xs++[.ref t]))) ((wyL (wn ws c) (cI cm) e (i + 1)).map stD) (xs++[.ref t]):=by
    rw[ze3,List.map_append,cnn]
    exact zb4.snoc (d:=stD (n,((itr (bc (wn ws c) (cI cm)) i e:Nat):Int))) (kp.dt rfl ⟨t,_,rfl,SqT.of h5,_,_,rfl,rfl,_,_,rfl,rfl,rfl⟩) (kp.dts (zaD (fun _=>rfl) _) (s5.dts hds))
   generalize upd H5 g (.lst (xs++[.ref t]))=H6 at s6 h6 ds6 ⊢
   have gd6:=wf.dget (v:=itr (bc (wn ws c) (cI cm)) i e) (s6 _ _ hcA)
   rw[eg] at gd6
   refine⟨_,rfl,q,dx,_,rfl,s6 _ _ ex,by rfl,_,rfl,_,rfl,cA,_,rfl,gd6,_,rfl,q,r,ws,c,n,_,rfl,L.same s6,nl,?_⟩
   have nx:itr (bc (wn ws c) (cI cm)) (i + 1) e=ac (wn ws c) n (itr (bc (wn ws c) (cI cm)) i e):=zdk cs
   refine⟨rk (itr (bc (wn ws c) (cI cm)) (i + 1) e),rl,i + 1,xs++[.ref t],rfl,?_,s6,h6,ds6,fun j hj=>?_,by omega⟩
   ·rw[nx]
    rfl
   ·rcases Nat.lt_or_ge j i with y|y
    ·exact all j y
    ·rw[show j=i by omega,cs]
     rfl
end
end K21
namespace K21
theorem ziF {N:Wn}{pu:Nat→Option Nat}{p:Nat} (h:∀ i,(pu (itr (bk N pu) i p)).isSome=true):∀ k,((rgL N pu p k).map N.le).sum=zfW N pu p k
 | 0=>rfl
 | k + 1=>by
  have ih:=ziF h k
  show N.le (cn pu (itr (bk N pu) k p)) + ((rgL N pu p k).map N.le).sum=zfW N pu p k + _
  rw[ih,zbs (h k)]
  exact Int.add_comm _ _
theorem zkg {N:Wn}{pu:Nat→Option Nat}{p:Nat}:∀ k i,i<k→(rgL N pu p k)[i]?=some (cn pu (itr (bk N pu) (k - 1 - i) p))
 | 0,i,h=>absurd h (Nat.not_lt_zero _)
 | k + 1,0,_=>by
  show some (cn pu (itr (bk N pu) k p))=_
  rw[show k + 1 - 1 - 0=k by omega]
 | k + 1,i + 1,h=>by
  show(rgL N pu p k)[i]?=_
  rw[zkg k i (by omega),show k + 1 - 1 - (i + 1)=k - 1 - i by omega]
theorem zcj.pos {N:Wn}{ring:List Nat} (h:zcj N ring):0<(ring.map N.le).sum:=by
 obtain⟨P,t,pu,p,k,fi,hp,all,rfl,back,ne⟩:=h.told
 rw[ziF all]
 exact fi.b p (k + 1) (Nat.succ_pos _) (fun i _=>all i) back
theorem zcj.way {N:Wn}{ring:List Nat} (h:zcj N ring):0<ring.length∧(∀ n∈ring,n<N.m)∧(∀ (i n n':Nat),ring[i]?=some n→ring[i + 1]?=some n'→N.ot n=N.on n')∧(∀ (n n':Nat),ring[ring.length - 1]?=some n→ring[0]?=some n'→N.ot n=N.on n')∧∀ (i j n n':Nat),i<j→ring[i]?=some n→ring[j]?=some n'→N.on n≠N.on n':=by
 obtain⟨P,t,pu,p,k,fi,hp,all,rfl,back,ne⟩:=h.told
 have len:=ze0 N pu p (k + 1)
 have ot:∀ i,N.ot (cn pu (itr (bk N pu) i p))=itr (bk N pu) i p:=fun i=>(fi.a _ _ (zbs (all i))).2.1
 have on:∀ i,N.on (cn pu (itr (bk N pu) i p))=itr (bk N pu) (i + 1) p:=fun i=>(ze1 (all i)).symm
 have at_:∀ i n,(rgL N pu p (k + 1))[i]?=some n→i<k + 1∧n=cn pu (itr (bk N pu) (k - i) p):=fun i n e=>by
  have l:=(List.getElem?_eq_some_iff.mp e).1
  rw[len] at l
  rw[zkg (k + 1) i l,show k + 1 - 1 - i=k - i by omega] at e
  exact⟨l,(Option.some.inj e).symm⟩
 refine⟨by rw[len];omega,fun n hn=>?_,fun i n n' e e'=>?_,fun n n' e e'=>?_,fun i j n n' ij e e' z=>?_⟩
 ·obtain⟨i,e⟩:=List.mem_iff_getElem?.mp hn
  obtain⟨_,rfl⟩:=at_ i n e
  exact(fi.a _ _ (zbs (all _))).1
 ·obtain⟨_,rfl⟩:=at_ i n e
  obtain⟨l,rfl⟩:=at_ (i + 1) n' e'
  rw[ot,on,show k - (i + 1) + 1=k - i by omega]
 ·rw[len] at e
  obtain⟨_,rfl⟩:=at_ _ n e
  obtain⟨_,rfl⟩:=at_ 0 n' e'
  rw[ot,on,show k - 0 + 1=k + 1 by omega,back,show k - (k + 1 - 1)=0 by omega]
  rfl
 ·obtain⟨l1,rfl⟩:=at_ i n e
  obtain⟨l2,rfl⟩:=at_ j n' e'
  rw[on,on] at z
  have y:itr (bk N pu) (k - j + 1 + i) p=p:=by
   have e1:itr (bk N pu) (k - i + 1 + i) p=itr (bk N pu) i (itr (bk N pu) (k - i + 1) p):=zcV _ _ _ _
   have e2:itr (bk N pu) (k - j + 1 + i) p=itr (bk N pu) i (itr (bk N pu) (k - j + 1) p):=zcV _ _ _ _
   rw[e2,← z,← e1,show k - i + 1 + i=k + 1 by omega]
   exact back
  exact ne _ (by omega) (by omega) y
end K21
namespace K21
open PySem L2
def amL (N:Wn) (fl nd:Nat→Int) (st:List (Nat×Int)) (e s:Nat):List Int:=nd e::(0 - nd s)::((st.filter fun x=>decide (((N.on x.1:Nat):Int)=x.2)).map fun x=>fl x.1)
def st1 (N:Wn) (am:Int) (f:List Int) (x:Nat×Int):List Int:=f.set x.1 (fn f x.1 + (if ((N.ot x.1:Nat):Int)=x.2 then am else 0 - am))
def ndS (nd:List Int) (s e:Nat) (am:Int):List Int:=(nd.set s (fn nd s + am)).set e (fn (nd.set s (fn nd s + am)) e - am)
theorem ze4 (N:Wn) (am:Int):∀ (st:List (Nat×Int)) (f:List Int),(st.foldl (st1 N am) f).length=f.length
 | [],_=>rfl
 | x::st,f=>by
  show(st.foldl (st1 N am) (st1 N am f x)).length=_
  rw[ze4 N am st]
  unfold st1
  rw[List.length_set]
theorem zkh {xs:List V}{x:V} (h:xs[xs.length - 1]?=some x):atI xs (-1)=some x:=by
 have hp:0<xs.length:=by
  have:=(List.getElem?_eq_some_iff.mp h).1
  omega
 unfold atI ixN
 rw[if_neg (by decide),if_pos (by omega)]
 have e2:((-1:Int) + (xs.length:Int)).toNat=xs.length - 1:=by omega
 rw[e2]
 exact h
section
variable {P:Program}{w:World}{K:PySem.W.Frag}{mg:Str→Option Value}{base:Heap}{a:Adr}
def zlp (K:PySem.W.Frag) (C:Addr):Sp:=fun vs H Q _=>∃ q r ws c fl nd sA st xs,∃ e ln lp:Nat,vs=[.ref q,.ref sA,.int e]∧zcH C H q r ws c∧H r.f=some (.lst ((fl:List Int).map V.int))∧fl.length=ws.length∧H r.n=some (.lst ((nd:List Int).map V.int))∧nd.length=c ∧
 H sA=some (.lst xs)∧sA≠r.f∧sA≠r.n∧zb4 K H ((st:List (Nat×Int)).map stD) xs∧st.length≤10000∧(∀ x∈st,x.1<ws.length)∧st[st.length - 1]?=some (ln,((lp:Nat):Int))∧e<c∧ac (wn ws c) ln lp<c ∧
 ∀ am H',am∈amL (wn ws c) (fn fl) (fn nd) st e (ac (wn ws c) ln lp)→(∀ x∈amL (wn ws c) (fn fl) (fn nd) st e (ac (wn ws c) ln lp),am≤x)→Kx [r.f,r.n] H H' →
  H' r.f=some (.lst ((st.foldl (st1 (wn ws c) am) fl).map V.int))→H' r.n=some (.lst ((ndS nd (ac (wn ws c) ln lp) e am).map V.int))→Q .non H'
set_option maxHeartbeats 4000000 in
theorem zjC (T:Tx K mg a):Cal P w K mg base CX0 2 "send_along" ["layout","steps","end"] [] (zlp K a.Layout):=T.d_send_along.cal fun f fd F=>by
 have m_Layout_end_across:=zd4 (P:=P) (w:=w) (base:=base) T
 refine F.ok za0 (fun vs H Q E h=>?_) (fun cdv A outer s H vs Q E hr h=>?_)
 ·obtain⟨q,r,ws,c,fl,nd,sA,st,xs,e,ln,lp,rfl,_⟩:=h
  rfl
 ·obtain⟨q,r,ws,c,fl,nd,sA,st,xs,e,ln,lp,rfl,L,hf,hfl,hn,hnc,hs,sf,sn,hds,hst,lts,hla,hec,hsc,k⟩:=h
  obtain⟨dx,ex⟩:=L.ex
  have lx:st.length=xs.length:=by rw[← hds.length,List.length_map]
  have pos:0<st.length:=by
   have:=(List.getElem?_eq_some_iff.mp hla).1
   omega
  have lnl:ln<ws.length:=lts _ (List.mem_of_getElem? hla)
  obtain⟨xl,hxl⟩:=zbo (l:=xs) (j:=xs.length - 1) (by omega)
  obtain⟨s0,hs0,ds0⟩:=zaR hds hxl
  rw[← lx,hla] at hs0
  obtain rfl:=Option.some.inj hs0
  obtain⟨tl,rfl,htl⟩:=zjz ds0
  refine⟨_,(zad (zam (i:=3) za0.nd rfl (by first|exact Or.inl rfl|exact Or.inr rfl) (zas zav (pv 1) (zkw zhv zaf) (fun _ _=>rfl)))
   (zad (zam (i:=4) za0.nd rfl (by first|exact Or.inl rfl|exact Or.inr rfl) (zdV (pv 0) T.c_Layout m_Layout_end_across (hr.mono (by decide)) (zab (zas zbn (pv 3) zaf (fun _ _=>rfl)) (zab (zas zbn (pv 3) zaf (fun _ _=>rfl)) zah))))
   (zad (zdS (i:=5) za0.nd rfl rfl (N:=["number","point","layout"]) (cap:=[none,none,some 0]) rfl (zaT (osc:=zae za8) (XN:=["layout","steps","end","last","start","back","amount","number","point"]) rfl rfl (by decide +kernel)) (zaF (pv 1)) (fun cl C s H fp pins=>(zdj (K:=K) (n:=2) rfl rfl (zar (zak (i:=0) (show(["number","point","layout"]:List Str).Nodup by decide +kernel) rfl (by first|exact Or.inl rfl|exact Or.inr rfl)) (zar (zak (i:=1) (show(["number","point","layout"]:List Str).Nodup by decide +kernel) rfl (by first|exact Or.inl rfl|exact Or.inr rfl)) zbm)))) (fun cl C s H fp pins=>zcR (zaq zc3 (zas (zdB (K:=K) rfl) (zga (K:=K) rfl (pv 2) rfl) (pv 0) (fun _ _=>rfl)) (pv 1) (zau _))) (fun cl C s H fp pins=>(pv 0)) (hsw:=rfl))
   (zad (zam (i:=6) za0.nd rfl (by first|exact Or.inl rfl|exact Or.inr rfl) (zao zfE rfl T.n_min zgv (zab (zaC zjZ (zcg (zab (zas zav (zaJ (pv 0) rfl) (pv 2) (fun _ _=>rfl)) (zab (zaC zbC zaf (zas zav (zaJ (pv 0) rfl) (pv 4) (fun _ _=>rfl))) zah))) (zaN (N:=["number","layout"]) (cap:=[none,some 0]) rfl (zaT (osc:=zae za8) (XN:=["layout","steps","end","last","start","back","amount","number","point"]) rfl rfl (by decide +kernel)) (zaF (pv 5)) (fun cl C s H fp pins=>(zak (i:=0) (show(["number","layout"]:List Str).Nodup by decide +kernel) rfl (by first|exact Or.inl rfl|exact Or.inr rfl))) (fun cl C s H fp pins=>zaW) (fun cl C s H fp pins=>(zas (zdB (K:=K) rfl) (zga (K:=K) rfl (pv 1) rfl) (pv 0) (fun _ _=>rfl))))) zah)))
   (zad (zce PassesOwn.never rfl (zaF (pv 1)) (zcZ rfl (zar (zak (i:=7) za0.nd rfl (by first|exact Or.inl rfl|exact Or.inr rfl)) (zar (zak (i:=8) za0.nd rfl (by first|exact Or.inl rfl|exact Or.inr rfl)) zbm))) (zai (zcO (zaJ (pv 0) rfl) (pv 7) zcb (zeC (zaq zc3 (zas zav (zaJ (pv 0) rfl) (pv 7) (fun _ _=>rfl)) (pv 8) (zau _)) (pv 6) (zaC zbC zaf (pv 6))) zff zca)))
   (zad (zcO (zaJ (pv 0) rfl) (pv 4) zcb (pv 6) zff zca)
   (zai (zcO (zaJ (pv 0) rfl) (pv 2) zcb (pv 6) zjU zca)))))))),?_⟩
  refine⟨_,rfl,_,rfl,sA,_,_,_,rfl,rfl,SqL.of hs,zkh hxl,?_⟩
  refine⟨_,rfl,q,dx,_,rfl,ex,by rfl,_,rfl,tl,_,_,_,rfl,rfl,htl,rfl,_,rfl,tl,_,_,_,rfl,rfl,htl,rfl,q,r,ws,c,ln,lp,rfl,L,lnl,?_⟩
  generalize ac (wn ws c) ln lp=ss at *
  refine⟨_,rfl,sA,rfl,⟨_,SqL.of hs⟩,fun D hD=>?_⟩
  refine zax (K:=K) (a:=sA) (xs:=xs) (fun j τ G=>∃ v1 v2,τ=[v1,v2,some (.ref q)]∧zaj H G∧G D=some (.lst (zbh (((st.take j).filter fun x=>decide ((((wn ws c).on x.1:Nat):Int)=x.2)).map fun x=>x.1)))) ⟨none,none,rfl,zaj.new hD,zaa⟩ ?_ ?_ ?_
  ·rintro j τ G _ ⟨_,_,rfl,sg,_⟩
   exact SqL.of (sg _ _ hs)
  ·rintro j y τ G hy ⟨v1,v2,rfl,sg,hG⟩
   obtain⟨⟨n,d⟩,hsj,dj⟩:=zaR hds hy
   have nl:=lts _ (List.mem_of_getElem? hsj)
   obtain⟨t,rfl,ht⟩:=zjz (sg.dt dj)
   refine⟨t,_,rfl,ht,rfl,_,_,rfl,_,_,rfl,rfl,?_⟩
   refine⟨_,rfl,q,a.Layout,dx,_,_,rfl,sg _ _ ex,T.c_Layout,T.na_Layout_ones,zdl,_,rfl,r.o,_,_,_,rfl,rfl,SqL.of (sg _ _ L.ho),zeY _ nl,_,rfl,rfl,_,rfl,?_⟩
   have fll:(((st.take j).filter fun x=>decide ((((wn ws c).on x.1:Nat):Int)=x.2)).map fun x=>x.1).length≤10000:=by
    rw[List.length_map]
    have e1:=List.length_filter_le (fun x:Nat×Int=>decide ((((wn ws c).on x.1:Nat):Int)=x.2)) (st.take j)
    have e2:=List.length_take_le j st
    rw[List.length_take] at e1
    omega
   refine zcT (fun b1=>?_) (fun b1=>?_)
   ·have b2:decide ((((wn ws c).on n:Nat):Int)=d)=true:=by
     have:=of_decide_eq_true b1
     injection this with z
     exact decide_eq_true z
    refine⟨_,rfl,_,hG,?_,_,_,rfl,zap hD sg,?_⟩
    ·show(zbh _).length<sizeLine
     unfold zbh
     rw[List.length_map,sizeLine_eq]
     omega
    ·rw[zaa,zan hsj,List.filter_append,List.filter_cons,if_pos b2,List.filter_nil,List.map_append]
     unfold zbh
     rw[List.map_append]
     rfl
   ·have b2:decide ((((wn ws c).on n:Nat):Int)=d)=false:=by
     refine decide_eq_false fun z=>?_
     have:=of_decide_eq_false b1
     exact this (by rw[← z];rfl)
    refine⟨_,_,rfl,sg,?_⟩
    rw[zan hsj,List.filter_append,List.filter_cons,if_neg (by rw[b2];decide),List.filter_nil,List.append_nil]
    exact hG
  rintro τ H1 ⟨v1,v2,rfl,s1,hD1⟩
  rw[List.take_of_length_le (by omega)] at hD1
  have ex1:=s1 _ _ ex
  have hn1:=s1 _ _ hn
  refine⟨_,rfl,q,a.Layout,dx,_,_,rfl,ex1,T.c_Layout,T.na_Layout_needs,zcd,_,rfl,r.n,_,_,_,rfl,rfl,SqL.of hn1,zeX (by omega),_,rfl,q,a.Layout,dx,_,_,rfl,ex1,T.c_Layout,T.na_Layout_needs,zcd,_,rfl,r.n,_,_,_,rfl,rfl,SqL.of hn1,zeX (by omega),_,_,rfl,rfl,(by show 2≤sizeLine;decide),fun g1 ng1=>?_⟩
  have s2:zaj H (upd H1 g1 (.lst [.int (fn nd e),.int (0 - fn nd ss)])):=s1.trans (zaj.new ng1)
  have h2:upd H1 g1 (.lst [.int (fn nd e),.int (0 - fn nd ss)]) g1=some (.lst [.int (fn nd e),.int (0 - fn nd ss)]):=zaa
  have hD2:=zaj.new ng1 (o:=.lst [.int (fn nd e),.int (0 - fn nd ss)]) _ _ hD1
  generalize upd H1 g1 (.lst [.int (fn nd e),.int (0 - fn nd ss)])=H2 at s2 h2 hD2 ⊢
  generalize hbk:(st.filter fun x=>decide ((((wn ws c).on x.1:Nat):Int)=x.2))=bk at hD2
  have hbl:bk.length≤10000:=by
   rw[← hbk]
   have:=List.length_filter_le (fun x:Nat×Int=>decide ((((wn ws c).on x.1:Nat):Int)=x.2)) st
   omega
  have hbm:∀ x∈bk,x.1<ws.length:=fun x hx=>by
   rw[← hbk] at hx
   exact lts x (List.mem_filter.mp hx).1
  refine⟨_,rfl,D,rfl,⟨_,SqL.of hD2⟩,fun Z hZ=>?_⟩
  refine zax (K:=K) (a:=D) (xs:=zbh (bk.map fun x=>x.1)) (fun j τ G=>∃ v1,τ=[v1,some (.ref q)]∧zaj H2 G∧G Z=some (.lst (((bk.take j).map fun x=>fn fl x.1).map V.int))) ⟨none,rfl,zaj.new hZ,zaa⟩ ?_ ?_ ?_
  ·rintro j τ G _ ⟨_,rfl,sg,_⟩
   exact SqL.of (sg _ _ hD2)
  ·rintro j y τ G hy ⟨v1,rfl,sg,hG⟩
   obtain⟨n,hn',rfl⟩:=zdo hy
   rw[List.getElem?_map] at hn'
   cases eb:bk[j]? with
   | none=>rw[eb] at hn';cases hn'
   | some b=>
    rw[eb] at hn'
    obtain rfl:b.1=n:=Option.some.inj hn'
    have bl:=hbm b (List.mem_of_getElem? eb)
    have tg:=s2.trans sg
    dsimp only[zbl,zd7]
    rw[if_pos rfl]
    refine⟨_,rfl,q,a.Layout,dx,_,_,rfl,tg _ _ ex,T.c_Layout,T.na_Layout_flow,zd3,_,rfl,r.f,_,_,_,rfl,rfl,SqL.of (tg _ _ hf),zeX (by omega),_,hG,?_,_,rfl,zap hZ sg,?_⟩
    ·rw[List.length_map,List.length_map,List.length_take,sizeLine_eq]
     omega
    ·rw[zaa,zan eb,List.map_append,List.map_append]
     rfl
  rintro τ H3 ⟨v3,rfl,s3,hZ3⟩
  rw[List.take_of_length_le (by unfold zbh;rw[List.length_map,List.length_map];exact Nat.le_refl _)] at hZ3
  refine⟨g1,Z,_,_,rfl,rfl,s3 _ _ h2,hZ3,?_,fun g2 ng2=>?_⟩
  ·rw[List.length_map,List.length_map,sizeLine_eq]
   show 2 + bk.length≤_
   omega
  have am0:amL (wn ws c) (fn fl) (fn nd) st e ss=fn nd e::(0 - fn nd ss)::(bk.map fun x=>fn fl x.1):=by
   unfold amL
   rw[hbk]
  have e4:([V.int (fn nd e),V.int (0 - fn nd ss)]++(bk.map fun x=>fn fl x.1).map V.int)=(amL (wn ws c) (fn fl) (fn nd) st e ss).map V.int:=by
   rw[am0]
   rfl
  rw[e4]
  have s4:zaj H (upd H3 g2 (.lst ((amL (wn ws c) (fn fl) (fn nd) st e ss).map V.int))):=(s2.trans s3).trans (zaj.new ng2)
  have h4:upd H3 g2 (.lst ((amL (wn ws c) (fn fl) (fn nd) st e ss).map V.int)) g2=some (.lst ((amL (wn ws c) (fn fl) (fn nd) st e ss).map V.int)):=zaa
  generalize upd H3 g2 (.lst ((amL (wn ws c) (fn fl) (fn nd) st e ss).map V.int))=H4 at s4 h4 ⊢
  refine⟨g2,_,rfl,SqL.of h4,(by rw[am0];exact List.cons_ne_nil _ _),fun am hm hle=>?_⟩
  have L4:=L.same s4
  have lay:∀ G,Kx [r.f] H4 G→zcH a.Layout G q r ws c:=fun G kx=>L4.kx kx fun y hy=>.inr (.inl (List.mem_singleton.mp hy))
  have hs4:=s4 _ _ hs
  have hds4:=s4.dts hds
  have tkx:∀ G,Kx [r.f] H4 G→Tk H4 G:=fun G kx b o z1 z2=>kx b o z1 fun y=>by
   rw[List.mem_singleton.mp y,s4 _ _ hf] at z1
   cases z1
   cases z2
  refine⟨_,rfl,sA,rfl,⟨_,SqL.of hs4⟩,zc1 (K:=K) (a:=sA) (xs:=xs) (fun i σ G=>∃ v7 v8,σ=[some (.ref q),some (.ref sA),some (.int (e:Nat)),some (.ref tl),some (.int (ss:Nat)),some (.ref D),some (.int am),v7,v8]∧Kx [r.f] H4 G∧G r.f=some (.lst (((st.take i).foldl (st1 (wn ws c) am) fl).map V.int)))
   ⟨none,none,rfl,Kx.of (zaj.refl _),s4 _ _ hf⟩ ?_ ?_ ?_⟩
  ·rintro i σ G _ ⟨_,_,rfl,kx,_⟩
   exact SqL.of (kx _ _ hs4 (by simp[sf]))
  ·rintro i y σ G hy ⟨v7,v8,rfl,kx,hG⟩
   obtain⟨⟨n,d⟩,hsj,dj⟩:=zaR hds4 hy
   have nl:=lts _ (List.mem_of_getElem? hsj)
   obtain⟨t,rfl,ht⟩:=zjz ((tkx G kx).dt rfl dj)
   have LG:=lay G kx
   obtain⟨dxg,exg⟩:=LG.ex
   have fl1:=ze4 (wn ws c) am (st.take i) fl
   have fo:(st.take (i + 1)).foldl (st1 (wn ws c) am) fl=st1 (wn ws c) am ((st.take i).foldl (st1 (wn ws c) am) fl) (n,d):=by rw[zan hsj,List.foldl_append];rfl
   rw[fo]
   generalize (st.take i).foldl (st1 (wn ws c) am) fl=now at hG fl1 ⊢
   have nl':n<now.length:=by
    have:n<ws.length:=nl
    omega
   refine⟨t,_,rfl,ht,rfl,_,_,rfl,_,_,rfl,rfl,?_⟩
   refine⟨_,rfl,q,a.Layout,dxg,_,_,rfl,exg,T.c_Layout,T.na_Layout_flow,zd3,_,rfl,r.f,_,_,_,rfl,rfl,SqL.of hG,by omega,zfN nl',?_⟩
   refine⟨_,rfl,q,a.Layout,dxg,_,_,rfl,exg,T.c_Layout,T.na_Layout_others,zcz,_,rfl,r.t,_,_,_,rfl,rfl,SqL.of LG.ht,zeY _ nl,_,rfl,rfl,_,rfl,?_⟩
   refine zcT (fun b1=>?_) (fun b1=>?_)
   ·have b2:(((wn ws c).ot n:Nat):Int)=d:=by
     have:=of_decide_eq_true b1
     injection this with z
    have sq:st1 (wn ws c) am now (n,d)=now.set n (fn now n + am):=by
     unfold st1
     rw[if_pos b2]
    rw[sq]
    refine⟨_,rfl,_,_,rfl,rfl,r.f,_,_,_,rfl,rfl,hG,zdr (by omega) (by rw[List.length_map];omega),?_⟩
    rw[Int.toNat_natCast,← List.map_set]
    exact⟨_,_,rfl,kx.trans (Kx.upd (by simp)),zaa⟩
   ·have b2:¬ (((wn ws c).ot n:Nat):Int)=d:=fun z=>by
     have:=of_decide_eq_false b1
     exact this (by rw[← z];rfl)
    have sq:st1 (wn ws c) am now (n,d)=now.set n (fn now n + (0 - am)):=by
     unfold st1
     rw[if_neg b2]
    rw[sq]
    refine⟨_,rfl,_,_,rfl,rfl,_,_,rfl,rfl,r.f,_,_,_,rfl,rfl,hG,zdr (by omega) (by rw[List.length_map];omega),?_⟩
    rw[Int.toNat_natCast,← List.map_set]
    exact⟨_,_,rfl,kx.trans (Kx.upd (by simp)),zaa⟩
  ·rintro σ G ⟨v7,v8,rfl,kx,hG⟩
   rw[← lx,List.take_length] at hG
   have LG:=lay G kx
   obtain⟨dxg,exg⟩:=LG.ex
   have hnG:G r.n=some (.lst (nd.map V.int)):=kx _ _ (s4 _ _ hn) (by simp[Ne.symm L.fn])
   refine⟨_,rfl,q,a.Layout,dxg,_,_,rfl,exg,T.c_Layout,T.na_Layout_needs,zcd,_,rfl,r.n,_,_,_,rfl,rfl,SqL.of hnG,by omega,zfN (by omega),_,rfl,_,_,rfl,rfl,r.n,_,_,_,rfl,rfl,hnG,zdr (by omega) (by rw[List.length_map];omega),?_⟩
   rw[Int.toNat_natCast,← List.map_set]
   have kx5:Kx [r.f,r.n] H (upd G r.n (.lst ((nd.set ss (fn nd ss + am)).map V.int))):=((Kx.of s4).trans (kx.mono (by simp))).trans (Kx.upd (by simp))
   have h5:upd G r.n (.lst ((nd.set ss (fn nd ss + am)).map V.int)) r.n=some (.lst ((nd.set ss (fn nd ss + am)).map V.int)):=zaa
   have f5:upd G r.n (.lst ((nd.set ss (fn nd ss + am)).map V.int)) r.f=some (.lst ((st.foldl (st1 (wn ws c) am) fl).map V.int)):=by rw[zag L.fn];exact hG
   generalize upd G r.n (.lst ((nd.set ss (fn nd ss + am)).map V.int))=H5 at kx5 h5 f5 ⊢
   have L5:zcH a.Layout H5 q r ws c:=L.kx kx5 fun y hy=>by
    rcases List.mem_cons.mp hy with z|z
    ·exact .inr (.inl z)
    ·exact .inr (.inr (.inl (List.mem_singleton.mp z)))
   obtain⟨dx5,ex5⟩:=L5.ex
   have l5:e<(nd.set ss (fn nd ss + am)).length:=by rw[List.length_set];omega
   refine⟨_,rfl,q,a.Layout,dx5,_,_,rfl,ex5,T.c_Layout,T.na_Layout_needs,zcd,_,rfl,r.n,_,_,_,rfl,rfl,SqL.of h5,by omega,zfN l5,_,rfl,_,_,rfl,rfl,r.n,_,_,_,rfl,rfl,h5,zdr (by omega) (by rw[List.length_map];omega),?_⟩
   rw[Int.toNat_natCast,← List.map_set]
   exact k am _ hm hle (kx5.trans (Kx.upd (by simp))) (by rw[zag L.fn];exact f5) zaa
end
end K21
namespace K21
open PySem L2
def keyN:Key→Nat
 | .inl i=>i.toNat
 | .inr _=>0
def valI:V→Int
 | .int i=>i
 | _=>0
def mv1 (D:Int) (P:List Int) (kv:Key×V):List Int:=P.set (keyN kv.1) (fn P (keyN kv.1) + (D - valI kv.2))
theorem zge (D:Int):∀ (far:Kvs) (P:List Int),(far.foldl (mv1 D) P).length=P.length
 | [],_=>rfl
 | x::far,P=>by
  show(far.foldl (mv1 D) (mv1 D P x)).length=_
  rw[zge D far]
  unfold mv1
  rw[List.length_set]
theorem zlq (v:Nat) (b:Int) (r:Kvs):gI ((Sum.inl (v:Int),V.int b)::r)=up (gI r) v (some b):=by
 funext u
 unfold gI
 by_cases c:u=v
 ·subst c
  rw[za5 rfl,zal]
  rfl
 ·rw[zaY (fun z=>c (by injection z with z;exact(Int.ofNat.inj z).symm)),zaz _ _ c]
theorem zki {v:Nat}:∀ {r:Kvs},Sum.inl (v:Int)∉r.map Prod.fst→gI r v=none
 | [],_=>rfl
 | p::r,h=>by
  have h1:p.1≠Sum.inl (v:Int):=fun z=>h (by rw[← z];exact List.mem_cons_self)
  have ih:=zki (v:=v) (r:=r) fun z=>h (List.mem_cons_of_mem _ z)
  unfold gI at ih ⊢
  rw[zaY h1]
  exact ih
theorem ziG (D:Int):∀ (far:Kvs) (P:List Int),Wf far→(far.map Prod.fst).Nodup→(∀ v b,gI far v=some b→v<P.length)→fn (far.foldl (mv1 D) P)=mv (fn P) (gI far) D
 | [],P,_,_,_=>rfl
 | x::far,P,wf,nd,lt=>by
  obtain⟨v,b,rfl⟩:=wf x List.mem_cons_self
  rw[List.map_cons,List.nodup_cons] at nd
  have out:=zki nd.1
  rw[zlq] at lt ⊢
  have vl:v<P.length:=lt v b (zal _ _ _)
  have e1:mv1 D P (Sum.inl (v:Int),V.int b)=P.set v (fn P v + (D - b)):=by
   unfold mv1
   show P.set ((v:Int).toNat) (fn P ((v:Int).toNat) + (D - b))=_
   rw[Int.toNat_natCast]
  show fn (far.foldl (mv1 D) (mv1 D P (Sum.inl (v:Int),V.int b)))=_
  rw[e1,ziG D far _ (fun p hp=>wf p (List.mem_cons_of_mem _ hp)) nd.2 (fun u b' e=>by
   have ne:u≠v:=fun z=>by rw[z,out] at e;cases e
   rw[List.length_set]
   exact lt u b' (by rw[zaz _ _ ne];exact e)),zdu vl]
  funext u
  unfold mv
  by_cases c:u=v
  ·subst c
   rw[out,zal,zal]
  ·rw[zaz (gI far) _ c,zaz _ _ c]
theorem zfP {kvs:Kvs}{k:Key}{v:V} (h:(kvs.map Prod.fst).Nodup):((zbu kvs k v).map Prod.fst).Nodup:=by
 unfold zbu
 split
 ·have e:(kvs.map fun p=>if p.1=k then(p.1,v) else p).map Prod.fst=kvs.map Prod.fst:=by
   rw[List.map_map]
   refine List.map_congr_left fun p _=>?_
   show(if p.1=k then(p.1,v) else p).1=p.1
   split <;> rfl
  first|exact e ▸ h|(rw[List.map_map];refine(List.map_congr_left (g:=Prod.fst) fun p _=>?_) ▸ h;show(if _ then _ else _:Key×V).1=p.1;split <;> rfl)
 ·rename_i hc
  rw[List.map_append]
  refine List.nodup_append.mpr ⟨h,by simp,fun x hx y hy=>?_⟩
  rw[List.map_cons,List.map_nil,List.mem_singleton] at hy
  rw[hy]
  rintro rfl
  obtain⟨p,hp,e⟩:=List.mem_map.mp hx
  exact hc (List.any_eq_true.mpr ⟨p,hp,decide_eq_true e⟩)
def NNc (kvs:Kvs):Prop:=∀ x i,gI kvs x=some i→0≤i
theorem rlx_nn {ws:List Wt}{c:Nat}{far:Kvs}{x:Nat}{a:Int}{s:Kvs×Kvs}{st:Nat×Int} (h:NNc s.2):NNc (rlx ws c far x a s st).2:=by
 unfold rlx
 split
 ·intro y i e
  rw[show gI (zbu s.2 (Sum.inl ((ac (wn ws c) st.1 x:Nat):Int)) (.int (st.1:Nat)))=_ from zck _ _ _] at e
  by_cases z:y=ac (wn ws c) st.1 x
  ·rw[z,zal] at e
   cases e
   omega
  ·rw[zaz _ _ z] at e
   exact h y i e
 ·exact h
theorem ziH {ws:List Wt}{c:Nat}{far:Kvs}{x:Nat}{a:Int}:∀ (st:List (Nat×Int)){s:Kvs×Kvs},NNc s.2→NNc (st.foldl (rlx ws c far x a) s).2
 | [],_,h=>h
 | t::st,_,h=>ziH st (rlx_nn (st:=t) h)
theorem ziI {ws:List Wt}{c:Nat}{P fl nd:List Int}:∀ k,NNc (itr (zbI ws c P fl) k ([],w0 nd c,[])).2.2∧((itr (zbI ws c P fl) k ([],w0 nd c,[])).1.map Prod.fst).Nodup
 | 0=>⟨fun x i e=>(by cases e),List.nodup_nil⟩
 | k + 1=>by
  obtain⟨h1,h2⟩:=ziI (ws:=ws) (c:=c) (P:=P) (fl:=fl) (nd:=nd) k
  have sj:itr (zbI ws c P fl) (k + 1) ([],w0 nd c,[])=zbI ws c P fl (itr (zbI ws c P fl) k ([],w0 nd c,[])):=rfl
  rw[sj]
  generalize itr (zbI ws c P fl) k ([],w0 nd c,[])=S at h1 h2 ⊢
  exact⟨ziH _ h1,zfP h2⟩
theorem zlU.nn {ws:List Wt}{c:Nat}{P fl nd:List Int}{k x:Nat}{far cm:Kvs} (h:zlU ws c P fl nd k x far cm):NNc cm∧(far.map Prod.fst).Nodup:=by
 obtain⟨h1,h2⟩:=ziI (ws:=ws) (c:=c) (P:=P) (fl:=fl) (nd:=nd) k
 rw[h.cm,h.far]
 exact⟨h1,zfP h2⟩
abbrev S3:=List Int×List Int×List Int
def Snd (ws:List Wt) (c:Nat) (s s':S3):Prop:=∃ j x far cm k am D,zlU ws c s.1 s.2.1 s.2.2 j x far cm∧gI far x=some D∧cI cm (itr (bc (wn ws c) (cI cm)) k x)=none∧(∀ i,i<k→(cI cm (itr (bc (wn ws c) (cI cm)) i x)).isSome=true) ∧
 am∈amL (wn ws c) (fn s.2.1) (fn s.2.2) (wyL (wn ws c) (cI cm) x k) x (itr (bc (wn ws c) (cI cm)) k x)∧(∀ y∈amL (wn ws c) (fn s.2.1) (fn s.2.2) (wyL (wn ws c) (cI cm) x k) x (itr (bc (wn ws c) (cI cm)) k x),am≤y) ∧
 s'=(far.foldl (mv1 D) s.1,(wyL (wn ws c) (cI cm) x k).foldl (st1 (wn ws c) am) s.2.1,ndS s.2.2 (itr (bc (wn ws c) (cI cm)) k x) x am)
theorem zgf (N:Wn) (cm:Nat→Option Nat) (e k:Nat):(wyL N cm e k).length=k:=by
 unfold wyL
 rw[List.length_map,List.length_range]
theorem ziJ {N:Wn}{cm:Nat→Option Nat}{x:Nat}{am:Int}{fl:List Int}:∀ k,(∀ i,i<k→cn cm (itr (bc N cm) i x)<fl.length)→fn ((wyL N cm x k).foldl (st1 N am) fl)=fs N cm x am (fn fl) k
 | 0,_=>rfl
 | k + 1,h=>by
  have ih:=ziJ (N:=N) (cm:=cm) (x:=x) (am:=am) (fl:=fl) k fun i hi=>h i (by omega)
  have l:=ze4 N am (wyL N cm x k) fl
  rw[ze3,List.foldl_append]
  show fn (st1 N am ((wyL N cm x k).foldl (st1 N am) fl) (cn cm (itr (bc N cm) k x),((itr (bc N cm) k x:Nat):Int)))=up (fs N cm x am (fn fl) k) _ _
  have hk:=h k (by omega)
  rw[← l] at hk
  rw[← ih]
  generalize (wyL N cm x k).foldl (st1 N am) fl=g at hk ⊢
  unfold st1
  show fn (g.set (cn cm (itr (bc N cm) k x)) _)=_
  rw[zdu hk]
  have e:(if ((N.ot (cn cm (itr (bc N cm) k x)):Nat):Int)=((itr (bc N cm) k x:Nat):Int) then am else 0 - am)=if N.ot (cn cm (itr (bc N cm) k x))=itr (bc N cm) k x then am else 0 - am:=by
   by_cases z:N.ot (cn cm (itr (bc N cm) k x))=itr (bc N cm) k x
   ·rw[if_pos z,if_pos (by rw[z])]
   ·rw[if_neg z,if_neg (show ¬ ((N.ot (cn cm (itr (bc N cm) k x)):Nat):Int)=((itr (bc N cm) k x:Nat):Int) by omega)]
  show up _ _ (_ + (if ((N.ot (cn cm (itr (bc N cm) k x)):Nat):Int)=((itr (bc N cm) k x:Nat):Int) then am else 0 - am))=_
  rw[e]
theorem zkj {nd:List Int}{s e:Nat}{am:Int} (hs:s<nd.length) (he:e<nd.length) (p:Nat):fn (ndS nd s e am) p=fn nd p + (if s=p then am else 0) - (if e=p then am else 0):=by
 unfold ndS
 rw[zdu (by rw[List.length_set];exact he),zdu hs]
 by_cases c1:p=e
 ·subst c1
  rw[zal,if_pos rfl]
  by_cases c2:p=s
  ·subst c2
   rw[zal,if_pos rfl]
  ·rw[zaz _ _ c2,if_neg (Ne.symm c2)]
   omega
 ·rw[zaz _ _ c1,if_neg (Ne.symm c1)]
  by_cases c2:p=s
  ·subst c2
   rw[zal,if_pos rfl]
   omega
  ·rw[zaz _ _ c2,if_neg (Ne.symm c2)]
   omega
theorem Snd.keeps {ws:List Wt}{c:Nat}{P fl nd:List Int}{wgt:Nat→Int} (ok:(wn ws c).Ok) (hpc:P.length=c) (hfl:fl.length=ws.length) (hnc:nd.length=c) (ti:Ti (wn ws c) (fn P) (fn fl)) (hnd:∀ v,v<c→fn nd v=bal (wn ws c) wgt v - bal (wn ws c) (fn fl) v)
  {j x:Nat}{far cm:Kvs}{wt:Nat→Option Int}{rk:Nat→Nat}{size k:Nat}{am D:Int} (sr:zlU ws c P fl nd j x far cm) (wff:Wf far) (se:Se (wn ws c) (fn P) (fn fl) (fn nd) (gI far) wt (cI cm) rk size (fun q _ _=>q≠x∧gI far q≠none)) (gx:gI far x=some D) (mx:∀ q b,gI far q=some b→b≤D) (wl:∀ q b,wt q=some b→D≤b)
  (cn0:cI cm (itr (bc (wn ws c) (cI cm)) k x)=none) (cs:∀ i,i<k→(cI cm (itr (bc (wn ws c) (cI cm)) i x)).isSome=true)
  (hm:am∈amL (wn ws c) (fn fl) (fn nd) (wyL (wn ws c) (cI cm) x k) x (itr (bc (wn ws c) (cI cm)) k x)) (hle:∀ y∈amL (wn ws c) (fn fl) (fn nd) (wyL (wn ws c) (cI cm) x k) x (itr (bc (wn ws c) (cI cm)) k x),am≤y) :
  Ti (wn ws c) (fn (far.foldl (mv1 D) P)) (fn ((wyL (wn ws c) (cI cm) x k).foldl (st1 (wn ws c) am) fl)) ∧
  (∀ v,v<c→fn (ndS nd (itr (bc (wn ws c) (cI cm)) k x) x am) v=bal (wn ws c) wgt v - bal (wn ws c) (fn ((wyL (wn ws c) (cI cm) x k).foldl (st1 (wn ws c) am) fl)) v) ∧
  zhh (wn ws c) (fn (ndS nd (itr (bc (wn ws c) (cI cm)) k x) x am))<zhh (wn ws c) (fn nd):=by
 obtain⟨nn,nodup⟩:=sr.nn
 have xc:x<c:=(se.nn x D (.inl gx)).2
 obtain⟨as,fs0⟩:=se.way gx k
 have sc:itr (bc (wn ws c) (cI cm)) k x<c:=(se.nn _ _ (.inl fs0)).2
 have neg:=se.root fs0 cn0
 have stp:∀ i,i<k→∃ d b a,Arc (wn ws c) (fn P) (fn fl) (ac (wn ws c) (cn (cI cm) (itr (bc (wn ws c) (cI cm)) i x)) (itr (bc (wn ws c) (cI cm)) i x)) (itr (bc (wn ws c) (cI cm)) i x) (cn (cI cm) (itr (bc (wn ws c) (cI cm)) i x)) d∧gI far (ac (wn ws c) (cn (cI cm) (itr (bc (wn ws c) (cI cm)) i x)) (itr (bc (wn ws c) (cI cm)) i x))=some b∧a=b + d∧ac (wn ws c) (cn (cI cm) (itr (bc (wn ws c) (cI cm)) i x)) (itr (bc (wn ws c) (cI cm)) i x)≠itr (bc (wn ws c) (cI cm)) i x:=fun i hi=>by
  obtain⟨a,ea⟩:=se.way gx i
  obtain⟨d,b,A,fb,e,ne,_⟩:=se.back ea (zbs (cs i hi))
  exact⟨d,b,a,A,fb,e,ne⟩
 have lt:∀ i,i<k→cn (cI cm) (itr (bc (wn ws c) (cI cm)) i x)<fl.length:=fun i hi=>by
  obtain⟨d,b,a,A,_⟩:=stp i hi
  rw[hfl]
  exact A.1
 have mem:∀ i,i<k→(wn ws c).on (cn (cI cm) (itr (bc (wn ws c) (cI cm)) i x))=itr (bc (wn ws c) (cI cm)) i x→am≤fn fl (cn (cI cm) (itr (bc (wn ws c) (cI cm)) i x)):=fun i hi e=>by
  refine hle _ (List.mem_cons_of_mem _ (List.mem_cons_of_mem _ (List.mem_map.mpr ⟨(cn (cI cm) (itr (bc (wn ws c) (cI cm)) i x),((itr (bc (wn ws c) (cI cm)) i x:Nat):Int)),List.mem_filter.mpr ⟨?_,decide_eq_true (by rw[e])⟩,rfl⟩)))
  unfold wyL
  exact List.mem_map.mpr ⟨i,List.mem_range.mpr hi,rfl⟩
 have am1:am≤fn nd x:=hle _ List.mem_cons_self
 have am2:am≤0 - fn nd (itr (bc (wn ws c) (cI cm)) k x):=hle _ (List.mem_cons_of_mem _ List.mem_cons_self)
 have ampos:0<am:=by
  unfold amL at hm
  rcases List.mem_cons.mp hm with z|z
  ·rw[z]
   exact sr.pos
  ·rcases List.mem_cons.mp z with z|z
   ·rw[z]
    omega
   ·obtain⟨⟨n,d⟩,h1,h2⟩:=List.mem_map.mp z
    obtain⟨h1,h3⟩:=List.mem_filter.mp h1
    unfold wyL at h1
    obtain⟨i,hi,e⟩:=List.mem_map.mp h1
    cases e
    obtain⟨d,b,a,A,_,_,ne⟩:=stp i (List.mem_range.mp hi)
    have on:(wn ws c).on (cn (cI cm) (itr (bc (wn ws c) (cI cm)) i x))=itr (bc (wn ws c) (cI cm)) i x:=Int.ofNat.inj (of_decide_eq_true h3)
    obtain⟨_,⟨p1,p2,_⟩|⟨_,_,p3,_⟩⟩:=A
    ·exact absurd (p1.symm.trans on) ne
    ·rw[← h2]
     exact p3
 have ti2:=se.moved ti gx mx wl
 have ti3:=se.sent_ti gx ti2 (Int.le_of_lt ampos) k cs mem
 have efl:=ziJ (am:=am) (fl:=fl) k lt
 refine⟨?_,fun v hv=>?_,ziw sc xc ampos am1 am2 fun p hp=>?_⟩
 ·rw[efl,ziG D far P wff nodup (fun v b e=>by rw[hpc];exact(se.nn v b (.inl e)).2)]
  exact ti3
 ·rw[efl,se.sent_bal gx v k cs,zkj (by omega) (by omega),hnd v hv]
  omega
 ·exact zkj (by omega) (by omega) p
end K21
namespace K21
open PySem L2
section
variable {P:Program}{w:World}{K:PySem.W.Frag}{mg:Str→Option Value}{base:Heap}{a:Adr}
def spOnce (t:Adr):Sp:=fun vs H Q _=>∃ q r ws c p fl nd wgt,∃ k0:Nat,vs=[.ref q]∧zcH t.Layout H q r ws c∧H r.p=some (.lst ((p:List Int).map V.int))∧p.length=c∧H r.f=some (.lst ((fl:List Int).map V.int))∧fl.length=ws.length∧H r.n=some (.lst ((nd:List Int).map V.int))∧nd.length=c∧(wn ws c).Ok∧ws.length≤200∧c≤200 ∧
 Ti (wn ws c) (fn p) (fn fl)∧(∀ n,n<ws.length→0≤wgt n)∧(∀ v,v<c→fn nd v=bal (wn ws c) wgt v - bal (wn ws c) (fn fl) v)∧k0<c∧0<fn nd k0∧H t.tb_search=some (.tbl zb7 zb8) ∧
 ∀ p' fl' nd' H',Kx [r.p,r.f,r.n] H H'→H' r.p=some (.lst ((p':List Int).map V.int))→H' r.f=some (.lst ((fl':List Int).map V.int))→H' r.n=some (.lst ((nd':List Int).map V.int))→Snd ws c (p,fl,nd) (p',fl',nd') →
  p'.length=c→fl'.length=ws.length→nd'.length=c→Ti (wn ws c) (fn p') (fn fl')→(∀ v,v<c→fn nd' v=bal (wn ws c) wgt v - bal (wn ws c) (fn fl') v)→zhh (wn ws c) (fn nd')<zhh (wn ws c) (fn nd)→Q .non H'
set_option maxHeartbeats 4000000 in
theorem zlr (T:Tx K mg a):Cal P w K mg base CX0 5 "send_once" ["layout"] [] (spOnce a):=T.d_send_once.cal fun f fd F=>by
 have c_search:=ziE (P:=P) (w:=w) (base:=base) T
 have c_way_back:=ok_way (P:=P) (w:=w) (base:=base) T
 have c_send_along:=zjC (P:=P) (w:=w) (base:=base) T
 refine F.ok zbk (fun vs H Q E h=>?_) (fun cdv A outer s H vs Q E hr h=>?_)
 ·obtain⟨q,r,ws,c,p,fl,nd,wgt,k0,rfl,_⟩:=h
  rfl
 ·obtain⟨q,r,ws,c,p,fl,nd,wgt,k0,rfl,L,hp,hpc,hf,hfl,hn,hnc,ok,hw,hc2,ti,hwg,hnd,hk0,pos0,htb,k⟩:=h
  refine⟨_,(zad (zam (i:=1) zbk.nd rfl (by first|exact Or.inl rfl|exact Or.inr rfl) zc7)
   (zad (zam (i:=2) zbk.nd rfl (by first|exact Or.inl rfl|exact Or.inr rfl) zc7)
   (zad (zam (i:=3) zbk.nd rfl (by first|exact Or.inl rfl|exact Or.inr rfl) (zaK c_search (hr.mono (by decide)) rfl (zab (pv 0) (zab (pv 1) (zab (pv 2) zah)))))
   (zad (zce PassesOwn.never rfl (zkW (pe_bm0 PySem.F.plainAttrs_dict PySem.F.slot_dict_items PySem.F.type_dict_items zjo (pv 1))) (zcZ rfl (zar (zak (i:=4) zbk.nd rfl (by first|exact Or.inl rfl|exact Or.inr rfl)) (zar (zak (i:=5) zbk.nd rfl (by first|exact Or.inl rfl|exact Or.inr rfl)) zbm))) (zai (zcO (zaJ (pv 0) rfl) (pv 4) zcb (zaC zbC (zbZ (zb1 hr) (pv 1) (pv 3) (fun _ _=>rfl)) (pv 5)) zff zca)))
   (zai (zbX (zaK c_send_along (hr.mono (by decide)) rfl (zab (pv 0) (zab (zaK c_way_back (hr.mono (by decide)) rfl (zab (pv 0) (zab (pv 2) (zab (pv 3) zah)))) (zab (pv 3) zah)))))))))),?_⟩
  refine fun fA nfA=>?_
  have s1:zaj H (upd H fA (.dK [])):=zaj.new nfA
  have f1:upd H fA (.dK []) fA=some (.dK []):=zaa
  generalize upd H fA (.dK [])=H1 at s1 f1 ⊢
  refine fun cA ncA=>?_
  have nfc:fA≠cA:=zac f1 ncA
  have s2:zaj H (upd H1 cA (.dK [])):=s1.trans (zaj.new ncA)
  have f2:upd H1 cA (.dK []) fA=some (.dK []):=by rw[zag nfc];exact f1
  have c2:upd H1 cA (.dK []) cA=some (.dK []):=zaa
  have ncH:H cA=none:=none_of s1 ncA
  generalize upd H1 cA (.dK [])=H2 at s2 f2 c2 ⊢
  refine⟨_,rfl,_,rfl,_,rfl,q,r,ws,c,p,fl,nd,fA,cA,wgt,k0,rfl,L.same s2,s2 _ _ hp,hpc,s2 _ _ hf,hfl,s2 _ _ hn,hnc,ok,hw,hc2,f2,c2,nfc,ti,hwg,hnd,hk0,pos0,s2 _ _ htb,fun j x far cm H3 kx3 sr hf3 hc3 wff wfc lf lc hse=>?_⟩
  obtain⟨wt,rk,size,D,hsz,se,gx,mx,wl⟩:=hse
  obtain⟨nn,nodup⟩:=sr.nn
  have kH3:Kx [r.p] H H3:=fun b o e _=>kx3 b o (s2 b o e) fun y=>by
   rcases List.mem_cons.mp y with y|y
   ·rw[y,nfA] at e
    cases e
   ·rw[List.mem_singleton.mp y,ncH] at e
    cases e
  have p3:H3 r.p=some (.lst (p.map V.int)):=kx3 _ _ (s2 _ _ hp) fun y=>by
   rcases List.mem_cons.mp y with y|y
   ·rw[y,nfA] at hp
    cases hp
   ·rw[List.mem_singleton.mp y,ncH] at hp
    cases hp
  refine⟨_,rfl,.inr (.inr (.inl ⟨rfl,.inl ⟨_,hf3⟩⟩)),fA,far,rfl,rfl,hf3,fun vw nvw=>⟨vw,fA,far,rfl,zaa,by rw[zag (zac hf3 nvw)];exact hf3,fun o=>?_⟩⟩
  have nvp:r.p≠vw:=zac p3 nvw
  have nfp:r.p≠fA:=zgS p3 hf3 (by intro z;cases z)
  have nvf:fA≠vw:=zac hf3 nvw
  have nvc:cA≠vw:=zac hc3 nvw
  have f4:upd (upd H3 vw (zfz vw fA)) fA (.frz o (.dK far)) fA=some (.frz o (.dK far)):=zaa
  have p4:upd (upd H3 vw (zfz vw fA)) fA (.frz o (.dK far)) r.p=some (.lst (p.map V.int)):=by rw[zag nfp,zag nvp];exact p3
  have c4:upd (upd H3 vw (zfz vw fA)) fA (.frz o (.dK far)) cA=some (.dK cm):=by rw[zag (Ne.symm nfc),zag nvc];exact hc3
  have kH4:Kx [r.p] H (upd (upd H3 vw (zfz vw fA)) fA (.frz o (.dK far))):=fun b u e z=>by
   have e3:=kH3 b u e z
   rw[zag (fun y=>by rw[y,nfA] at e;cases e),zag (zac e3 nvw)]
   exact e3
  generalize upd (upd H3 vw (zfz vw fA)) fA (.frz o (.dK far))=H4 at f4 p4 c4 kH4 ⊢
  have lay:∀ G,Kx [r.p] H4 G→zcH a.Layout G q r ws c:=fun G kx=>L.kx (kH4.trans kx) fun y hy=>.inl (List.mem_singleton.mp hy)
  have keyl:∀ v b,gI far v=some b→v<c:=fun v b e=>(se.nn v b (.inl e)).2
  refine zin (d:=fA) (o:=o) (kvs:=far) (fun i σ G=>∃ v4 v5,σ=[some (.ref q),some (.ref fA),some (.ref cA),some (.int (x:Nat)),v4,v5]∧Kx [r.p] H4 G∧G r.p=some (.lst (((far.take i).foldl (mv1 D) p).map V.int)))
   ⟨none,none,rfl,Kx.of (zaj.refl _),p4⟩ ?_ ?_ ?_
  ·rintro i σ G _ ⟨_,_,rfl,kx,_⟩
   exact kx _ _ f4 (by simp[Ne.symm nfp])
  ·rintro i key y tt σ G hy nt ⟨v4,v5,rfl,kx,hG⟩
   obtain⟨v,b,ekv⟩:=wff _ (List.mem_of_getElem? hy)
   cases ekv
   obtain⟨v',b',e1,e2⟩:=wff.has (List.mem_of_getElem? hy)
   have e1:(Sum.inl (v:Int):Key)=Sum.inl ((v':Nat):Int):=e1
   have vv:v=v':=by
    injection e1 with z
    exact Int.ofNat.inj z
   have vc:v<c:=keyl v b' (by rw[vv];exact e2)
   have s3:zaj G (upd G tt (.tup [kV (Sum.inl (v:Int)),.int b])):=zaj.new nt
   have h3:upd G tt (.tup [kV (Sum.inl (v:Int)),.int b]) tt=some (.tup [.int (v:Nat),.int b]):=zaa
   generalize upd G tt (.tup [kV (Sum.inl (v:Int)),.int b])=G3 at s3 h3 ⊢
   have kx3:Kx [r.p] H4 G3:=kx.trans (Kx.of s3)
   have LG:=lay G3 kx3
   obtain⟨dxg,exg⟩:=LG.ex
   have hG3:=s3 _ _ hG
   have ml:=zge D (far.take i) p
   have fo:(far.take (i + 1)).foldl (mv1 D) p=mv1 D ((far.take i).foldl (mv1 D) p) (Sum.inl (v:Int),V.int b):=by rw[zan hy,List.foldl_append];rfl
   rw[fo]
   generalize (far.take i).foldl (mv1 D) p=now at hG3 ml ⊢
   have vl:v<now.length:=by omega
   have fG:G3 fA=some (.frz o (.dK far)):=kx3 _ _ f4 (by simp[Ne.symm nfp])
   have sq:mv1 D now (Sum.inl (v:Int),V.int b)=now.set v (fn now v + (D - b)):=by
    unfold mv1
    show now.set ((v:Int).toNat) (fn now ((v:Int).toNat) + (D - b))=_
    rw[Int.toNat_natCast]
   rw[sq]
   refine⟨tt,_,rfl,SqT.of h3,rfl,_,_,rfl,_,_,rfl,rfl,?_⟩
   refine⟨_,rfl,q,a.Layout,dxg,_,_,rfl,exg,T.c_Layout,T.na_Layout_places,zbS,_,rfl,r.p,_,_,_,rfl,rfl,SqL.of hG3,by omega,zfN vl,?_⟩
   refine⟨_,rfl,_,rfl,fA,.int D,rfl,.inl ⟨far,Sum.inl (x:Int),.inr ⟨o,fG⟩,rfl,by rw[wff.val x,gx];rfl⟩,_,rfl,_,_,rfl,rfl,_,_,rfl,rfl,r.p,_,_,_,rfl,rfl,hG3,zdr (by omega) (by rw[List.length_map];omega),?_⟩
   rw[Int.toNat_natCast,← List.map_set]
   exact⟨_,_,rfl,kx3.trans (Kx.upd (by simp)),zaa⟩
  ·rintro σ G ⟨v4,v5,rfl,kx,hG⟩
   rw[List.take_length] at hG
   have kHG:Kx [r.p] H G:=kH4.trans kx
   have ncp:cA≠r.p:=zgS c4 p4 (by intro z;cases z)
   have cG:G cA=some (.dK cm):=kx _ _ c4 (by simp[ncp])
   have LG:=lay G kx
   have way:∀ i,(cI cm (itr (bc (wn ws c) (cI cm)) i x)).isSome=true→cn (cI cm) (itr (bc (wn ws c) (cI cm)) i x)<ws.length∧rk (itr (bc (wn ws c) (cI cm)) (i + 1) x)<rk (itr (bc (wn ws c) (cI cm)) i x):=fun i hi=>by
    obtain⟨a1,ea⟩:=se.way gx i
    obtain⟨d,b,A,_⟩:=se.back ea (zbs hi)
    exact⟨A.1,se.falls gx hi⟩
   have rkx:rk x<size:=se.rk x D gx
   refine⟨_,rfl,_,rfl,_,rfl,_,rfl,q,r,ws,c,cA,cm,rk,x,rfl,LG,cG,wfc,nn,way,by omega,fun kk g xs H5 s5 ng hg hds cn0 cs hkk=>?_⟩
   have xc:x<c:=(se.nn x D (.inl gx)).2
   obtain⟨as,fs0⟩:=se.way gx kk
   have sc:itr (bc (wn ws c) (cI cm)) kk x<c:=(se.nn _ _ (.inl fs0)).2
   have kpos:0<kk:=by
    rcases Nat.eq_zero_or_pos kk with z|z
    ·subst z
     have:=se.root gx cn0
     have:=sr.pos
     omega
    ·exact z
   obtain⟨k',rfl⟩:∃ k',kk=k' + 1:=⟨kk - 1,by omega⟩
   have fG:G r.f=some (.lst (fl.map V.int)):=kHG _ _ hf (by simp[Ne.symm L.pf])
   have nG:G r.n=some (.lst (nd.map V.int)):=kHG _ _ hn (by simp[Ne.symm L.pn])
   have f5:=s5 _ _ fG
   have n5:=s5 _ _ nG
   have stl:itr (bc (wn ws c) (cI cm)) (k' + 1) x=ac (wn ws c) (cn (cI cm) (itr (bc (wn ws c) (cI cm)) k' x)) (itr (bc (wn ws c) (cI cm)) k' x):=zdk (zbs (cs k' (by omega)))
   have keeps:=fun(am:Int)=>Snd.keeps (am:=am) ok hpc hfl hnc ti hnd sr wff se gx mx wl cn0 cs
   have snd:=fun(am:Int) (hm:am∈amL (wn ws c) (fn fl) (fn nd) (wyL (wn ws c) (cI cm) x (k' + 1)) x (itr (bc (wn ws c) (cI cm)) (k' + 1) x)) hle=>(⟨j,x,far,cm,k' + 1,am,D,sr,gx,cn0,cs,hm,hle,rfl⟩:Snd ws c (p,fl,nd) _)
   rw[stl] at keeps snd sc
   refine⟨_,rfl,q,r,ws,c,fl,nd,g,wyL (wn ws c) (cI cm) x (k' + 1),xs,x,cn (cI cm) (itr (bc (wn ws c) (cI cm)) k' x),itr (bc (wn ws c) (cI cm)) k' x,rfl,LG.same s5,f5,hfl,n5,hnc,hg,Ne.symm (zac fG ng),Ne.symm (zac nG ng),hds,by rw[zgf];exact hkk,fun y hy=>?_,?_,xc,sc,fun am H6 hm hle kx6 f6 n6=>?_⟩
   ·unfold wyL at hy
    obtain⟨i,hi,rfl⟩:=List.mem_map.mp hy
    exact(way i (cs i (List.mem_range.mp hi))).1
   ·rw[zgf,ze3,show k' + 1 - 1=k' by omega]
    have l:=zgf (wn ws c) (cI cm) x k'
    rw[List.getElem?_append_right (by omega),l,Nat.sub_self]
    rfl
   ·obtain⟨t1,t2,t3⟩:=keeps am hm hle
    have kx7:Kx [r.p,r.f,r.n] H H6:=((kHG.mono (by simp)).trans (Kx.of s5)).trans (kx6.mono (by simp))
    refine k _ _ _ H6 kx7 (kx6 _ _ (s5 _ _ hG) (by simp[L.pf,L.pn])) f6 n6 (snd am hm hle) (by rw[zge];exact hpc) (by rw[ze4];exact hfl) ?_ t1 t2 t3
    unfold ndS
    rw[List.length_set,List.length_set]
    exact hnc
end
end K21
namespace K21
open PySem L2
abbrev Wi:=Int×Int×Int×Int
def wV (q:Wi):List V:=[.int q.1,.int q.2.1,.int q.2.2.1,.int q.2.2.2]
def wD (q:Wi):Dt:=.tup [.int q.1,.int q.2.1,.int q.2.2.1,.int q.2.2.2]
section
variable {K:PySem.W.Frag}
theorem dt_w {H:Hp}{t:Addr}{q:Wi} (h:SqT K H t (wV q)):DtV K H (wD q) (.ref t):=⟨t,_,rfl,h,_,_,rfl,rfl,_,_,rfl,rfl,_,_,rfl,rfl,_,_,rfl,rfl,rfl⟩
theorem zfa {H:Hp}{x:V}{q:Wi} (h:DtV K H (wD q) x):∃ t,x=.ref t∧SqT K H t (wV q):=by
 obtain⟨t,xs,rfl,h1,y1,ys1,rfl,rfl,y2,ys2,rfl,rfl,y3,ys3,rfl,rfl,y4,ys4,rfl,rfl,h2⟩:=h
 rw[show ys4=[] from h2] at h1
 exact⟨t,rfl,h1⟩
theorem deep_w {n:Nat} (q:Wi):zdb (n + 1) (wD q):=by cases n <;> exact⟨trivial,trivial,trivial,trivial,trivial⟩
def zhj (K:PySem.W.Frag) (H:Hp) (l:Addr) (ws:List Wi):Prop:=∃ xs,SqL K H l xs∧zb4 K H (ws.map wD) xs
theorem zhj.same {H H':Hp}{l:Addr}{ws:List Wi} (h:zhj K H l ws) (s:zaj H H'):zhj K H' l ws:=by
 obtain⟨xs,h1,h2⟩:=h
 exact⟨xs,s.sqL h1,s.dts h2⟩
end
def diff (ps:List Int) (q:Wi):Int:=pz ps q.2.1 - pz ps q.1
def keep (ps:List Int) (q:Wi):Bool:=decide (q.2.2.1≤diff ps q)
def InR (n:Nat) (q:Wi):Prop:=(0≤q.1∧q.1<n)∧0≤q.2.1∧q.2.1<n
def zha (z:Int):Prop:=-(2 ^ 64)<z∧z<2 ^ 64
end K21
namespace K21
open PySem L2
def zcI (ls:List Int) (p:Wi×Int):List Int:=(ls.set p.1.2.1.toNat (pz ls p.1.2.1 + p.2)).set p.1.1.toNat (pz (ls.set p.1.2.1.toNat (pz ls p.1.2.1 + p.2)) p.1.1 - p.2)
def zfQ (n:Nat) (ws:List Wi) (am:List Int):List Int:=(ws.zip am).foldl zcI (List.replicate n 0)
theorem ziK (ls:List Int) (p:Wi×Int):(zcI ls p).length=ls.length:=by
 unfold zcI
 rw[List.length_set,List.length_set]
theorem zdE:∀ (ps:List (Wi×Int)) (ls:List Int),(ps.foldl zcI ls).length=ls.length
 | [],_=>rfl
 | p::ps,ls=>by
  show(ps.foldl zcI (zcI ls p)).length=_
  rw[zdE ps,ziK]
theorem zjD (n:Nat) (ws:List Wi) (am:List Int):(zfQ n ws am).length=n:=by
 unfold zfQ
 rw[zdE,List.length_replicate]
theorem zip_at {ws:List Wi}{am:List Int}{i:Nat}{q:Wi}{x:Int} (h1:ws[i]?=some q) (h2:am[i]?=some x):(ws.zip am)[i]?=some (q,x):=by
 rw[List.getElem?_zip_eq_some]
 exact⟨h1,h2⟩
theorem zby {am:List Int}{i:Nat}{x:V} (h:(am.map V.int)[i]?=some x):∃ z,am[i]?=some z∧x=.int z:=by
 obtain⟨z,hz,rfl⟩:=Option.map_eq_some_iff.mp ((List.getElem?_map (f:=V.int) (l:=am) (i:=i)).symm.trans h)
 exact⟨z,hz,rfl⟩
theorem getZ {ls:List Int}{k:Int} (h0:0≤k) (h1:k<ls.length):(ls.map V.int)[k.toNat]?=some (.int (pz ls k)):=by
 rw[← zch h0]
 exact at_pz h0 h1
theorem zdF (n:Nat):(List.replicate n [V.int 0]).flatten=(List.replicate n (0:Int)).map V.int:=by
 induction n with
 | zero=>rfl
 | succ n ih=>
  rw[List.replicate_succ,List.flatten_cons,ih,List.replicate_succ,List.map_cons]
  rfl
section
variable {P:Program}{w:World}{K:PySem.W.Frag}{mg:Str→Option Value}{base:Heap}{a:Adr}
def spLeft (K:PySem.W.Frag):Sp:=fun vs H Q _=>∃ n l ws p am,vs=[.int n,.ref l,.ref p]∧zhj K H l ws∧SqL K H p ((am:List Int).map V.int)∧am.length=ws.length∧0≤n∧n≤1000∧(∀ q∈ws,InR n.toNat q) ∧
 ∀ r H',zaj H H'→H r=none→H' r=some (.lst ((zfQ n.toNat ws am).map V.int))→Q (.ref r) H'
theorem zls (T:Tx K mg a):Cal P w K mg base CX0 1 "left_at_points" ["count","wishes","amounts"] [] (spLeft K):=T.d_left_at_points.cal fun f fd F=>by
 refine F.ok zba (fun vs H Q E h=>?_) (fun cdv A outer s H vs Q E hr h=>?_)
 ·obtain⟨n,l,ws,p,am,rfl,_⟩:=h
  rfl
 ·obtain⟨n,l,ws,p,am,rfl,⟨xs,hl,hd⟩,hp,hlen,n0,n1,hin,k⟩:=h
  have hwl:ws.length=xs.length:=by rw[← hd.length,List.length_map]
  refine⟨_,(zad (zam (i:=3) zba.nd rfl (by first|exact Or.inl rfl|exact Or.inr rfl) (zaC zgn (zcg (zab zaf zah)) (pv 0)))
   (zad (zce PassesOwn.never rfl (zep rfl T.n_zip (zab (pv 1) (zab (pv 2) zah))) (zcZ rfl (zar (zak (i:=4) zba.nd rfl (by first|exact Or.inl rfl|exact Or.inr rfl)) (zar (zak (i:=5) zba.nd rfl (by first|exact Or.inl rfl|exact Or.inr rfl)) zbm))) (zad (zcO (pv 3) (zas zbn (pv 4) zaf (fun _ _=>rfl)) zcb (pv 5) zff zca)
   (zai (zcO (pv 3) (zas zbn (pv 4) zaf (fun _ _=>rfl)) zcb (pv 5) zjU zca))))
   (zai (zaH (pv 3))))),?_⟩
  refine⟨(by show 1≤sizeLine;decide),fun z nz=>⟨_,rfl,z,n,_,rfl,rfl,zaa,by omega,by omega,(by rw[sizeLine_eq];show 1 * n.toNat≤_;omega),fun D nD=>?_⟩⟩
  rw[zdF]
  have s1:zaj H (upd (upd H z (.lst [V.int 0])) D (.lst ((List.replicate n.toNat (0:Int)).map V.int))):=(zaj.new nz).trans (zaj.new nD)
  have h1:upd (upd H z (.lst [V.int 0])) D (.lst ((List.replicate n.toNat (0:Int)).map V.int)) D=some (.lst ((List.replicate n.toNat (0:Int)).map V.int)):=zaa
  have hDn:H D=none:=by
   have:=nD
   rw[zag (fun e=>by rw[e,zaa] at this;cases this)] at this
   exact this
  generalize upd (upd H z (.lst [V.int 0])) D (.lst ((List.replicate n.toNat (0:Int)).map V.int))=H1 at s1 h1 ⊢
  have ex:xs.length=(am.map V.int).length:=by rw[List.length_map,hlen,hwl]
  refine⟨_,rfl,_,rfl,l,p,rfl,⟨_,s1.sqL hl⟩,⟨_,s1.sqL hp⟩,zh8 (K:=K) (l1:=l) (l2:=p) (xs:=xs) (ys:=am.map V.int) ex (fun i σ H'=>∃ v4 v5,σ=[some (.int n),some (.ref l),some (.ref p),some (.ref D),v4,v5]∧zaj H H'∧H' D=some (.lst ((((ws.zip am).take i).foldl zcI (List.replicate n.toNat 0)).map V.int)))
   ⟨none,none,rfl,s1,h1⟩ ?_ ?_ ?_⟩
  ·rintro i σ H' _ ⟨v4,v5,rfl,sm,_⟩
   exact⟨sm.sqL hl,sm.sqL hp⟩
  ·rintro i x y t σ H' hx hy nt ⟨v4,v5,rfl,sm,hD⟩
   obtain⟨q,hq,dq⟩:=zaR hd hx
   obtain⟨c,rfl,hc⟩:=zfa (sm.dt dq)
   obtain⟨y,hy',rfl⟩:=zby hy
   obtain⟨⟨i1,i2⟩,i3,i4⟩:=hin q (List.mem_of_getElem? hq)
   have s2:zaj H' (upd H' t (.tup [.ref c,.int y])):=zaj.new nt
   have h2t:upd H' t (.tup [.ref c,.int y]) t=some (.tup [.ref c,.int y]):=zaa
   generalize upd H' t (.tup [.ref c,.int y])=H2 at s2 h2t ⊢
   have hD2:=s2 _ _ hD
   have hc2:=s2.sqT hc
   rw[zan (zip_at hq hy'),List.foldl_append]
   have hll:(((ws.zip am).take i).foldl zcI (List.replicate n.toNat 0)).length=n.toNat:=by rw[zdE,List.length_replicate]
   generalize ((ws.zip am).take i).foldl zcI (List.replicate n.toNat 0)=ls at hD2 hll ⊢
   have j3:q.2.1<(ls.length:Int):=by rw[hll];exact i4
   have j1:q.1<((ls.set q.2.1.toNat (pz ls q.2.1 + y)).length:Int):=by rw[List.length_set,hll];exact i2
   refine⟨t,_,rfl,SqT.of h2t,rfl,_,_,rfl,_,_,rfl,rfl,?_⟩
   refine⟨_,rfl,_,rfl,c,_,_,_,rfl,rfl,hc2,rfl,D,_,_,_,rfl,rfl,SqL.of hD2,i3,getZ i3 j3,_,rfl,_,_,rfl,rfl,D,_,_,_,rfl,rfl,hD2,zdr i3 (by rw[List.length_map];exact j3),?_⟩
   rw[← List.map_set]
   have tk:Tk H2 (upd H2 D (.lst ((ls.set q.2.1.toNat (pz ls q.2.1 + y)).map V.int))):=Tk.upd hD2 rfl
   have h3:upd H2 D (.lst ((ls.set q.2.1.toNat (pz ls q.2.1 + y)).map V.int)) D=some (.lst ((ls.set q.2.1.toNat (pz ls q.2.1 + y)).map V.int)):=zaa
   have o3:∀ b u,H b=some u→upd H2 D (.lst ((ls.set q.2.1.toNat (pz ls q.2.1 + y)).map V.int)) b=some u:=fun b u e=>by
    rw[zag (zac e hDn)]
    exact s2 _ _ (sm b u e)
   generalize upd H2 D (.lst ((ls.set q.2.1.toNat (pz ls q.2.1 + y)).map V.int))=H3 at tk h3 o3 ⊢
   refine⟨_,rfl,_,rfl,c,_,_,_,rfl,rfl,tk.sqT hc2,rfl,D,_,_,_,rfl,rfl,SqL.of h3,i1,getZ i1 j1,_,rfl,_,_,rfl,rfl,D,_,_,_,rfl,rfl,h3,zdr i1 (by rw[List.length_map];exact j1),?_⟩
   rw[← List.map_set]
   refine⟨_,_,rfl,fun b u e=>?_,zaa⟩
   rw[zag (zac e hDn)]
   exact o3 b u e
  ·rintro σ H' ⟨v4,v5,rfl,sm,hD⟩
   rw[List.take_of_length_le (by rw[List.length_zip];omega)] at hD
   exact⟨_,rfl,k D H' sm hDn hD⟩
def ziL (K:PySem.W.Frag):Sp:=fun vs H Q _=>∃ l ws,vs=[.ref l]∧zhj K H l ws∧ws.length≤1000∧∀ r H',zaj H H'→H r=none→H' r=some (.lst ((ws.map fun q=>q.2.2.2).map V.int))→Q (.ref r) H'
theorem zhb (T:Tx K mg a):Cal P w K mg base CX0 1 "weights_of" ["wishes"] [] (ziL K):=T.d_weights_of.cal fun f fd F=>by
 refine F.ok zeT (fun vs H Q E h=>?_) (fun cdv A outer s H vs Q E hr h=>?_)
 ·obtain⟨l,ws,rfl,_⟩:=h
  rfl
 ·obtain⟨l,ws,rfl,⟨xs,hl,hd⟩,hk,k⟩:=h
  have hwl:ws.length=xs.length:=by rw[← hd.length,List.length_map]
  refine⟨_,(zai (zaH (zaN (N:=["one","other","least","weight"]) (cap:=[none,none,none,none]) rfl (zaT (osc:=zae zbi) (XN:=["wishes"]) rfl rfl (by decide +kernel)) (zaF (pv 0)) (fun cl C s H fp pins=>(zdj (K:=K) (n:=4) rfl rfl (zar (zak (i:=0) (show(["one","other","least","weight"]:List Str).Nodup by decide +kernel) rfl (by first|exact Or.inl rfl|exact Or.inr rfl)) (zar (zak (i:=1) (show(["one","other","least","weight"]:List Str).Nodup by decide +kernel) rfl (by first|exact Or.inl rfl|exact Or.inr rfl)) (zar (zak (i:=2) (show(["one","other","least","weight"]:List Str).Nodup by decide +kernel) rfl (by first|exact Or.inl rfl|exact Or.inr rfl)) (zar (zak (i:=3) (show(["one","other","least","weight"]:List Str).Nodup by decide +kernel) rfl (by first|exact Or.inl rfl|exact Or.inr rfl)) zbm)))))) (fun cl C s H fp pins=>zaW) (fun cl C s H fp pins=>(pv 3))))),?_⟩
  refine⟨_,rfl,l,rfl,⟨_,hl⟩,fun D hD=>?_⟩
  refine zax (K:=K) (a:=l) (xs:=xs) (fun i τ H'=>∃ v1 v2 v3 v4,τ=[v1,v2,v3,v4]∧zaj H H'∧H' D=some (.lst (((ws.take i).map fun q=>q.2.2.2).map V.int))) ⟨none,none,none,none,rfl,zaj.new hD,zaa⟩ ?_ ?_ ?_
  ·rintro i τ H' _ ⟨v1,v2,v3,v4,rfl,sm,hy⟩
   exact sm.sqL hl
  ·rintro i x τ H' hx ⟨v1,v2,v3,v4,rfl,sm,hy⟩
   obtain⟨q,hq,dq⟩:=zaR hd hx
   obtain⟨t,rfl,h1⟩:=zfa (sm.dt dq)
   refine⟨t,_,rfl,h1,rfl,_,_,rfl,_,_,rfl,_,_,rfl,_,_,rfl,rfl,?_⟩
   dsimp only[zd7]
   rw[if_pos rfl]
   refine⟨_,rfl,_,hy,?_,_,_,_,_,rfl,?_,?_⟩
   ·rw[List.length_map,List.length_map,List.length_take,sizeLine_eq]
    omega
   ·intro b u e
    rw[zag (zac e hD)]
    exact sm b u e
   ·rw[zaa,zan hq,List.map_append,List.map_append]
    rfl
  ·rintro τ H' ⟨v1,v2,v3,v4,rfl,sm,hy⟩
   rw[← hwl,List.take_length] at hy
   exact k D H' sm hD hy
end
end K21
namespace K21
open PySem L2
theorem ziM {α:Type}{i:Nat}{b:α}{p:Prop} (e:([]:List α)[i]?=some b):p:=by
 rw[List.getElem?_nil] at e
 cases e
def wI (q:Wt):Wi:=((q.1:Nat),(q.2.1:Nat),q.2.2.1,q.2.2.2)
theorem Kx.lst {q b:Addr}{G G':Hp}{C:Addr}{dx:Addr}{fs:List (Str×V)}{xs:List V} (k:Kx [q] G G') (hq:G q=some (.ins C dx fs)) (h:G b=some (.lst xs)):G' b=some (.lst xs):=k _ _ h fun z=>by
 rw[List.mem_singleton.mp z,hq] at h
 cases h
theorem Kx.sq {K:PySem.W.Frag}{q l:Addr}{G G':Hp}{C:Addr}{dx:Addr}{fs:List (Str×V)}{xs:List V} (k:Kx [q] G G') (hq:G q=some (.ins C dx fs)) (h:SqL K G l xs):SqL K G' l xs:=by
 have ne:∀ o,G l=some o→(∀ C dx fs,o≠.ins C dx fs)→G' l=some o:=fun o e n=>k _ _ e fun z=>by
  rw[List.mem_singleton.mp z,hq] at e
  cases e
  exact n _ _ _ rfl
 rcases h with(h|⟨o,h⟩)|h
 ·exact .inl (.inl (ne _ h fun _ _ _ z=>by cases z))
 ·exact .inl (.inr ⟨o,ne _ h fun _ _ _ z=>by cases z⟩)
 ·exact .inr h
theorem Kx.tk {q:Addr}{G G':Hp}{C:Addr}{dx:Addr}{fs:List (Str×V)} (k:Kx [q] G G') (hq:G q=some (.ins C dx fs)):Tk G G':=fun b o e z=>k b o e fun y=>by
 rw[List.mem_singleton.mp y,hq] at e
 cases e
 cases z
theorem Kx.none {q b:Addr}{H G:Hp} (k:Kx [q] H G) (e:G b=none) (n:b≠q):H b=none:=by
 cases h:H b with
 | none=>rfl
 | some o=>
  rw[k b o h (by simp[n])] at e
  cases e
def Ls (gs:List Addr) (f:Nat→List Nat) (G:Hp):Prop:=∀ i a,gs[i]?=some a→G a=some (.lst (zbh (f i)))
theorem Ls.put {gs:List Addr}{f:Nat→List Nat}{G:Hp}{j:Nat}{a:Addr}{l:List Nat} (h:Ls gs f G) (nd:gs.Nodup) (e:gs[j]?=some a):Ls gs (up f j l) (upd G a (.lst (zbh l))):=fun i b eb=>by
 by_cases c:i=j
 ·subst c
  rw[e] at eb
  cases eb
  rw[zaa,zal]
 ·rw[zaz _ _ c,zag (fun z=>c (by
   subst z
   exact(List.getElem?_inj (List.getElem?_eq_some_iff.mp eb).1 nd).mp (eb.trans e.symm)))]
  exact h i b eb
theorem Ls.keep {gs:List Addr}{f:Nat→List Nat}{G:Hp}{a:Addr}{o:HO} (h:Ls gs f G) (n:a∉gs):Ls gs f (upd G a o):=fun i b eb=>by
 rw[zag (fun z=>n (by rw[← z];exact List.mem_of_getElem? eb))]
 exact h i b eb
def goK (ws:List Wt) (k i:Nat):List Nat:=(List.range k).filter fun n=>decide ((ws.getD n (0,0,0,0)).1=i)
def coK (ws:List Wt) (k i:Nat):List Nat:=(List.range k).filter fun n=>decide ((ws.getD n (0,0,0,0)).2.1=i)
theorem zjE (ws:List Wt) (k:Nat):goK ws (k + 1)=up (goK ws k) (ws.getD k (0,0,0,0)).1 (goK ws k (ws.getD k (0,0,0,0)).1++[k]):=by
 funext i
 unfold goK
 rw[List.range_succ,List.filter_append]
 by_cases c:i=(ws.getD k (0,0,0,0)).1
 ·rw[c,zal,List.filter_cons,if_pos (decide_eq_true rfl)]
  rfl
 ·rw[zaz _ _ c,List.filter_cons,if_neg (fun z=>c (of_decide_eq_true z).symm),List.filter_nil,List.append_nil]
theorem zjF (ws:List Wt) (k:Nat):coK ws (k + 1)=up (coK ws k) (ws.getD k (0,0,0,0)).2.1 (coK ws k (ws.getD k (0,0,0,0)).2.1++[k]):=by
 funext i
 unfold coK
 rw[List.range_succ,List.filter_append]
 by_cases c:i=(ws.getD k (0,0,0,0)).2.1
 ·rw[c,zal,List.filter_cons,if_pos (decide_eq_true rfl)]
  rfl
 ·rw[zaz _ _ c,List.filter_cons,if_neg (fun z=>c (of_decide_eq_true z).symm),List.filter_nil,List.append_nil]
theorem zlt (ws:List Wt) (k i:Nat):(goK ws k i).length≤k:=by
 have:=List.length_filter_le (fun n=>decide ((ws.getD n (0,0,0,0)).1=i)) (List.range k)
 rw[List.length_range] at this
 exact this
theorem zlu (ws:List Wt) (k i:Nat):(coK ws k i).length≤k:=by
 have:=List.length_filter_le (fun n=>decide ((ws.getD n (0,0,0,0)).2.1=i)) (List.range k)
 rw[List.length_range] at this
 exact this
theorem zjG {r:LR}:zcl "coming" (.ref r.c) (zcl "going" (.ref r.g) (zcl "needs" (.ref r.n) (zcl "flow" (.ref r.f) (zcl "places" (.ref r.p) (zcl "leasts" (.ref r.l) (zcl "others" (.ref r.t) (zcl "ones" (.ref r.o) [])))))))=zcX r:=by
 have h01:¬ (("ones":Str)="others"):=by decide +kernel
 have h02:¬ (("ones":Str)="leasts"):=by decide +kernel
 have h03:¬ (("ones":Str)="places"):=by decide +kernel
 have h04:¬ (("ones":Str)="flow"):=by decide +kernel
 have h05:¬ (("ones":Str)="needs"):=by decide +kernel
 have h06:¬ (("ones":Str)="going"):=by decide +kernel
 have h07:¬ (("ones":Str)="coming"):=by decide +kernel
 have h12:¬ (("others":Str)="leasts"):=by decide +kernel
 have h13:¬ (("others":Str)="places"):=by decide +kernel
 have h14:¬ (("others":Str)="flow"):=by decide +kernel
 have h15:¬ (("others":Str)="needs"):=by decide +kernel
 have h16:¬ (("others":Str)="going"):=by decide +kernel
 have h17:¬ (("others":Str)="coming"):=by decide +kernel
 have h23:¬ (("leasts":Str)="places"):=by decide +kernel
 have h24:¬ (("leasts":Str)="flow"):=by decide +kernel
 have h25:¬ (("leasts":Str)="needs"):=by decide +kernel
 have h26:¬ (("leasts":Str)="going"):=by decide +kernel
 have h27:¬ (("leasts":Str)="coming"):=by decide +kernel
 have h34:¬ (("places":Str)="flow"):=by decide +kernel
 have h35:¬ (("places":Str)="needs"):=by decide +kernel
 have h36:¬ (("places":Str)="going"):=by decide +kernel
 have h37:¬ (("places":Str)="coming"):=by decide +kernel
 have h45:¬ (("flow":Str)="needs"):=by decide +kernel
 have h46:¬ (("flow":Str)="going"):=by decide +kernel
 have h47:¬ (("flow":Str)="coming"):=by decide +kernel
 have h56:¬ (("needs":Str)="going"):=by decide +kernel
 have h57:¬ (("needs":Str)="coming"):=by decide +kernel
 have h67:¬ (("going":Str)="coming"):=by decide +kernel
 simp only[zcl,h01,h02,h03,h04,h05,h06,h07,h12,h13,h14,h15,h16,h17,h23,h24,h25,h26,h27,h34,h35,h36,h37,h45,h46,h47,h56,h57,h67,if_false]
 rfl
section
variable {P:Program}{w:World}{K:PySem.W.Frag}{mg:Str→Option Value}{base:Heap}{a:Adr}
def spLayI (K:PySem.W.Frag) (C:Addr):Sp:=fun vs H Q _=>∃ q dx wA ws,∃ c:Nat,vs=[.ref q,.int c,.ref wA]∧H q=some (.ins C dx [])∧zhj K H wA ((ws:List Wt).map wI)∧(∀ x∈ws,x.1<c∧x.2.1<c)∧ws.length≤1000∧c≤1000 ∧
 ∀ r H',Kx [q] H H'→zcH C H' q r ws c→H' r.p=some (.lst ((List.replicate c (0:Int)).map V.int))→H' r.f=some (.lst ((List.replicate ws.length (0:Int)).map V.int))→H' r.n=some (.lst ((List.replicate c (0:Int)).map V.int))→H r.p=none→H r.f=none→H r.n=none→Q .non H'
set_option maxHeartbeats 4000000 in
theorem zlv (T:Tx K mg a):CalI P w K mg base CX0 1 a.Layout "Layout" ["self","count","wishes"] (spLayI K a.Layout):=T.i_Layout.cal fun f fd F=>by
 refine F.ok zbq (fun vs H Q E h=>?_) (fun cdv A outer s H vs Q E hr h=>?_)
 ·obtain⟨q,dx,wA,ws,c,rfl,_⟩:=h
  rfl
 ·obtain⟨q,dx,wA,ws,c,rfl,q0,⟨xs,hl0,hd0⟩,hin,hw,hc,k⟩:=h
  have hwl:ws.length=xs.length:=by rw[← hd0.length,List.length_map,List.length_map]
  have kx0:Kx [q] H H:=Kx.of (zaj.refl _)
  refine⟨_,(zad (zcK (pv 0) (zaN (N:=["wish"]) (cap:=[none]) rfl (zaT (osc:=zae zat) (XN:=["self","count","wishes","number","wish"]) rfl rfl (by decide +kernel)) (zaF (pv 2)) (fun cl C s H fp pins=>(zak (i:=0) (show(["wish"]:List Str).Nodup by decide +kernel) rfl (by first|exact Or.inl rfl|exact Or.inr rfl))) (fun cl C s H fp pins=>zaW) (fun cl C s H fp pins=>(zas (za4 (K:=K) rfl) (pv 0) zaf (fun _ _=>rfl)))) rfl)
   (zad (zcK (pv 0) (zaN (N:=["wish"]) (cap:=[none]) rfl (zaT (osc:=zae zat) (XN:=["self","count","wishes","number","wish"]) rfl rfl (by decide +kernel)) (zaF (pv 2)) (fun cl C s H fp pins=>(zak (i:=0) (show(["wish"]:List Str).Nodup by decide +kernel) rfl (by first|exact Or.inl rfl|exact Or.inr rfl))) (fun cl C s H fp pins=>zaW) (fun cl C s H fp pins=>(zas (za4 (K:=K) rfl) (pv 0) zaf (fun _ _=>rfl)))) rfl)
   (zad (zcK (pv 0) (zaN (N:=["wish"]) (cap:=[none]) rfl (zaT (osc:=zae zat) (XN:=["self","count","wishes","number","wish"]) rfl rfl (by decide +kernel)) (zaF (pv 2)) (fun cl C s H fp pins=>(zak (i:=0) (show(["wish"]:List Str).Nodup by decide +kernel) rfl (by first|exact Or.inl rfl|exact Or.inr rfl))) (fun cl C s H fp pins=>zaW) (fun cl C s H fp pins=>(zas (za4 (K:=K) rfl) (pv 0) zaf (fun _ _=>rfl)))) rfl)
   (zad (zcK (pv 0) (zaC zgn (zcg (zab zaf zah)) (pv 1)) rfl)
   (zad (zcK (pv 0) (zaC zgn (zcg (zab zaf zah)) (zao zaS rfl T.n_len zde (zab (pv 2) zah))) rfl)
   (zad (zcK (pv 0) (zaC zgn (zcg (zab zaf zah)) (pv 1)) rfl)
   (zad (zcK (pv 0) (zaN (N:=["point"]) (cap:=[none]) rfl (zaT (osc:=zae zat) (XN:=["self","count","wishes","number","wish"]) rfl rfl (by decide +kernel)) (zdJ rfl T.n_range (zab (pv 1) zah)) (fun cl C s H fp pins=>(zak (i:=0) (show(["point"]:List Str).Nodup by decide +kernel) rfl (by first|exact Or.inl rfl|exact Or.inr rfl))) (fun cl C s H fp pins=>zaW) (fun cl C s H fp pins=>(zcg zah))) rfl)
   (zad (zcK (pv 0) (zaN (N:=["point"]) (cap:=[none]) rfl (zaT (osc:=zae zat) (XN:=["self","count","wishes","number","wish"]) rfl rfl (by decide +kernel)) (zdJ rfl T.n_range (zab (pv 1) zah)) (fun cl C s H fp pins=>(zak (i:=0) (show(["point"]:List Str).Nodup by decide +kernel) rfl (by first|exact Or.inl rfl|exact Or.inr rfl))) (fun cl C s H fp pins=>zaW) (fun cl C s H fp pins=>(zcg zah))) rfl)
   (zai (zce PassesOwn.never rfl (zcv rfl T.n_enumerate (zab (pv 2) zah)) (zcZ rfl (zar (zak (i:=3) zbq.nd rfl (by first|exact Or.inl rfl|exact Or.inr rfl)) (zar (zak (i:=4) zbq.nd rfl (by first|exact Or.inl rfl|exact Or.inr rfl)) zbm))) (zad (zbX (zg0 PySem.F.plainAttrs_list PySem.F.slot_list_append PySem.F.type_list_append zc5 (zas zav (zaJ (pv 0) rfl) (zas zbn (pv 4) zaf (fun _ _=>rfl)) (fun _ _=>rfl)) (zab (pv 3) zah)))
   (zai (zbX (zg0 PySem.F.plainAttrs_list PySem.F.slot_list_append PySem.F.type_list_append zc5 (zas zav (zaJ (pv 0) rfl) (zas zbn (pv 4) zaf (fun _ _=>rfl)) (fun _ _=>rfl)) (zab (pv 3) zah))))))))))))))),?_⟩
  refine⟨_,rfl,wA,rfl,⟨_,hl0⟩,fun oA n0=>?_⟩
  refine zax (K:=K) (a:=wA) (xs:=xs) (fun j τ G=>∃ v1,τ=[v1]∧zaj H G∧G oA=some (.lst ((ws.take j).map (fun w:Wt=>V.int (w.1:Nat))))) ⟨none,rfl,zaj.new n0,zaa⟩ ?_ ?_ ?_
  ·rintro j τ G _ ⟨v1,rfl,sg,_⟩
   exact sg.sqL hl0
  ·rintro j x τ G hx ⟨v1,rfl,sg,hG⟩
   rw[List.map_map] at hd0
   obtain⟨w0,hw0,dw⟩:=zaR hd0 hx
   obtain⟨t,rfl,ht⟩:=zfa (sg.dt dw)
   dsimp only[zbl,zd7]
   rw[if_pos rfl]
   refine⟨_,rfl,t,_,_,_,rfl,rfl,ht,rfl,_,hG,?_,_,rfl,zap n0 sg,?_⟩
   ·rw[List.length_map,List.length_take,sizeLine_eq]
    omega
   ·rw[zaa,zan hw0,List.map_append]
    rfl
  rintro τ G0 ⟨v1,rfl,sg0,y0⟩
  rw[← hwl,List.take_length] at y0
  refine⟨_,rfl,q,a.Layout,dx,_,rfl,sg0 _ _ q0,T.c_Layout,T.na_Layout_ones,(by show 0<1000;decide),?_⟩
  obtain⟨F1,e1⟩:∃ fs,fs=zcl "ones" (.ref oA) []:=⟨_,rfl⟩
  rw[← e1]
  have l1:F1.length=1:=by
   rw[e1]
   rfl
  have q1:=zaa (H:=G0) (a:=q) (o:=HO.ins a.Layout dx F1)
  have st0:Kx [q] H (upd G0 q (HO.ins a.Layout dx F1)):=(Kx.of sg0).trans (Kx.upd (by simp))
  have y0':upd G0 q (HO.ins a.Layout dx F1) oA=some (.lst (ws.map (fun w:Wt=>V.int (w.1:Nat)))):=by rw[zag (Ne.symm (zac q0 n0))];exact y0
  generalize upd G0 q (HO.ins a.Layout dx F1)=H1 at q1 st0 y0' ⊢
  have kx1:Kx [q] H H1:=kx0.trans st0
  have hl1:=st0.sq q0 hl0
  have hd1:=(st0.tk q0).dts (zaD (fun _=>rfl) _) hd0
  refine⟨_,rfl,wA,rfl,⟨_,hl1⟩,fun tA n1=>?_⟩
  refine zax (K:=K) (a:=wA) (xs:=xs) (fun j τ G=>∃ v1,τ=[v1]∧zaj H1 G∧G tA=some (.lst ((ws.take j).map (fun w:Wt=>V.int (w.2.1:Nat))))) ⟨none,rfl,zaj.new n1,zaa⟩ ?_ ?_ ?_
  ·rintro j τ G _ ⟨v1,rfl,sg,_⟩
   exact sg.sqL hl1
  ·rintro j x τ G hx ⟨v1,rfl,sg,hG⟩
   rw[List.map_map] at hd1
   obtain⟨w0,hw0,dw⟩:=zaR hd1 hx
   obtain⟨t,rfl,ht⟩:=zfa (sg.dt dw)
   dsimp only[zbl,zd7]
   rw[if_pos rfl]
   refine⟨_,rfl,t,_,_,_,rfl,rfl,ht,rfl,_,hG,?_,_,rfl,zap n1 sg,?_⟩
   ·rw[List.length_map,List.length_take,sizeLine_eq]
    omega
   ·rw[zaa,zan hw0,List.map_append]
    rfl
  rintro τ G1 ⟨v1,rfl,sg1,y1⟩
  rw[← hwl,List.take_length] at y1
  refine⟨_,rfl,q,a.Layout,dx,_,rfl,sg1 _ _ q1,T.c_Layout,T.na_Layout_others,(by omega),?_⟩
  obtain⟨F2,e2⟩:∃ fs,fs=zcl "others" (.ref tA) F1:=⟨_,rfl⟩
  rw[← e2]
  have l2:F2.length=2:=by
   rw[e2,e1]
   rfl
  have q2:=zaa (H:=G1) (a:=q) (o:=HO.ins a.Layout dx F2)
  have st1:Kx [q] H1 (upd G1 q (HO.ins a.Layout dx F2)):=(Kx.of sg1).trans (Kx.upd (by simp))
  have y1':upd G1 q (HO.ins a.Layout dx F2) tA=some (.lst (ws.map (fun w:Wt=>V.int (w.2.1:Nat)))):=by rw[zag (Ne.symm (zac q1 n1))];exact y1
  generalize upd G1 q (HO.ins a.Layout dx F2)=H2 at q2 st1 y1' ⊢
  have kx2:Kx [q] H H2:=kx1.trans st1
  have y0':=st1.lst q1 y0'
  have hl2:=st1.sq q1 hl1
  have hd2:=(st1.tk q1).dts (zaD (fun _=>rfl) _) hd1
  refine⟨_,rfl,wA,rfl,⟨_,hl2⟩,fun lA n2=>?_⟩
  refine zax (K:=K) (a:=wA) (xs:=xs) (fun j τ G=>∃ v1,τ=[v1]∧zaj H2 G∧G lA=some (.lst ((ws.take j).map (fun w:Wt=>V.int w.2.2.1)))) ⟨none,rfl,zaj.new n2,zaa⟩ ?_ ?_ ?_
  ·rintro j τ G _ ⟨v1,rfl,sg,_⟩
   exact sg.sqL hl2
  ·rintro j x τ G hx ⟨v1,rfl,sg,hG⟩
   rw[List.map_map] at hd2
   obtain⟨w0,hw0,dw⟩:=zaR hd2 hx
   obtain⟨t,rfl,ht⟩:=zfa (sg.dt dw)
   dsimp only[zbl,zd7]
   rw[if_pos rfl]
   refine⟨_,rfl,t,_,_,_,rfl,rfl,ht,rfl,_,hG,?_,_,rfl,zap n2 sg,?_⟩
   ·rw[List.length_map,List.length_take,sizeLine_eq]
    omega
   ·rw[zaa,zan hw0,List.map_append]
    rfl
  rintro τ G2 ⟨v1,rfl,sg2,y2⟩
  rw[← hwl,List.take_length] at y2
  refine⟨_,rfl,q,a.Layout,dx,_,rfl,sg2 _ _ q2,T.c_Layout,T.na_Layout_leasts,(by omega),?_⟩
  obtain⟨F3,e3⟩:∃ fs,fs=zcl "leasts" (.ref lA) F2:=⟨_,rfl⟩
  rw[← e3]
  have l3:F3.length=3:=by
   rw[e3,e2,e1]
   rfl
  have q3:=zaa (H:=G2) (a:=q) (o:=HO.ins a.Layout dx F3)
  have st2:Kx [q] H2 (upd G2 q (HO.ins a.Layout dx F3)):=(Kx.of sg2).trans (Kx.upd (by simp))
  have y2':upd G2 q (HO.ins a.Layout dx F3) lA=some (.lst (ws.map (fun w:Wt=>V.int w.2.2.1))):=by rw[zag (Ne.symm (zac q2 n2))];exact y2
  generalize upd G2 q (HO.ins a.Layout dx F3)=H3 at q3 st2 y2' ⊢
  have kx3:Kx [q] H H3:=kx2.trans st2
  have y0':=st2.lst q2 y0'
  have y1':=st2.lst q2 y1'
  have hl3:=st2.sq q2 hl2
  have hd3:=(st2.tk q2).dts (zaD (fun _=>rfl) _) hd2
  refine⟨(by show 1≤sizeLine;decide),fun z3 nz3=>⟨_,rfl,z3,_,_,rfl,rfl,zaa,by omega,by omega,(by rw[sizeLine_eq];show 1 * ((c:Nat):Int).toNat≤_;omega),fun pA n3'=>?_⟩⟩
  rw[Int.toNat_natCast,zdF]
  have sg3:zaj H3 (upd (upd H3 z3 (.lst [V.int 0])) pA (.lst ((List.replicate c (0:Int)).map V.int))):=(zaj.new nz3).trans (zaj.new n3')
  have y3:upd (upd H3 z3 (.lst [V.int 0])) pA (.lst ((List.replicate c (0:Int)).map V.int)) pA=some (.lst ((List.replicate c (0:Int)).map V.int)):=zaa
  have n3:H3 pA=none:=none_of (zaj.new nz3) n3'
  generalize upd (upd H3 z3 (.lst [V.int 0])) pA (.lst ((List.replicate c (0:Int)).map V.int))=G3 at sg3 y3 ⊢
  have dq_3:q≠pA:=zac q3 n3
  have d0_3:oA≠pA:=zac y0' n3
  have d1_3:tA≠pA:=zac y1' n3
  have d2_3:lA≠pA:=zac y2' n3
  have hn3:H pA=none:=kx3.none n3 (Ne.symm dq_3)
  refine⟨_,rfl,q,a.Layout,dx,_,rfl,sg3 _ _ q3,T.c_Layout,T.na_Layout_places,(by omega),?_⟩
  obtain⟨F4,e4⟩:∃ fs,fs=zcl "places" (.ref pA) F3:=⟨_,rfl⟩
  rw[← e4]
  have l4:F4.length=4:=by
   rw[e4,e3,e2,e1]
   rfl
  have q4:=zaa (H:=G3) (a:=q) (o:=HO.ins a.Layout dx F4)
  have st3:Kx [q] H3 (upd G3 q (HO.ins a.Layout dx F4)):=(Kx.of sg3).trans (Kx.upd (by simp))
  have y3':upd G3 q (HO.ins a.Layout dx F4) pA=some (.lst ((List.replicate c (0:Int)).map V.int)):=by rw[zag (Ne.symm (zac q3 n3))];exact y3
  generalize upd G3 q (HO.ins a.Layout dx F4)=H4 at q4 st3 y3' ⊢
  have kx4:Kx [q] H H4:=kx3.trans st3
  have y0':=st3.lst q3 y0'
  have y1':=st3.lst q3 y1'
  have y2':=st3.lst q3 y2'
  have hl4:=st3.sq q3 hl3
  have hd4:=(st3.tk q3).dts (zaD (fun _=>rfl) _) hd3
  refine⟨(by show 1≤sizeLine;decide),fun z4 nz4=>⟨_,rfl,wA,_,rfl,.inl ((zaj.new nz4).sqL hl4),z4,_,_,rfl,rfl,zaa,by omega,by omega,(by rw[sizeLine_eq];show 1 * ((xs.length:Nat):Int).toNat≤_;omega),fun fA n4'=>?_⟩⟩
  rw[← hwl]
  rw[Int.toNat_natCast,zdF]
  have sg4:zaj H4 (upd (upd H4 z4 (.lst [V.int 0])) fA (.lst ((List.replicate ws.length (0:Int)).map V.int))):=(zaj.new nz4).trans (zaj.new n4')
  have y4:upd (upd H4 z4 (.lst [V.int 0])) fA (.lst ((List.replicate ws.length (0:Int)).map V.int)) fA=some (.lst ((List.replicate ws.length (0:Int)).map V.int)):=zaa
  have n4:H4 fA=none:=none_of (zaj.new nz4) n4'
  generalize upd (upd H4 z4 (.lst [V.int 0])) fA (.lst ((List.replicate ws.length (0:Int)).map V.int))=G4 at sg4 y4 ⊢
  have dq_4:q≠fA:=zac q4 n4
  have d0_4:oA≠fA:=zac y0' n4
  have d1_4:tA≠fA:=zac y1' n4
  have d2_4:lA≠fA:=zac y2' n4
  have d3_4:pA≠fA:=zac y3' n4
  have hn4:H fA=none:=kx4.none n4 (Ne.symm dq_4)
  refine⟨_,rfl,q,a.Layout,dx,_,rfl,sg4 _ _ q4,T.c_Layout,T.na_Layout_flow,(by omega),?_⟩
  obtain⟨F5,e5⟩:∃ fs,fs=zcl "flow" (.ref fA) F4:=⟨_,rfl⟩
  rw[← e5]
  have l5:F5.length=5:=by
   rw[e5,e4,e3,e2,e1]
   rfl
  have q5:=zaa (H:=G4) (a:=q) (o:=HO.ins a.Layout dx F5)
  have st4:Kx [q] H4 (upd G4 q (HO.ins a.Layout dx F5)):=(Kx.of sg4).trans (Kx.upd (by simp))
  have y4':upd G4 q (HO.ins a.Layout dx F5) fA=some (.lst ((List.replicate ws.length (0:Int)).map V.int)):=by rw[zag (Ne.symm (zac q4 n4))];exact y4
  generalize upd G4 q (HO.ins a.Layout dx F5)=H5 at q5 st4 y4' ⊢
  have kx5:Kx [q] H H5:=kx4.trans st4
  have y0':=st4.lst q4 y0'
  have y1':=st4.lst q4 y1'
  have y2':=st4.lst q4 y2'
  have y3':=st4.lst q4 y3'
  have hl5:=st4.sq q4 hl4
  have hd5:=(st4.tk q4).dts (zaD (fun _=>rfl) _) hd4
  refine⟨(by show 1≤sizeLine;decide),fun z5 nz5=>⟨_,rfl,z5,_,_,rfl,rfl,zaa,by omega,by omega,(by rw[sizeLine_eq];show 1 * ((c:Nat):Int).toNat≤_;omega),fun nA n5'=>?_⟩⟩
  rw[Int.toNat_natCast,zdF]
  have sg5:zaj H5 (upd (upd H5 z5 (.lst [V.int 0])) nA (.lst ((List.replicate c (0:Int)).map V.int))):=(zaj.new nz5).trans (zaj.new n5')
  have y5:upd (upd H5 z5 (.lst [V.int 0])) nA (.lst ((List.replicate c (0:Int)).map V.int)) nA=some (.lst ((List.replicate c (0:Int)).map V.int)):=zaa
  have n5:H5 nA=none:=none_of (zaj.new nz5) n5'
  generalize upd (upd H5 z5 (.lst [V.int 0])) nA (.lst ((List.replicate c (0:Int)).map V.int))=G5 at sg5 y5 ⊢
  have dq_5:q≠nA:=zac q5 n5
  have d0_5:oA≠nA:=zac y0' n5
  have d1_5:tA≠nA:=zac y1' n5
  have d2_5:lA≠nA:=zac y2' n5
  have d3_5:pA≠nA:=zac y3' n5
  have d4_5:fA≠nA:=zac y4' n5
  have hn5:H nA=none:=kx5.none n5 (Ne.symm dq_5)
  refine⟨_,rfl,q,a.Layout,dx,_,rfl,sg5 _ _ q5,T.c_Layout,T.na_Layout_needs,(by omega),?_⟩
  obtain⟨F6,e6⟩:∃ fs,fs=zcl "needs" (.ref nA) F5:=⟨_,rfl⟩
  rw[← e6]
  have l6:F6.length=6:=by
   rw[e6,e5,e4,e3,e2,e1]
   rfl
  have q6:=zaa (H:=G5) (a:=q) (o:=HO.ins a.Layout dx F6)
  have st5:Kx [q] H5 (upd G5 q (HO.ins a.Layout dx F6)):=(Kx.of sg5).trans (Kx.upd (by simp))
  have y5':upd G5 q (HO.ins a.Layout dx F6) nA=some (.lst ((List.replicate c (0:Int)).map V.int)):=by rw[zag (Ne.symm (zac q5 n5))];exact y5
  generalize upd G5 q (HO.ins a.Layout dx F6)=H6 at q6 st5 y5' ⊢
  have kx6:Kx [q] H H6:=kx5.trans st5
  have y0':=st5.lst q5 y0'
  have y1':=st5.lst q5 y1'
  have y2':=st5.lst q5 y2'
  have y3':=st5.lst q5 y3'
  have y4':=st5.lst q5 y4'
  have hl6:=st5.sq q5 hl5
  have hd6:=(st5.tk q5).dts (zaD (fun _=>rfl) _) hd5
  refine⟨_,rfl,_,rfl,by omega,by omega,fun gA n6=>?_⟩
  refine zei (lo:=0) (n:=((c:Nat):Int).toNat) (fun j τ G=>∃ v1,∃ gs:List Addr,τ=[v1]∧zaj H6 G∧G gA=some (.lst (gs.map V.ref))∧gs.length=j∧gs.Nodup∧∀ i b,gs[i]?=some b→G b=some (.lst [])∧H6 b=none∧b≠gA) ⟨none,[],rfl,zaj.new n6,zaa,rfl,List.nodup_nil,fun i b e=>ziM e⟩ ?_ ?_
  ·rintro j τ G hj ⟨v1,gs,rfl,sg,hG,gl,nd,m⟩
   rw[Int.toNat_natCast] at hj
   dsimp only[zbl,zd7]
   rw[if_pos rfl]
   refine⟨(by show 0≤sizeLine;decide),fun z nz=>?_⟩
   have zD:z≠gA:=fun e=>by rw[e,hG] at nz;cases nz
   refine⟨_,by rw[zag (Ne.symm zD)];exact hG,?_,_,gs++[z],rfl,zap n6 (sg.trans (zaj.new nz)),?_,by rw[List.length_append,gl];rfl,?_,fun i b e=>?_⟩
   ·rw[List.length_map,gl,sizeLine_eq]
    omega
   ·rw[zaa,List.map_append]
    rfl
   ·refine List.nodup_append.mpr ⟨nd,by simp,fun x hx y hy=>?_⟩
    rw[List.mem_singleton.mp hy]
    rintro rfl
    obtain⟨i,e⟩:=List.mem_iff_getElem?.mp hx
    rw[(m i x e).1] at nz
    cases nz
   ·rcases Nat.lt_or_ge i gs.length with l|l
    ·rw[List.getElem?_append_left l] at e
     obtain⟨m1,m2,m3⟩:=m i b e
     have bz:b≠z:=zac m1 nz
     exact⟨by rw[zag m3,zag bz];exact m1,m2,m3⟩
    ·rw[List.getElem?_append_right l] at e
     have e0:i - gs.length=0:=by
      have:=(List.getElem?_eq_some_iff.mp e).1
      rw[List.length_singleton] at this
      omega
     rw[e0] at e
     cases e
     exact⟨by rw[zag zD,zaa],none_of sg nz,zD⟩
  rintro τ G6 ⟨v1,gAs,rfl,sg6,y6,gl6,nd6,m6⟩
  rw[Int.toNat_natCast] at gl6
  have dq_6:q≠gA:=zac q6 n6
  have d0_6:oA≠gA:=zac y0' n6
  have d1_6:tA≠gA:=zac y1' n6
  have d2_6:lA≠gA:=zac y2' n6
  have d3_6:pA≠gA:=zac y3' n6
  have d4_6:fA≠gA:=zac y4' n6
  have d5_6:nA≠gA:=zac y5' n6
  have eq_6:∀ i b,(gAs:List Addr)[i]?=some b→q≠b:=fun i b e=>zac q6 (m6 i b e).2.1
  have e0_6:∀ i b,(gAs:List Addr)[i]?=some b→oA≠b:=fun i b e=>zac y0' (m6 i b e).2.1
  have e1_6:∀ i b,(gAs:List Addr)[i]?=some b→tA≠b:=fun i b e=>zac y1' (m6 i b e).2.1
  have e2_6:∀ i b,(gAs:List Addr)[i]?=some b→lA≠b:=fun i b e=>zac y2' (m6 i b e).2.1
  have e3_6:∀ i b,(gAs:List Addr)[i]?=some b→pA≠b:=fun i b e=>zac y3' (m6 i b e).2.1
  have e4_6:∀ i b,(gAs:List Addr)[i]?=some b→fA≠b:=fun i b e=>zac y4' (m6 i b e).2.1
  have e5_6:∀ i b,(gAs:List Addr)[i]?=some b→nA≠b:=fun i b e=>zac y5' (m6 i b e).2.1
  have e6_6:∀ i b,(gAs:List Addr)[i]?=some b→gA≠b:=fun i b e=>Ne.symm (m6 i b e).2.2
  refine⟨_,rfl,q,a.Layout,dx,_,rfl,sg6 _ _ q6,T.c_Layout,T.na_Layout_going,(by omega),?_⟩
  obtain⟨F7,e7⟩:∃ fs,fs=zcl "going" (.ref gA) F6:=⟨_,rfl⟩
  rw[← e7]
  have l7:F7.length=7:=by
   rw[e7,e6,e5,e4,e3,e2,e1]
   rfl
  have q7:=zaa (H:=G6) (a:=q) (o:=HO.ins a.Layout dx F7)
  have st6:Kx [q] H6 (upd G6 q (HO.ins a.Layout dx F7)):=(Kx.of sg6).trans (Kx.upd (by simp))
  have y6':upd G6 q (HO.ins a.Layout dx F7) gA=some (.lst (gAs.map V.ref)):=by rw[zag (Ne.symm (zac q6 n6))];exact y6
  have z6:∀ i b,(gAs:List Addr)[i]?=some b→upd G6 q (HO.ins a.Layout dx F7) b=some (.lst []):=fun i b e=>by rw[zag (fun z=>by rw[z] at e;exact absurd ((m6 i q e).2.1) (by rw[q6];exact fun y=>by cases y))];exact(m6 i b e).1
  generalize upd G6 q (HO.ins a.Layout dx F7)=H7 at q7 st6 y6' z6 ⊢
  have kx7:Kx [q] H H7:=kx6.trans st6
  have y0':=st6.lst q6 y0'
  have y1':=st6.lst q6 y1'
  have y2':=st6.lst q6 y2'
  have y3':=st6.lst q6 y3'
  have y4':=st6.lst q6 y4'
  have y5':=st6.lst q6 y5'
  have hl7:=st6.sq q6 hl6
  have hd7:=(st6.tk q6).dts (zaD (fun _=>rfl) _) hd6
  refine⟨_,rfl,_,rfl,by omega,by omega,fun cA n7=>?_⟩
  refine zei (lo:=0) (n:=((c:Nat):Int).toNat) (fun j τ G=>∃ v1,∃ gs:List Addr,τ=[v1]∧zaj H7 G∧G cA=some (.lst (gs.map V.ref))∧gs.length=j∧gs.Nodup∧∀ i b,gs[i]?=some b→G b=some (.lst [])∧H7 b=none∧b≠cA) ⟨none,[],rfl,zaj.new n7,zaa,rfl,List.nodup_nil,fun i b e=>ziM e⟩ ?_ ?_
  ·rintro j τ G hj ⟨v1,gs,rfl,sg,hG,gl,nd,m⟩
   rw[Int.toNat_natCast] at hj
   dsimp only[zbl,zd7]
   rw[if_pos rfl]
   refine⟨(by show 0≤sizeLine;decide),fun z nz=>?_⟩
   have zD:z≠cA:=fun e=>by rw[e,hG] at nz;cases nz
   refine⟨_,by rw[zag (Ne.symm zD)];exact hG,?_,_,gs++[z],rfl,zap n7 (sg.trans (zaj.new nz)),?_,by rw[List.length_append,gl];rfl,?_,fun i b e=>?_⟩
   ·rw[List.length_map,gl,sizeLine_eq]
    omega
   ·rw[zaa,List.map_append]
    rfl
   ·refine List.nodup_append.mpr ⟨nd,by simp,fun x hx y hy=>?_⟩
    rw[List.mem_singleton.mp hy]
    rintro rfl
    obtain⟨i,e⟩:=List.mem_iff_getElem?.mp hx
    rw[(m i x e).1] at nz
    cases nz
   ·rcases Nat.lt_or_ge i gs.length with l|l
    ·rw[List.getElem?_append_left l] at e
     obtain⟨m1,m2,m3⟩:=m i b e
     have bz:b≠z:=zac m1 nz
     exact⟨by rw[zag m3,zag bz];exact m1,m2,m3⟩
    ·rw[List.getElem?_append_right l] at e
     have e0:i - gs.length=0:=by
      have:=(List.getElem?_eq_some_iff.mp e).1
      rw[List.length_singleton] at this
      omega
     rw[e0] at e
     cases e
     exact⟨by rw[zag zD,zaa],none_of sg nz,zD⟩
  rintro τ G7 ⟨v1,cAs,rfl,sg7,y7,gl7,nd7,m7⟩
  rw[Int.toNat_natCast] at gl7
  have dq_7:q≠cA:=zac q7 n7
  have d0_7:oA≠cA:=zac y0' n7
  have d1_7:tA≠cA:=zac y1' n7
  have d2_7:lA≠cA:=zac y2' n7
  have d3_7:pA≠cA:=zac y3' n7
  have d4_7:fA≠cA:=zac y4' n7
  have d5_7:nA≠cA:=zac y5' n7
  have d6_7:gA≠cA:=zac y6' n7
  have eq_7:∀ i b,(cAs:List Addr)[i]?=some b→q≠b:=fun i b e=>zac q7 (m7 i b e).2.1
  have e0_7:∀ i b,(cAs:List Addr)[i]?=some b→oA≠b:=fun i b e=>zac y0' (m7 i b e).2.1
  have e1_7:∀ i b,(cAs:List Addr)[i]?=some b→tA≠b:=fun i b e=>zac y1' (m7 i b e).2.1
  have e2_7:∀ i b,(cAs:List Addr)[i]?=some b→lA≠b:=fun i b e=>zac y2' (m7 i b e).2.1
  have e3_7:∀ i b,(cAs:List Addr)[i]?=some b→pA≠b:=fun i b e=>zac y3' (m7 i b e).2.1
  have e4_7:∀ i b,(cAs:List Addr)[i]?=some b→fA≠b:=fun i b e=>zac y4' (m7 i b e).2.1
  have e5_7:∀ i b,(cAs:List Addr)[i]?=some b→nA≠b:=fun i b e=>zac y5' (m7 i b e).2.1
  have e6_7:∀ i b,(cAs:List Addr)[i]?=some b→gA≠b:=fun i b e=>zac y6' (m7 i b e).2.1
  have e7_7:∀ i b,(cAs:List Addr)[i]?=some b→cA≠b:=fun i b e=>Ne.symm (m7 i b e).2.2
  have e7_6:∀ i b,(gAs:List Addr)[i]?=some b→cA≠b:=fun i b e=>Ne.symm (zac (z6 i b e) n7)
  have e6s7:∀ i b j b',(gAs:List Addr)[i]?=some b→(cAs:List Addr)[j]?=some b'→b≠b':=fun i b j b' e e'=>zac (z6 i b e) (m7 j b' e').2.1
  refine⟨_,rfl,q,a.Layout,dx,_,rfl,sg7 _ _ q7,T.c_Layout,T.na_Layout_coming,(by omega),?_⟩
  obtain⟨F8,e8⟩:∃ fs,fs=zcl "coming" (.ref cA) F7:=⟨_,rfl⟩
  rw[← e8]
  have q8:=zaa (H:=G7) (a:=q) (o:=HO.ins a.Layout dx F8)
  have st7:Kx [q] H7 (upd G7 q (HO.ins a.Layout dx F8)):=(Kx.of sg7).trans (Kx.upd (by simp))
  have y7':upd G7 q (HO.ins a.Layout dx F8) cA=some (.lst (cAs.map V.ref)):=by rw[zag (Ne.symm (zac q7 n7))];exact y7
  have z7:∀ i b,(cAs:List Addr)[i]?=some b→upd G7 q (HO.ins a.Layout dx F8) b=some (.lst []):=fun i b e=>by rw[zag (fun z=>by rw[z] at e;exact absurd ((m7 i q e).2.1) (by rw[q7];exact fun y=>by cases y))];exact(m7 i b e).1
  generalize upd G7 q (HO.ins a.Layout dx F8)=H8 at q8 st7 y7' z7 ⊢
  have kx8:Kx [q] H H8:=kx7.trans st7
  have y0':=st7.lst q7 y0'
  have y1':=st7.lst q7 y1'
  have y2':=st7.lst q7 y2'
  have y3':=st7.lst q7 y3'
  have y4':=st7.lst q7 y4'
  have y5':=st7.lst q7 y5'
  have y6':=st7.lst q7 y6'
  have hl8:=st7.sq q7 hl7
  have hd8:=(st7.tk q7).dts (zaD (fun _=>rfl) _) hd7
  have z6:∀ i b,(gAs:List Addr)[i]?=some b→H8 b=some (.lst []):=fun i b e=>st7.lst q7 (z6 i b e)
  have eF:F8=zcX ⟨oA,tA,lA,pA,fA,nA,gA,cA⟩:=by
   rw[e8,e7,e6,e5,e4,e3,e2,e1]
   exact zjG (r:=⟨oA,tA,lA,pA,fA,nA,gA,cA⟩)
  rw[eF] at q8
  have noq:∀ b∈gAs++cAs,q≠b∧oA≠b∧tA≠b∧lA≠b∧pA≠b∧fA≠b∧nA≠b∧gA≠b∧cA≠b:=fun b hb=>by
   rcases List.mem_append.mp hb with z|z
   ·obtain⟨i,e⟩:=List.mem_iff_getElem?.mp z
    exact⟨eq_6 i b e,e0_6 i b e,e1_6 i b e,e2_6 i b e,e3_6 i b e,e4_6 i b e,e5_6 i b e,e6_6 i b e,e7_6 i b e⟩
   ·obtain⟨i,e⟩:=List.mem_iff_getElem?.mp z
    exact⟨eq_7 i b e,e0_7 i b e,e1_7 i b e,e2_7 i b e,e3_7 i b e,e4_7 i b e,e5_7 i b e,e6_7 i b e,e7_7 i b e⟩
  have fresh:∀ b∈gAs++cAs,H b=none∧H8 b=some (.lst []):=fun b hb=>by
   have nq:=(noq b hb).1
   rcases List.mem_append.mp hb with z|z
   ·obtain⟨i,e⟩:=List.mem_iff_getElem?.mp z
    exact⟨kx6.none (m6 i b e).2.1 (Ne.symm nq),z6 i b e⟩
   ·obtain⟨i,e⟩:=List.mem_iff_getElem?.mp z
    exact⟨kx7.none (m7 i b e).2.1 (Ne.symm nq),z7 i b e⟩
  have nin:∀ b,(∀ c∈gAs++cAs,b≠c)→b∉gAs++cAs:=fun b h z=>h b z rfl
  have hsq:∀ G,Kx (gAs++cAs) H8 G→SqL K G wA xs:=fun G kx=>by
   rcases hl0 with(h|⟨o,h⟩)|h
   ·have e8:=kx8 _ _ h (by simp;rintro rfl;rw[q0] at h;cases h)
    exact .inl (.inl (kx _ _ e8 fun z=>by rw[(fresh _ z).1] at h;cases h))
   ·have e8:=kx8 _ _ h (by simp;rintro rfl;rw[q0] at h;cases h)
    exact .inl (.inr ⟨o,kx _ _ e8 fun z=>by rw[(fresh _ z).1] at h;cases h⟩)
   ·exact .inr h
  have tkx:∀ G,Kx (gAs++cAs) H8 G→Tk H8 G:=fun G kx b o z1 z2=>kx b o z1 fun y=>by
   rw[(fresh b y).2] at z1
   cases z1
   cases z2
  have nog:∀ b,b∈gAs→b∉cAs:=fun b h1 h2=>by
   obtain⟨i,e⟩:=List.mem_iff_getElem?.mp h1
   obtain⟨j,e'⟩:=List.mem_iff_getElem?.mp h2
   exact e6s7 i b j b e e' rfl
  rw[List.map_map] at hd8
  refine⟨_,rfl,wA,rfl,⟨_,hl8⟩,zeQ (K:=K) (l:=wA) (xs:=xs) (fun i σ G=>∃ v3 v4,σ=[some (.ref q),some (.int (c:Nat)),some (.ref wA),v3,v4]∧Kx (gAs++cAs) H8 G∧Ls gAs (goK ws i) G∧Ls cAs (coK ws i) G)
   ⟨none,none,rfl,Kx.of (zaj.refl _),fun i b e=>z6 i b e,fun i b e=>z7 i b e⟩ ?_ ?_ ?_⟩
  ·rintro i σ G _ ⟨_,_,rfl,kx,_⟩
   exact hsq G kx
  ·rintro i x tt σ G hx nt ⟨v3,v4,rfl,kx,lg,lc⟩
   obtain⟨w0,hw0,dw⟩:=zaR hd8 hx
   obtain⟨t,rfl,ht⟩:=zfa ((tkx G kx).dt rfl dw)
   obtain⟨i1,i2⟩:=hin w0 (List.mem_of_getElem? hw0)
   have hi:i<ws.length:=(List.getElem?_eq_some_iff.mp hw0).1
   have ew:ws.getD i (0,0,0,0)=w0:=by rw[List.getD_eq_getElem?_getD,hw0];rfl
   obtain⟨ga,ega⟩:=zbo (l:=gAs) (j:=w0.1) (by omega)
   obtain⟨ca,eca⟩:=zbo (l:=cAs) (j:=w0.2.1) (by omega)
   have gam:ga∈gAs:=List.mem_of_getElem? ega
   have cam:ca∈cAs:=List.mem_of_getElem? eca
   have atg:atI (gAs.map V.ref) (w0.1:Int)=some (.ref ga):=by rw[zch (by omega),Int.toNat_natCast,List.getElem?_map,ega];rfl
   have atc:atI (cAs.map V.ref) (w0.2.1:Int)=some (.ref ca):=by rw[zch (by omega),Int.toNat_natCast,List.getElem?_map,eca];rfl
   have s3:zaj G (upd G tt (.tup [.int i,.ref t])):=zaj.new nt
   have h3:upd G tt (.tup [.int i,.ref t]) tt=some (.tup [.int i,.ref t]):=zaa
   have lg3:Ls gAs (goK ws i) (upd G tt (.tup [.int i,.ref t])):=fun j b e=>s3 _ _ (lg j b e)
   have lc3:Ls cAs (coK ws i) (upd G tt (.tup [.int i,.ref t])):=fun j b e=>s3 _ _ (lc j b e)
   generalize upd G tt (.tup [.int i,.ref t])=G3 at s3 h3 lg3 lc3 ⊢
   have kx3:Kx (gAs++cAs) H8 G3:=kx.trans (Kx.of s3)
   have q3:G3 q=_:=kx3 _ _ q8 (nin _ fun b hb=>(noq b hb).1)
   have g3:G3 gA=_:=kx3 _ _ y6' (nin _ fun b hb=>(noq b hb).2.2.2.2.2.2.2.1)
   have gl:=zlt ws i w0.1
   have cl:=zlu ws i w0.2.1
   refine⟨tt,_,rfl,SqT.of h3,rfl,_,_,rfl,_,_,rfl,rfl,?_⟩
   refine⟨_,rfl,q,a.Layout,dx,_,_,rfl,q3,T.c_Layout,T.na_Layout_going,zgD,_,rfl,t,_,_,_,rfl,rfl,s3.sqT ht,rfl,gA,_,_,_,rfl,rfl,SqL.of g3,atg,.inl ⟨rfl,_,SqL.of (lg3 _ _ ega)⟩,_,rfl,ga,_,_,rfl,rfl,lg3 _ _ ega,?_,?_⟩
   ·unfold zbh
    rw[List.length_map,sizeLine_eq]
    omega
   have en:zbh (goK ws i w0.1)++[V.int (i:Nat)]=zbh (goK ws i w0.1++[i]):=by
    unfold zbh
    rw[List.map_append]
    rfl
   rw[en]
   have kx4:Kx (gAs++cAs) H8 (upd G3 ga (.lst (zbh (goK ws i w0.1++[i])))):=kx3.trans (Kx.upd (List.mem_append_left _ gam))
   have lg4:Ls gAs (goK ws (i + 1)) (upd G3 ga (.lst (zbh (goK ws i w0.1++[i])))):=by
    rw[zjE,ew]
    exact lg3.put nd6 ega
   have lc4:Ls cAs (coK ws i) (upd G3 ga (.lst (zbh (goK ws i w0.1++[i])))):=lc3.keep (nog ga gam)
   have tk4:Tk G3 (upd G3 ga (.lst (zbh (goK ws i w0.1++[i])))):=Tk.upd (lg3 _ _ ega) rfl
   generalize upd G3 ga (.lst (zbh (goK ws i w0.1++[i])))=G4 at kx4 lg4 lc4 tk4 ⊢
   have q4:G4 q=_:=kx4 _ _ q8 (nin _ fun b hb=>(noq b hb).1)
   have c4:G4 cA=_:=kx4 _ _ y7' (nin _ fun b hb=>(noq b hb).2.2.2.2.2.2.2.2)
   refine⟨_,rfl,q,a.Layout,dx,_,_,rfl,q4,T.c_Layout,T.na_Layout_coming,zfM,_,rfl,t,_,_,_,rfl,rfl,tk4.sqT (s3.sqT ht),rfl,cA,_,_,_,rfl,rfl,SqL.of c4,atc,.inl ⟨rfl,_,SqL.of (lc4 _ _ eca)⟩,_,rfl,ca,_,_,rfl,rfl,lc4 _ _ eca,?_,?_⟩
   ·unfold zbh
    rw[List.length_map,sizeLine_eq]
    omega
   have en:zbh (coK ws i w0.2.1)++[V.int (i:Nat)]=zbh (coK ws i w0.2.1++[i]):=by
    unfold zbh
    rw[List.map_append]
    rfl
   rw[en]
   refine⟨_,_,rfl,kx4.trans (Kx.upd (List.mem_append_right _ cam)),lg4.keep (fun z=>nog ca z cam),?_⟩
   rw[zjF,ew]
   exact lc4.put nd7 eca
  ·rintro σ G ⟨v3,v4,rfl,kx,lg,lc⟩
   rw[← hwl] at lg lc
   have at_:∀ b o,H8 b=some o→(∀ d∈gAs++cAs,b≠d)→G b=some o:=fun b o e n=>kx b o e (nin b n)
   refine k ⟨oA,tA,lA,pA,fA,nA,gA,cA⟩ G (fun b o e z=>?_) ?_ (at_ _ _ y3' fun d hd=>(noq d hd).2.2.2.2.1) (at_ _ _ y4' fun d hd=>(noq d hd).2.2.2.2.2.1) (at_ _ _ y5' fun d hd=>(noq d hd).2.2.2.2.2.2.1) hn3 hn4 hn5
   ·exact kx _ _ (kx8 b o e z) fun y=>by
     rw[(fresh b y).1] at e
     cases e
   ·exact⟨⟨dx,at_ _ _ q8 fun d hd=>(noq d hd).1⟩,at_ _ _ y0' fun d hd=>(noq d hd).2.1,at_ _ _ y1' fun d hd=>(noq d hd).2.2.1,at_ _ _ y2' fun d hd=>(noq d hd).2.2.2.1,
     ⟨gAs,at_ _ _ y6' fun d hd=>(noq d hd).2.2.2.2.2.2.2.1,gl6,fun i b e=>⟨lg i b e,Ne.symm (e3_6 i b e),Ne.symm (e4_6 i b e),Ne.symm (e5_6 i b e)⟩⟩,
     ⟨cAs,at_ _ _ y7' fun d hd=>(noq d hd).2.2.2.2.2.2.2.2,gl7,fun i b e=>⟨lc i b e,Ne.symm (e3_7 i b e),Ne.symm (e4_7 i b e),Ne.symm (e5_7 i b e)⟩⟩,
     ⟨d0_3,d0_4,d0_5⟩,⟨d1_3,d1_4,d1_5⟩,⟨d2_3,d2_4,d2_5⟩,⟨Ne.symm d3_6,Ne.symm d4_6,Ne.symm d5_6⟩,⟨Ne.symm d3_7,Ne.symm d4_7,Ne.symm d5_7⟩,⟨dq_3,dq_4,dq_5⟩,d3_4,d3_5,d4_5⟩
end
end K21
namespace K21
open PySem L2
def mxL:List Int→Int
 | []=>0
 | x::r=>max x (mxL r)
theorem ziN:∀ (l:List Int),0≤mxL l∧∀ x∈l,x≤mxL l
 | []=>⟨Int.le_refl _,fun x h=>by cases h⟩
 | y::r=>by
  obtain⟨h1,h2⟩:=ziN r
  have e:mxL (y::r)=max y (mxL r):=rfl
  rw[e]
  refine⟨by omega,fun x hx=>?_⟩
  rcases List.mem_cons.mp hx with z|z
  ·rw[z]
   omega
  ·have:=h2 x z
   omega
theorem zgH {m:Int}:∀ (l:List Int),0≤m→(∀ x∈l,x≤m)→mxL l≤m
 | [],h,_=>h
 | y::r,h,hx=>by
  have h1:=zgH r h fun x z=>hx x (List.mem_cons_of_mem _ z)
  have h2:=hx y List.mem_cons_self
  have e:mxL (y::r)=max y (mxL r):=rfl
  rw[e]
  omega
def pw:Nat→List Int
 | 0=>[1]
 | m + 1=>16 ^ (m + 1)::pw m
theorem zgI:∀ m,(pw m).length=m + 1
 | 0=>rfl
 | m + 1=>by
  show(pw m).length + 1=_
  rw[zgI m]
theorem zlw:∀ m,∃ r,pw m=(16:Int) ^ m::r
 | 0=>⟨[],rfl⟩
 | m + 1=>⟨pw m,rfl⟩
def FigOk (mx:Int) (m:Nat):Prop:=(∀ i,i<m→(16:Int) ^ i * 16≤mx)∧¬ (16:Int) ^ m * 16≤mx
theorem ziO (m:Nat):(0:Int)<16 ^ m:=Int.pow_pos (by decide)
theorem zcF (m:Nat):(16:Int) ^ (m + 1)=16 ^ m * 16:=Int.pow_succ _ _
section
variable {P:Program}{w:World}{K:PySem.W.Frag}{mg:Str→Option Value}{base:Heap}{a:Adr}
def spFigs (K:PySem.W.Frag):Sp:=fun vs H Q _=>∃ l wt,vs=[.ref l]∧SqL K H l ((wt:List Int).map V.int)∧(∀ x∈wt,0≤x∧x<2 ^ 61)∧∀ m g H',zaj H H'→H g=none→H' g=some (.lst ((pw m).map V.int))→FigOk (mxL wt) m→m≤100→Q (.ref g) H'
set_option maxHeartbeats 4000000 in
theorem zlx (T:Tx K mg a):Cal P w K mg base CX0 1 "figure_worths" ["weights"] [] (spFigs K):=T.d_figure_worths.cal fun f fd F=>by
 refine F.ok zci (fun vs H Q E h=>?_) (fun cdv A outer s H vs Q E hr h=>?_)
 ·obtain⟨l,wt,rfl,_⟩:=h
  rfl
 ·obtain⟨l,wt,rfl,hl,hw,k⟩:=h
  obtain⟨mx0,mx1⟩:=ziN wt
  have mx2:mxL wt<2 ^ 61:=by
   have:=zgH (m:=2 ^ 61 - 1) wt (by decide) fun x hx=>by
    have:=(hw x hx).2
    omega
   omega
  refine⟨_,(zad (zam (i:=1) zci.nd rfl (by first|exact Or.inl rfl|exact Or.inr rfl) (zcg (zab zaf zah)))
   (zad (zc0 PassesOwn.never (zaq op_le (zaC zcf (zas zav (pv 1) zaf (fun _ _=>rfl)) (zeN rfl T.k_BASE)) (zib rfl T.n_max (zab (pv 0) zah)) (zau _)) (zai (zbX (zg0 PySem.F.plainAttrs_list PySem.F.slot_list_insert PySem.F.type_list_insert zfG (pv 1) (zab zaf (zab (zaC zcf (zas zav (pv 1) zaf (fun _ _=>rfl)) (zeN rfl T.k_BASE)) zah))))))
   (zai (zaH (pv 1))))),?_⟩
  refine⟨(by show 1≤sizeLine;decide),fun g ng=>?_⟩
  have s1:zaj H (upd H g (.lst [V.int 1])):=zaj.new ng
  have h1:upd H g (.lst [V.int 1]) g=some (.lst ((pw 0).map V.int)):=zaa
  generalize upd H g (.lst [V.int 1])=H1 at s1 h1 ⊢
  refine⟨fun m σ G=>∃ j:Nat,m=(2 ^ 62 - (16:Int) ^ j).toNat∧σ=[some (.ref l),some (.ref g)]∧zaj H G∧G g=some (.lst ((pw j).map V.int))∧(∀ i,i<j→(16:Int) ^ i * 16≤mxL wt)∧(16:Int) ^ j<2 ^ 62∧j≤100,
   ⟨_,0,rfl,rfl,s1,h1,fun i hi=>absurd hi (Nat.not_lt_zero _),by decide,by decide⟩,?_⟩
  rintro m σ G ⟨j,rfl,rfl,sg,hg,all,jlt,j1⟩
  obtain⟨rr,er⟩:=zlw j
  have jp:=ziO j
  have at1:atI ((pw j).map V.int) 0=some (.int ((16:Int) ^ j)):=by rw[er];exact at0
  refine⟨_,rfl,g,_,_,_,rfl,rfl,SqL.of hg,at1,_,_,rfl,rfl,.inr ⟨by decide,by decide⟩,_,rfl,l,wt,rfl,sg.sqL hl,fun e0=>?_,fun mx hm hle=>?_⟩
  ·-- no weight at all
   subst e0
   refine⟨_,_,rfl,rfl,_,rfl,zcT (fun c=>?_) (fun c=>?_)⟩
   ·have:=of_decide_eq_true c
    have jp':(0:Int)<16 ^ j * 16:=by omega
    omega
   ·exact⟨_,rfl,k j g G sg ng hg ⟨all,of_decide_eq_false c⟩ j1⟩
  ·have em:mx=mxL wt:=by
    have a1:=mx1 mx hm
    have a2:=zgH wt (hw mx hm).1 hle
    omega
   subst em
   refine⟨_,_,rfl,rfl,_,rfl,zcT (fun c=>?_) (fun c=>?_)⟩
   ·have c1:(16:Int) ^ j * 16≤mxL wt:=of_decide_eq_true c
    have jl:j + 1≤100:=by
     rcases Nat.lt_or_ge j 100 with z|z
     ·exact z
     ·exfalso
      have e1:(16:Int) ^ 100≤16 ^ j:=by
       have h:=Nat.pow_le_pow_right (n:=16) (by decide) z
       exact_mod_cast h
      have e2:(2:Int) ^ 62≤16 ^ 100:=by decide +kernel
      omega
    have l1:=zgI j
    refine⟨_,fun σ' H' h=>h,?_⟩
    refine⟨_,rfl,.inl ⟨rfl,_,SqL.of hg⟩,_,rfl,g,_,_,_,rfl,rfl,SqL.of hg,at1,_,_,rfl,rfl,.inr ⟨by decide,by decide⟩,g,_,0,_,rfl,rfl,hg,by omega,by omega,?_,?_⟩
    ·rw[List.length_map,l1,sizeLine_eq]
     omega
    ·have e3:(16:Int) ^ (j + 1)<2 ^ 62:=by rw[zcF];omega
     refine⟨(2 ^ 62 - (16:Int) ^ (j + 1)).toNat,by rw[zcF] at e3 ⊢;omega,j + 1,rfl,rfl,zap ng sg,?_,fun i hi=>?_,e3,jl⟩
     ·rw[zaa]
      show some (HO.lst (V.int ((16:Int) ^ j * 16)::(pw j).map V.int))=some (HO.lst (V.int ((16:Int) ^ (j + 1))::(pw j).map V.int))
      rw[zcF]
     ·rcases Nat.lt_or_ge i j with z|z
      ·exact all i z
      ·rw[show i=j by omega]
       exact c1
   ·exact⟨_,rfl,k j g G sg ng hg ⟨all,of_decide_eq_false c⟩ j1⟩
end
end K21
namespace K21
open PySem L2
def pt1 (p:List Nat) (x:Wt):List Nat:=p.map fun y=>if y=p.getD x.2.1 0 then p.getD x.1 0 else y
def ptF (ws:List Wt) (c:Nat):List Nat:=ws.foldl pt1 (List.range c)
theorem ziP (p:List Nat) (x:Wt):(pt1 p x).length=p.length:=by
 unfold pt1
 rw[List.length_map]
theorem ze5:∀ (ws:List Wt) (p:List Nat),(ws.foldl pt1 p).length=p.length
 | [],_=>rfl
 | x::ws,p=>by
  show(ws.foldl pt1 (pt1 p x)).length=_
  rw[ze5 ws,ziP]
theorem zgJ {p:List Nat}{x:Wt}{i:Nat} (h:i<p.length):(pt1 p x).getD i 0=if p.getD i 0=p.getD x.2.1 0 then p.getD x.1 0 else p.getD i 0:=by
 unfold pt1
 rw[List.getD_eq_getElem?_getD,List.getElem?_map,List.getElem?_eq_getElem h]
 show(if p[i]=p.getD x.2.1 0 then p.getD x.1 0 else p[i])=_
 have e:p.getD i 0=p[i]:=by rw[List.getD_eq_getElem?_getD,List.getElem?_eq_getElem h];rfl
 rw[e]
theorem zgK (c:Nat):∀ (ws:List Wt) (p:List Nat),p.length=c→(∀ x∈ws,x.1<c∧x.2.1<c)→(∀ i j,i<c→j<c→p.getD i 0=p.getD j 0→(ws.foldl pt1 p).getD i 0=(ws.foldl pt1 p).getD j 0)∧∀ x∈ws,(ws.foldl pt1 p).getD x.1 0=(ws.foldl pt1 p).getD x.2.1 0
 | [],p,_,_=>⟨fun i j _ _ h=>h,fun x hx=>by cases hx⟩
 | y::ws,p,hp,hin=>by
  have l1:=ziP p y
  obtain⟨h1,h2⟩:=zgK c ws (pt1 p y) (by omega) fun x hx=>hin x (List.mem_cons_of_mem _ hx)
  obtain⟨y1,y2⟩:=hin y List.mem_cons_self
  have st:∀ i j,i<c→j<c→p.getD i 0=p.getD j 0→(pt1 p y).getD i 0=(pt1 p y).getD j 0:=fun i j hi hj e=>by
   rw[zgJ (by omega),zgJ (by omega),e]
  refine⟨fun i j hi hj e=>h1 i j hi hj (st i j hi hj e),fun x hx=>?_⟩
  rcases List.mem_cons.mp hx with z|z
  ·subst z
   refine h1 _ _ y1 y2 ?_
   rw[zgJ (by omega),zgJ (by omega),if_pos (show p.getD x.2.1 0=p.getD x.2.1 0 from rfl)]
   split
   ·rfl
   ·rfl
  ·exact h2 x z
def ls1 (s:Kvs) (x:Int×Nat):Kvs:=zbu s (Sum.inl ((x.2:Nat):Int)) (.int (min x.1 ((gI s x.2).getD x.1)))
def lsF (pl:List Int) (pt:List Nat):Kvs:=(pl.zip pt).foldl ls1 []
theorem zkk {s:Kvs} (x:Int×Nat) (h:Wf s):Wf (ls1 s x)∧(ls1 s x).length≤s.length + 1∧gI (ls1 s x)=up (gI s) x.2 (some (min x.1 ((gI s x.2).getD x.1))):=⟨h.put _ _,zdm _ _ _,zck _ _ _⟩
theorem ziQ:∀ (l:List (Int×Nat)){s:Kvs},Wf s→Wf (l.foldl ls1 s)∧(l.foldl ls1 s).length≤s.length + l.length
 | [],_,h=>⟨h,Nat.le_refl _⟩
 | x::l,s,h=>by
  obtain⟨h1,h2,_⟩:=zkk x h
  obtain⟨h3,h4⟩:=ziQ l h1
  refine⟨h3,Nat.le_trans h4 ?_⟩
  rw[List.length_cons]
  omega
def LsAt (l:List (Int×Nat)) (s:Kvs):Prop:=(∀ x∈l,∃ m,gI s x.2=some m∧m≤x.1)∧∀ v m,gI s v=some m→∃ x∈l,x.2=v∧x.1=m
theorem zkl:∀ (l l0:List (Int×Nat)){s:Kvs},Wf s→LsAt l0 s→LsAt (l0++l) (l.foldl ls1 s)
 | [],l0,_,_,h=>by rw[List.append_nil];exact h
 | x::l,l0,s,wf,h=>by
  obtain⟨w1,_,w3⟩:=zkk x wf
  have e:l0++x::l=(l0++[x])++l:=by rw[List.append_assoc];rfl
  rw[e]
  refine zkl l (l0++[x]) w1 ⟨fun y hy=>?_,fun v m hv=>?_⟩
  ·rw[w3]
   by_cases c:y.2=x.2
   ·rw[c,zal]
    refine⟨_,rfl,?_⟩
    rcases List.mem_append.mp hy with z|z
    ·obtain⟨m,e1,e2⟩:=h.1 y z
     rw[c] at e1
     rw[e1]
     show min x.1 m≤y.1
     omega
    ·rw[List.mem_singleton.mp z]
     omega
   ·rw[zaz _ _ c]
    rcases List.mem_append.mp hy with z|z
    ·exact h.1 y z
    ·rw[List.mem_singleton.mp z] at c
     exact absurd rfl c
  ·rw[w3] at hv
   by_cases c:v=x.2
   ·rw[c,zal] at hv
    have hv:=Option.some.inj hv
    cases eg:gI s x.2 with
    | none=>
     rw[eg] at hv
     have hv:min x.1 x.1=m:=hv
     exact⟨x,List.mem_append_right _ (List.mem_singleton.mpr rfl),c.symm,by omega⟩
    | some b=>
     rw[eg] at hv
     have hv:min x.1 b=m:=hv
     by_cases c2:x.1≤b
     ·exact⟨x,List.mem_append_right _ (List.mem_singleton.mpr rfl),c.symm,by omega⟩
     ·obtain⟨y,y1,y2,y3⟩:=h.2 x.2 b eg
      exact⟨y,List.mem_append_left _ y1,by rw[y2,c],by omega⟩
   ·rw[zaz _ _ c] at hv
    obtain⟨y,y1,y2⟩:=h.2 v m hv
    exact⟨y,List.mem_append_left _ y1,y2⟩
def frN (pl:List Int) (pt:List Nat):List Int:=(pl.zip pt).map fun x=>x.1 - (gI (lsF pl pt) x.2).getD 0
theorem zkm (pl:List Int) (pt:List Nat):LsAt (pl.zip pt) (lsF pl pt):=by
 have:=zkl (pl.zip pt) [] (s:=[]) (fun p hp=>by cases hp) ⟨fun x hx=>(by cases hx),fun v m e=>by cases e⟩
 rw[List.nil_append] at this
 exact this
theorem zly {pl:List Int}{pt:List Nat} (h:pl.length=pt.length):(frN pl pt).length=pl.length:=by
 unfold frN
 rw[List.length_map,List.length_zip]
 omega
theorem zgL {pl:List Int}{pt:List Nat} (h:pl.length=pt.length){i:Nat} (hi:i<pl.length):fn (frN pl pt) i=fn pl i - (gI (lsF pl pt) (pt.getD i 0)).getD 0:=by
 unfold fn frN
 have e1:pl[i]?=some pl[i]:=List.getElem?_eq_getElem hi
 have e2:pt[i]?=some (pt[i]'(by omega)):=List.getElem?_eq_getElem (by omega)
 have e3:(pl.zip pt)[i]?=some (pl[i],pt[i]'(by omega)):=by
  rw[List.getElem?_zip_eq_some]
  exact⟨e1,e2⟩
 rw[List.getD_eq_getElem?_getD,List.getElem?_map,e3,List.getD_eq_getElem?_getD,List.getD_eq_getElem?_getD,e1,e2]
 rfl
theorem ziR {pl:List Int}{pt:List Nat} (h:pl.length=pt.length){i:Nat} (hi:i<pl.length):0≤fn (frN pl pt) i∧∃ j,j<pl.length∧pt.getD j 0=pt.getD i 0∧fn (frN pl pt) j=0:=by
 obtain⟨h1,h2⟩:=zkm pl pt
 have mem:∀ k,k<pl.length→(fn pl k,pt.getD k 0)∈pl.zip pt:=fun k hk=>by
  refine List.mem_of_getElem? (i:=k) ?_
  rw[List.getElem?_zip_eq_some,List.getElem?_eq_getElem hk,List.getElem?_eq_getElem (show k<pt.length by omega)]
  unfold fn
  rw[List.getD_eq_getElem?_getD,List.getD_eq_getElem?_getD,List.getElem?_eq_getElem hk,List.getElem?_eq_getElem (show k<pt.length by omega)]
  exact⟨rfl,rfl⟩
 obtain⟨m,e1,e2⟩:=h1 _ (mem i hi)
 have e1:gI (lsF pl pt) (pt.getD i 0)=some m:=e1
 have e2:m≤fn pl i:=e2
 rw[zgL h hi,e1]
 refine⟨by show 0≤fn pl i - m;omega,?_⟩
 obtain⟨x,x1,x2,x3⟩:=h2 _ m e1
 obtain⟨j,ej⟩:=List.mem_iff_getElem?.mp x1
 rw[List.getElem?_zip_eq_some] at ej
 obtain⟨j1,j2⟩:=ej
 have jl:j<pl.length:=(List.getElem?_eq_some_iff.mp j1).1
 have k1:fn pl j=x.1:=by unfold fn;rw[List.getD_eq_getElem?_getD,j1];rfl
 have k2:pt.getD j 0=x.2:=by rw[List.getD_eq_getElem?_getD,j2];rfl
 refine⟨j,jl,by rw[k2,x2],?_⟩
 rw[zgL h jl,k1,k2,x2,e1]
 show x.1 - m=0
 omega
theorem zjH {pl:List Int}{pt:List Nat} (h:pl.length=pt.length){i j:Nat} (hi:i<pl.length) (hj:j<pl.length) (e:pt.getD i 0=pt.getD j 0):fn (frN pl pt) j - fn (frN pl pt) i=fn pl j - fn pl i:=by
 rw[zgL h hi,zgL h hj,e]
 omega
theorem zgM {p:List Nat}{i:Nat} (h:i<p.length):atI (zbh p) (i:Int)=some (.int (p.getD i 0:Nat)):=by
 unfold zbh
 rw[zch (by omega),Int.toNat_natCast,List.getElem?_map,List.getElem?_eq_getElem h,List.getD_eq_getElem?_getD,List.getElem?_eq_getElem h]
 rfl
section
variable {P:Program}{w:World}{K:PySem.W.Frag}{mg:Str→Option Value}{base:Heap}{a:Adr}
def zlz (K:PySem.W.Frag):Sp:=fun vs H Q _=>∃ l ws,∃ c:Nat,vs=[.int c,.ref l]∧zhj K H l ((ws:List Wt).map wI)∧(∀ x∈ws,x.1<c∧x.2.1<c)∧c≤1000∧∀ g H',zaj H H'→H g=none→H' g=some (.lst (zbh (ptF ws c)))→Q (.ref g) H'
set_option maxHeartbeats 4000000 in
theorem zjI (T:Tx K mg a):Cal P w K mg base CX0 1 "parts_of" ["count","wishes"] [] (zlz K):=T.d_parts_of.cal fun f fd F=>by
 refine F.ok zbx (fun vs H Q E h=>?_) (fun cdv A outer s H vs Q E hr h=>?_)
 ·obtain⟨l,ws,c,rfl,_⟩:=h
  rfl
 ·obtain⟨l,ws,c,rfl,⟨xs,hl,hd⟩,hin,hc,k⟩:=h
  have hwl:ws.length=xs.length:=by rw[← hd.length,List.length_map,List.length_map]
  rw[List.map_map] at hd
  refine⟨_,(zad (zam (i:=2) zbx.nd rfl (by first|exact Or.inl rfl|exact Or.inr rfl) (zfJ rfl T.n_list rfl T.n_range (zab (pv 0) zah)))
   (zad (zce PassesOwn.never rfl (zaF (pv 1)) (zak (i:=3) zbx.nd rfl (by first|exact Or.inl rfl|exact Or.inr rfl)) (zad (zam (i:=4) zbx.nd rfl (by first|exact Or.inl rfl|exact Or.inr rfl) (zas zav (pv 2) (zas zbn (pv 3) zaf (fun _ _=>rfl)) (fun _ _=>rfl)))
   (zad (zam (i:=5) zbx.nd rfl (by first|exact Or.inl rfl|exact Or.inr rfl) (zas zav (pv 2) (zas zbn (pv 3) zaf (fun _ _=>rfl)) (fun _ _=>rfl)))
   (zai (zdS (i:=2) zbx.nd rfl rfl (N:=["part","new","old"]) (cap:=[none,some 5,some 4]) rfl (zaT (osc:=zae zbJ) (XN:=["count","wishes","parts","wish","old","new"]) rfl rfl (by decide +kernel)) (zaF (pv 2)) (fun cl C s H fp pins=>(zak (i:=0) (show(["part","new","old"]:List Str).Nodup by decide +kernel) rfl (by first|exact Or.inl rfl|exact Or.inr rfl))) (fun cl C s H fp pins=>zaW) (fun cl C s H fp pins=>(zeC (zaq zc3 (pv 0) (pv 2) (zau _)) (pv 1) (pv 0))) (hsw:=rfl))))))
   (zai (zaH (pv 2))))),?_⟩
  refine⟨_,rfl,c,rfl,by omega,fun g ng=>?_⟩
  have s1:zaj H (upd H g (.lst (rng c))):=zaj.new ng
  have h1:upd H g (.lst (rng c)) g=some (.lst (zbh (List.range c))):=zaa
  generalize upd H g (.lst (rng c))=H1 at s1 h1 ⊢
  refine⟨_,rfl,l,rfl,⟨_,s1.sqL hl⟩,zc1 (K:=K) (a:=l) (xs:=xs) (fun i σ G=>∃ g v3 v4 v5,σ=[some (.int (c:Nat)),some (.ref l),some (.ref g),v3,v4,v5]∧zaj H G∧H g=none∧G g=some (.lst (zbh ((ws.take i).foldl pt1 (List.range c)))))
   ⟨g,none,none,none,rfl,s1,ng,h1⟩ ?_ ?_ ?_⟩
  ·rintro i σ G _ ⟨g,_,_,_,rfl,sg,_⟩
   exact sg.sqL hl
  ·rintro i x σ G hx ⟨g,v3,v4,v5,rfl,sg,ng,hG⟩
   obtain⟨w0,hw0,dw⟩:=zaR hd hx
   obtain⟨t,rfl,ht⟩:=zfa (sg.dt dw)
   obtain⟨i1,i2⟩:=hin w0 (List.mem_of_getElem? hw0)
   have pl:=ze5 (ws.take i) (List.range c)
   rw[List.length_range] at pl
   have fo:(ws.take (i + 1)).foldl pt1 (List.range c)=pt1 ((ws.take i).foldl pt1 (List.range c)) w0:=by rw[zan hw0,List.foldl_append];rfl
   rw[fo]
   generalize (ws.take i).foldl pt1 (List.range c)=now at hG pl ⊢
   dsimp only[zbl]
   refine⟨_,rfl,_,rfl,t,_,_,_,rfl,rfl,ht,rfl,g,_,_,_,rfl,rfl,SqL.of hG,zgM (by omega),?_⟩
   refine⟨_,rfl,_,rfl,t,_,_,_,rfl,rfl,ht,rfl,g,_,_,_,rfl,rfl,SqL.of hG,zgM (by omega),?_⟩
   refine⟨_,rfl,g,rfl,⟨_,SqL.of hG⟩,fun D hD=>?_⟩
   refine zax (K:=K) (a:=g) (xs:=zbh now) (fun j τ G'=>∃ v1,τ=[v1,some (.int (now.getD w0.1 0:Nat)),some (.int (now.getD w0.2.1 0:Nat))]∧zaj G G'∧G' D=some (.lst (zbh ((now.take j).map fun y=>if y=now.getD w0.2.1 0 then now.getD w0.1 0 else y)))) ⟨none,rfl,zaj.new hD,zaa⟩ ?_ ?_ ?_
   ·rintro j τ G' _ ⟨v1,rfl,sg',_⟩
    exact SqL.of (sg' _ _ hG)
   ·rintro j y τ G' hy ⟨v1,rfl,sg',hy'⟩
    obtain⟨n,hn,rfl⟩:=zdo hy
    dsimp only[zbl,zd7]
    rw[if_pos rfl]
    have ln:(zbh ((now.take j).map fun y=>if y=now.getD w0.2.1 0 then now.getD w0.1 0 else y)).length<sizeLine:=by
     unfold zbh
     rw[List.length_map,List.length_map,List.length_take,sizeLine_eq]
     omega
    have tk1:∀ m:Nat,m=(if n=now.getD w0.2.1 0 then now.getD w0.1 0 else n)→zbh ((now.take j).map fun y=>if y=now.getD w0.2.1 0 then now.getD w0.1 0 else y)++[V.int (m:Nat)]=zbh ((now.take (j + 1)).map fun y=>if y=now.getD w0.2.1 0 then now.getD w0.1 0 else y):=fun m em=>by
     rw[zan hn,List.map_append,em]
     unfold zbh
     rw[List.map_append]
     rfl
    refine⟨_,rfl,_,rfl,rfl,_,rfl,?_⟩
    refine zcT (fun c1=>?_) (fun c1=>?_)
    ·have c2:n=now.getD w0.2.1 0:=by
      have:=of_decide_eq_true c1
      injection this with z
      exact Int.ofNat.inj z
     refine⟨_,rfl,_,hy',ln,_,rfl,zap hD sg',?_⟩
     rw[zaa,tk1 _ (if_pos c2).symm]
    ·have c2:¬ n=now.getD w0.2.1 0:=fun z=>by
      have:=of_decide_eq_false c1
      exact this (by rw[← z])
     refine⟨_,rfl,_,hy',ln,_,rfl,zap hD sg',?_⟩
     rw[zaa,tk1 _ (if_neg c2).symm]
   ·rintro τ G' ⟨v1,rfl,sg',hy'⟩
    rw[List.take_of_length_le (by unfold zbh;rw[List.length_map];exact Nat.le_refl _)] at hy'
    exact⟨D,_,_,_,rfl,sg.trans sg',none_of sg hD,hy'⟩
  ·rintro σ G ⟨g,v3,v4,v5,rfl,sg,ng,hG⟩
   rw[← hwl,List.take_length] at hG
   exact⟨_,rfl,k g G sg ng hG⟩
def zjJ (K:PySem.W.Frag):Sp:=fun vs H Q _=>∃ p t pl pt,vs=[.ref p,.ref t]∧SqL K H p ((pl:List Int).map V.int)∧SqL K H t (zbh pt)∧pl.length=pt.length∧pl.length≤1000∧∀ g H',zaj H H'→H g=none→H' g=some (.lst ((frN pl pt).map V.int))→Q (.ref g) H'
set_option maxHeartbeats 4000000 in
theorem ziS (T:Tx K mg a):Cal P w K mg base CX0 1 "from_nought" ["places","parts"] [] (zjJ K):=T.d_from_nought.cal fun f fd F=>by
 refine F.ok zbA (fun vs H Q E h=>?_) (fun cdv A outer s H vs Q E hr h=>?_)
 ·obtain⟨p,t,pl,pt,rfl,_⟩:=h
  rfl
 ·obtain⟨p,t,pl,pt,rfl,hp,ht,hl,hk,k⟩:=h
  have ex:(pl.map V.int).length=(zbh pt).length:=by unfold zbh;rw[List.length_map,List.length_map,hl]
  have lz:(pl.zip pt).length=pl.length:=by rw[List.length_zip];omega
  have zipat:∀ i x y,(pl.map V.int)[i]?=some x→(zbh pt)[i]?=some y→∃ (u:Int) (v:Nat),x=V.int u∧y=V.int (v:Nat)∧(pl.zip pt)[i]?=some (u,v):=fun i x y h1 h2=>by
   obtain⟨u,hu,rfl⟩:=zby h1
   obtain⟨v,hv,rfl⟩:=zdo h2
   exact⟨u,v,rfl,rfl,by rw[List.getElem?_zip_eq_some];exact⟨hu,hv⟩⟩
  refine⟨_,(zad (zam (i:=2) zbA.nd rfl (by first|exact Or.inl rfl|exact Or.inr rfl) zc7)
   (zad (zce PassesOwn.never rfl (zep rfl T.n_zip (zab (pv 0) (zab (pv 1) zah))) (zcZ rfl (zar (zak (i:=3) zbA.nd rfl (by first|exact Or.inl rfl|exact Or.inr rfl)) (zar (zak (i:=4) zbA.nd rfl (by first|exact Or.inl rfl|exact Or.inr rfl)) zbm))) (zai (zdi (zb1 hr) (pv 2) (pv 4) (zao zg4 rfl T.n_min zgv (zab (pv 3) (zab (zjg (zb1 hr) (pv 2) (pv 4) (pv 3) ⟨rfl,rfl,rfl,rfl⟩) zah))) rfl)))
   (zai (zaH (zaN (N:=["place","part","least"]) (cap:=[none,none,some 2]) rfl (zaT (osc:=zae zbb) (XN:=["places","parts","least","place","part"]) rfl rfl (by decide +kernel)) (zep rfl T.n_zip (zab (pv 0) (zab (pv 1) zah))) (fun cl C s H fp pins=>(zdj (K:=K) (n:=2) rfl rfl (zar (zak (i:=0) (show(["place","part","least"]:List Str).Nodup by decide +kernel) rfl (by first|exact Or.inl rfl|exact Or.inr rfl)) (zar (zak (i:=1) (show(["place","part","least"]:List Str).Nodup by decide +kernel) rfl (by first|exact Or.inl rfl|exact Or.inr rfl)) zbm)))) (fun cl C s H fp pins=>zaW) (fun cl C s H fp pins=>(zaC zbC (pv 0) (zbZ (zb1 hr) (pv 2) (pv 1) (fun _ _=>rfl))))))))),?_⟩
  refine fun d nd=>?_
  have s1:zaj H (upd H d (.dK [])):=zaj.new nd
  have h1:upd H d (.dK []) d=some (.dK []):=zaa
  generalize upd H d (.dK [])=H1 at s1 h1 ⊢
  have wf0:Wf ([]:Kvs):=fun p hp=>by cases hp
  refine⟨_,rfl,_,rfl,p,t,rfl,⟨_,s1.sqL hp⟩,⟨_,s1.sqL ht⟩,zh8 (K:=K) (l1:=p) (l2:=t) (xs:=pl.map V.int) (ys:=zbh pt) ex (fun i σ G=>∃ v3 v4,σ=[some (.ref p),some (.ref t),some (.ref d),v3,v4]∧zaj H G∧G d=some (.dK (((pl.zip pt).take i).foldl ls1 [])))
   ⟨none,none,rfl,s1,h1⟩ ?_ ?_ ?_⟩
  ·rintro i σ G _ ⟨_,_,rfl,sg,_⟩
   exact⟨sg.sqL hp,sg.sqL ht⟩
  ·rintro i x y tt σ G hx hy nt ⟨v3,v4,rfl,sg,hG⟩
   obtain⟨u,v,rfl,rfl,hz⟩:=zipat i x y hx hy
   have s3:zaj G (upd G tt (.tup [.int u,.int (v:Nat)])):=zaj.new nt
   have h3:upd G tt (.tup [.int u,.int (v:Nat)]) tt=some (.tup [.int u,.int (v:Nat)]):=zaa
   generalize upd G tt (.tup [.int u,.int (v:Nat)])=G3 at s3 h3 ⊢
   have hG3:=s3 _ _ hG
   obtain⟨o1,o2⟩:=ziQ ((pl.zip pt).take i) wf0
   have lt:=List.length_take_le i (pl.zip pt)
   have l2:(((pl.zip pt).take i).foldl ls1 []).length≤1000:=by
    have:=List.length_take (i:=i) (l:=pl.zip pt)
    have z:([]:Kvs).length=0:=rfl
    omega
   have fo:((pl.zip pt).take (i + 1)).foldl ls1 []=ls1 (((pl.zip pt).take i).foldl ls1 []) (u,v):=by rw[zan hz,List.foldl_append];rfl
   rw[fo]
   generalize ((pl.zip pt).take i).foldl ls1 []=now at hG3 o1 l2 ⊢
   refine⟨tt,_,rfl,SqT.of h3,rfl,_,_,rfl,_,_,rfl,rfl,?_⟩
   have gd:=o1.dget (v:=v) hG3
   refine⟨_,rfl,_,rfl,d,rfl,.inl ⟨now,.inl hG3⟩,_,rfl,_,rfl,_,gd,u,(gI now v).getD u,?_,_,rfl,_,rfl,d,_,rfl,.inl ⟨now,Sum.inl ((v:Nat):Int),hG3,rfl,by rw[sizeLine_eq];omega,rfl⟩,_,_,rfl,zap nd (sg.trans s3),?_⟩
   ·cases gI now v <;> rfl
   ·rw[zaa]
    unfold ls1
    have e:(if (gI now v).getD u<u then(gI now v).getD u else u)=min u ((gI now v).getD u):=by
     by_cases c1:(gI now v).getD u<u
     ·rw[if_pos c1]
      omega
     ·rw[if_neg c1]
      omega
    rw[e]
  ·rintro σ G ⟨v3,v4,rfl,sg,hG⟩
   have ez:(pl.map V.int).length=(pl.zip pt).length:=by rw[lz,List.length_map]
   rw[ez,List.take_length] at hG
   have hG:G d=some (.dK (lsF pl pt)):=hG
   have wf:Wf (lsF pl pt):=(ziQ (pl.zip pt) wf0).1
   obtain⟨at1,_⟩:=zkm pl pt
   refine⟨_,rfl,_,rfl,p,t,rfl,⟨_,sg.sqL hp⟩,⟨_,sg.sqL ht⟩,fun D hD=>?_⟩
   refine zdA (K:=K) (l1:=p) (l2:=t) (xs:=pl.map V.int) (ys:=zbh pt) ex (fun i τ G'=>∃ v1 v2,τ=[v1,v2,some (.ref d)]∧zaj G G'∧G' D=some (.lst ((((pl.zip pt).take i).map fun x=>x.1 - (gI (lsF pl pt) x.2).getD 0).map V.int))) ⟨none,none,rfl,zaj.new hD,zaa⟩ ?_ ?_ ?_
   ·rintro i τ G' _ ⟨_,_,rfl,sg',_⟩
    exact⟨sg'.sqL (sg.sqL hp),sg'.sqL (sg.sqL ht)⟩
   ·rintro i x y tt τ G' hx hy nt ⟨v1,v2,rfl,sg',hy'⟩
    obtain⟨u,v,rfl,rfl,hz⟩:=zipat i x y hx hy
    have s3:zaj G' (upd G' tt (.tup [.int u,.int (v:Nat)])):=zaj.new nt
    have h3:upd G' tt (.tup [.int u,.int (v:Nat)]) tt=some (.tup [.int u,.int (v:Nat)]):=zaa
    generalize upd G' tt (.tup [.int u,.int (v:Nat)])=G3 at s3 h3 ⊢
    obtain⟨m,em,_⟩:=at1 _ (List.mem_of_getElem? hz)
    have em:gI (lsF pl pt) v=some m:=em
    have gd:=wf.dget (v:=v) (s3 _ _ (sg' _ _ hG))
    rw[em] at gd
    refine⟨tt,_,rfl,SqT.of h3,rfl,_,_,rfl,_,_,rfl,rfl,?_⟩
    dsimp only[zd7]
    rw[if_pos rfl]
    refine⟨_,rfl,_,rfl,_,rfl,d,_,rfl,gd,_,_,rfl,rfl,_,s3 _ _ hy',?_,_,_,rfl,zap hD (sg'.trans s3),?_⟩
    ·rw[List.length_map,List.length_map,List.length_take,sizeLine_eq]
     omega
    ·rw[zaa,zan hz,List.map_append,List.map_append]
     show _=some (HO.lst (_++[V.int (u - (gI (lsF pl pt) v).getD 0)]))
     rw[em]
     rfl
   ·rintro τ G' ⟨v1,v2,rfl,sg',hy'⟩
    rw[ez,List.take_length] at hy'
    exact k D G' (sg.trans sg') (none_of sg hD) hy'
end
end K21
namespace K21
open PySem L2
theorem pz_fn (l:List Int) (k:Nat):pz l (k:Int)=fn l k:=by
 unfold pz fn
 rw[Int.toNat_natCast]
theorem ziT {ws:List Wt}{c:Nat}{am:List Int} (hin:∀ x∈ws,x.1<c∧x.2.1<c) (hl:am.length=ws.length) (v:Nat):∀ i,i≤ws.length→fn ((((ws.map wI).zip am).take i).foldl zcI (List.replicate c 0)) v=sm (fun n=>(if (wn ws c).ot n=v then fn am n else 0) - (if (wn ws c).on n=v then fn am n else 0)) i
 | 0,_=>by
  show fn (List.replicate c 0) v=0
  rw[ze2]
 | i + 1,hi=>by
  have ih:=ziT hin hl v i (by omega)
  have e1:ws[i]?=some (ws.getD i (0,0,0,0)):=by rw[List.getD_eq_getElem?_getD,List.getElem?_eq_getElem (show i<ws.length by omega)];rfl
  have e2:am[i]?=some (fn am i):=by unfold fn;rw[List.getD_eq_getElem?_getD,List.getElem?_eq_getElem (show i<am.length by omega)];rfl
  have e3:((ws.map wI).zip am)[i]?=some (wI (ws.getD i (0,0,0,0)),fn am i):=by
   rw[List.getElem?_zip_eq_some,List.getElem?_map,e1]
   exact⟨rfl,e2⟩
  obtain⟨i1,i2⟩:=hin _ (List.mem_of_getElem? e1)
  have ln:((((ws.map wI).zip am).take i).foldl zcI (List.replicate c 0)).length=c:=by rw[zdE,List.length_replicate]
  rw[zan e3,List.foldl_append]
  show fn (zcI ((((ws.map wI).zip am).take i).foldl zcI (List.replicate c 0)) (wI (ws.getD i (0,0,0,0)),fn am i)) v=sm _ i + ((if (ws.getD i (0,0,0,0)).2.1=v then fn am i else 0) - (if (ws.getD i (0,0,0,0)).1=v then fn am i else 0))
  rw[← ih]
  generalize (((ws.map wI).zip am).take i).foldl zcI (List.replicate c 0)=ls at ln ⊢
  generalize ws.getD i (0,0,0,0)=x at i1 i2 ⊢
  have es:zcI ls (wI x,fn am i)=(ls.set x.2.1 (fn ls x.2.1 + fn am i)).set x.1 (fn (ls.set x.2.1 (fn ls x.2.1 + fn am i)) x.1 - fn am i):=by
   unfold zcI
   show(ls.set ((x.2.1:Nat):Int).toNat (pz ls ((x.2.1:Nat):Int) + fn am i)).set ((x.1:Nat):Int).toNat (pz (ls.set ((x.2.1:Nat):Int).toNat (pz ls ((x.2.1:Nat):Int) + fn am i)) ((x.1:Nat):Int) - fn am i)=_
   rw[Int.toNat_natCast,Int.toNat_natCast,pz_fn,pz_fn]
  rw[es,zdu (by rw[List.length_set];omega),zdu (by omega)]
  by_cases c1:v=x.1
  ·subst c1
   rw[zal,if_pos rfl]
   by_cases c2:x.1=x.2.1
   ·rw[if_pos c2.symm,c2,zal]
    omega
   ·rw[if_neg (Ne.symm c2),zaz _ _ c2]
    omega
  ·rw[zaz _ _ c1,if_neg (Ne.symm c1)]
   by_cases c2:v=x.2.1
   ·subst c2
    rw[if_pos rfl,zal]
    omega
   ·rw[if_neg (Ne.symm c2),zaz _ _ c2]
    omega
theorem zjK {ws:List Wt}{c:Nat}{am:List Int} (hin:∀ x∈ws,x.1<c∧x.2.1<c) (hl:am.length=ws.length) (v:Nat):fn (zfQ c (ws.map wI) am) v=bal (wn ws c) (fn am) v:=by
 have h:=ziT hin hl v ws.length (Nat.le_refl _)
 rw[List.take_of_length_le (by rw[List.length_zip,List.length_map];omega)] at h
 exact h
theorem zhc {ws:List Wt}{c:Nat} (hin:∀ x∈ws,x.1<c∧x.2.1<c):(wn ws c).Ok:=by
 have g:∀ n,n<ws.length→ws.getD n (0,0,0,0)∈ws:=fun n hn=>by
  rw[List.getD_eq_getElem?_getD,List.getElem?_eq_getElem hn]
  exact List.getElem_mem hn
 exact⟨fun n hn=>(hin _ (g n hn)).1,fun n hn=>(hin _ (g n hn)).2⟩
inductive Run (ws:List Wt) (c:Nat):S3→S3→Prop
 | stop (s:S3) (h:∀ v,v<c→¬ 0<fn s.2.2 v):Run ws c s s
 | step (s s' t:S3) (h:∃ v,v<c∧0<fn s.2.2 v) (e:Snd ws c s s') (r:Run ws c s' t):Run ws c s t
def wts (ws:List Wt):List Int:=(ws.map wI).map fun q=>q.2.2.2
def zhk (ws:List Wt) (W:Int):List Int:=(wts ws).map fun y=>y / W % 16
def figS (ws:List Wt) (c:Nat) (W:Int) (s:List Int×List Int):S3:=(s.1,s.2.map fun x=>x * 16,zfQ c (ws.map wI) (zhk ws W))
inductive zi6 (ws:List Wt) (c:Nat):List Int→List Int×List Int→List Int×List Int→Prop
 | nil (s:List Int×List Int):zi6 ws c [] s s
 | cons (W:Int) (r:List Int) (s:List Int×List Int) (t:S3) (u:List Int×List Int) (h:Run ws c (figS ws c W s) t) (e:zi6 ws c r (t.1,t.2.1) u):zi6 ws c (W::r) s u
def Told (ws:List Wt) (c:Nat) (out:List Int×List Int):Prop:=∃ m P fl,FigOk (mxL (wts ws)) m∧zi6 ws c (pw m) (zkb ws c,List.replicate ws.length 0) (P,fl)∧out=(frN P (ptF ws c),fl)
structure zcA (ws:List Wt) (c:Nat) (pl fl:List Int):Prop where
 lp:pl.length=c
 lf:fl.length=ws.length
 ti:Ti (wn ws c) (fn pl) (fn fl)
 bl:∀ v,v<c→bal (wn ws c) (fn fl) v=bal (wn ws c) (wtF ws) v
 ls:∀ i,i<c→0≤fn pl i∧∃ j,j<c∧(ptF ws c).getD j 0=(ptF ws c).getD i 0∧fn pl j=0
theorem zcj.none {N:Wn}{ring:List Nat} (h:zcj N ring){P:Nat→Int} (fit:∀ n,n<N.m→0≤slk N P n):False:=by
 have pos:=h.pos
 obtain⟨P0,t,pu,p,k,fi,hp,all,rfl,back,ne⟩:=h.told
 have key:∀ j,((rgL N pu p j).map N.le).sum≤P p - P (itr (bk N pu) j p):=fun j=>by
  induction j with
  | zero=>
   show(0:Int)≤P p - P p
   omega
  | succ j ih=>
   show N.le (cn pu (itr (bk N pu) j p)) + ((rgL N pu p j).map N.le).sum≤_
   obtain⟨m1,ot,_⟩:=fi.a _ _ (zbs (all j))
   have on:itr (bk N pu) (j + 1) p=N.on (cn pu (itr (bk N pu) j p)):=ze1 (all j)
   have s:=fit _ m1
   unfold slk at s
   rw[ot] at s
   rw[on]
   omega
 have z:=key (k + 1)
 rw[back] at z
 omega
theorem zlA:∀ m i,i≤m→(pw m)[i]?=some ((16:Int) ^ (m - i))
 | 0,i,h=>by
  obtain rfl:i=0:=by omega
  rfl
 | m + 1,0,_=>rfl
 | m + 1,i + 1,h=>by
  show(pw m)[i]?=_
  rw[zlA m i (by omega),show m + 1 - (i + 1)=m - i by omega]
theorem zlB (m i:Nat) (h:i≤m):(pw m).drop i=(16:Int) ^ (m - i)::(pw m).drop (i + 1):=by
 have l:=zgI m
 rw[List.drop_eq_getElem_cons (by omega)]
 have e:=zlA m i h
 rw[List.getElem?_eq_getElem (by omega)] at e
 rw[Option.some.inj e]
theorem zkn {f:Int→Int} (h:f 0=0) (l:List Int) (n:Nat):fn (l.map f) n=f (fn l n):=by
 unfold fn
 rw[List.getD_eq_getElem?_getD,List.getD_eq_getElem?_getD,List.getElem?_map]
 cases l[n]? with
 | none=>exact h.symm
 | some x=>rfl
theorem ziU (ws:List Wt) (n:Nat):fn (wts ws) n=wtF ws n:=by
 unfold fn wts wtF
 rw[List.getD_eq_getElem?_getD,List.getD_eq_getElem?_getD,List.getElem?_map,List.getElem?_map]
 cases ws[n]? with
 | none=>rfl
 | some x=>rfl
theorem ze6 (ws:List Wt):(wts ws).length=ws.length:=by
 unfold wts
 rw[List.length_map,List.length_map]
theorem zgN (ws:List Wt) (W:Int):(zhk ws W).length=ws.length:=by
 unfold zhk
 rw[List.length_map,ze6]
theorem zlC (ws:List Wt) (W:Int) (n:Nat):fn (zhk ws W) n=wtF ws n / W % 16:=by
 unfold zhk
 rw[zkn (by rw[Int.zero_ediv];rfl),ziU]
theorem zdg {N:Wn}{f g:Nat→Int} (h:∀ n,n<N.m→f n=g n) (v:Nat):bal N f v=bal N g v:=by
 unfold bal
 exact zaA _ fun n hn=>by rw[h n hn]
theorem ziV {ws:List Wt}{c:Nat}{W:Int}{fl:List Int}{P:Nat→Int} (hW:0<W) (hin:∀ x∈ws,x.1<c∧x.2.1<c) (ti:Ti (wn ws c) P (fn fl)) (hb:∀ v,v<c→bal (wn ws c) (fn fl) v=bal (wn ws c) (fun n=>wtF ws n / (W * 16)) v) :
  Ti (wn ws c) P (fn (fl.map fun x=>x * 16))∧∀ v,v<c→fn (zfQ c (ws.map wI) (zhk ws W)) v=bal (wn ws c) (fun n=>wtF ws n / W) v - bal (wn ws c) (fn (fl.map fun x=>x * 16)) v:=by
 have e16:∀ n,fn (fl.map fun x=>x * 16) n=16 * fn fl n + 0:=fun n=>by
  rw[zkn (by rfl)]
  omega
 refine⟨⟨ti.s,fun n hn=>?_,fun n hn f=>?_⟩,fun v hv=>?_⟩
 ·have:=ti.f n hn
  rw[e16]
  omega
 ·rw[e16] at f
  exact ti.t n hn (by omega)
 ·rw[zjK hin (zgN ws W)]
  have b1:bal (wn ws c) (fn (fl.map fun x=>x * 16)) v=16 * bal (wn ws c) (fn fl) v:=by
   rw[zdg (fun n _=>e16 n) v,ziu,zjx]
   omega
  have b2:bal (wn ws c) (fun n=>wtF ws n / W) v=16 * bal (wn ws c) (fun n=>wtF ws n / (W * 16)) v + bal (wn ws c) (fn (zhk ws W)) v:=by
   rw[← ziu]
   refine zdg (fun n _=>?_) v
   show wtF ws n / W=16 * (wtF ws n / (W * 16)) + fn (zhk ws W) n
   rw[zlC,← Int.ediv_ediv_of_nonneg (Int.le_of_lt hW)]
   omega
  rw[b1,b2,hb v hv]
  omega
theorem zlD {ws:List Wt}{c:Nat}{wgt:Nat→Int}{fl nd:Nat→Int} (ok:(wn ws c).Ok) (hnd:∀ v,v<c→nd v=bal (wn ws c) wgt v - bal (wn ws c) fl v) (h:∀ v,v<c→¬ 0<nd v):∀ v,v<c→bal (wn ws c) fl v=bal (wn ws c) wgt v:=fun v hv=>by
 have z:=ziv (N:=wn ws c) (zis ok hnd) (fun p hp=>by
  have:=h p hp
  omega) v hv
 have:=hnd v hv
 omega
theorem zlE {ws:List Wt}{c:Nat}{P fl:List Int} (hin:∀ x∈ws,x.1<c∧x.2.1<c) (hp:P.length=c) (hf:fl.length=ws.length) (ti:Ti (wn ws c) (fn P) (fn fl)) (hb:∀ v,v<c→bal (wn ws c) (fn fl) v=bal (wn ws c) (wtF ws) v):zcA ws c (frN P (ptF ws c)) fl:=by
 have pl:(ptF ws c).length=c:=by
  unfold ptF
  rw[ze5,List.length_range]
 have hl:P.length=(ptF ws c).length:=by omega
 have g:∀ n,n<ws.length→ws.getD n (0,0,0,0)∈ws:=fun n hn=>by
  rw[List.getD_eq_getElem?_getD,List.getElem?_eq_getElem hn]
  exact List.getElem_mem hn
 have sl:∀ n,n<ws.length→slk (wn ws c) (fn (frN P (ptF ws c))) n=slk (wn ws c) (fn P) n:=fun n hn=>by
  obtain⟨i1,i2⟩:=hin _ (g n hn)
  have e:=(zgK c ws (List.range c) List.length_range hin).2 _ (g n hn)
  have:=zjH (i:=(ws.getD n (0,0,0,0)).1) (j:=(ws.getD n (0,0,0,0)).2.1) hl (by omega) (by omega) e
  show fn (frN P (ptF ws c)) (ws.getD n (0,0,0,0)).2.1 - fn (frN P (ptF ws c)) (ws.getD n (0,0,0,0)).1 - _=fn P (ws.getD n (0,0,0,0)).2.1 - fn P (ws.getD n (0,0,0,0)).1 - _
  omega
 refine⟨(zly hl).trans hp,hf,⟨fun n hn=>by rw[sl n hn];exact ti.s n hn,ti.f,fun n hn f=>by rw[sl n hn];exact ti.t n hn f⟩,hb,fun i hi=>?_⟩
 have:=ziR hl (i:=i) (by omega)
 rw[hp] at this
 exact this
end K21
namespace K21
open PySem L2
theorem ziW {r:LR}{d:Addr}:zcl "flow" (.ref d) (zcX r)=zcX { r with f:=d }:=by
 have h1:¬ (("ones":Str)="flow"):=by decide +kernel
 have h2:¬ (("others":Str)="flow"):=by decide +kernel
 have h3:¬ (("leasts":Str)="flow"):=by decide +kernel
 have h4:¬ (("places":Str)="flow"):=by decide +kernel
 simp only[zcX,zcl,h1,h2,h3,h4,if_false,if_true]
theorem zhd {r:LR}{d:Addr}:zcl "needs" (.ref d) (zcX r)=zcX { r with n:=d }:=by
 have h1:¬ (("ones":Str)="needs"):=by decide +kernel
 have h2:¬ (("others":Str)="needs"):=by decide +kernel
 have h3:¬ (("leasts":Str)="needs"):=by decide +kernel
 have h4:¬ (("places":Str)="needs"):=by decide +kernel
 have h5:¬ (("flow":Str)="needs"):=by decide +kernel
 simp only[zcX,zcl,h1,h2,h3,h4,h5,if_false,if_true]
theorem zcH.reF {C:Addr}{G G1:Hp}{q d dx:Addr}{r:LR}{ws:List Wt}{cnt:Nat}{o1 o2:HO} (h:zcH C G q r ws cnt) (s:zaj G G1) (nd:G d=none) (hp:G r.p=some o1) (hn:G r.n=some o2) (hl1:∃ x,o1=.lst x) (hl2:∃ x,o2=.lst x):zcH C (upd G1 q (.ins C dx (zcX { r with f:=d }))) q { r with f:=d } ws cnt:=by
 have kp:∀ a xs,G a=some (.lst xs)→upd G1 q (.ins C dx (zcX { r with f:=d })) a=some (.lst xs):=fun a xs e=>by
  obtain⟨dy,ey⟩:=h.ex
  rw[zag (zgS e ey (by intro z;cases z))]
  exact s _ _ e
 have nq:∀ a xs,G a=some (.lst xs)→Nq r a→Nq { r with f:=d } a:=fun a xs e n=>⟨n.1,zac e nd,n.2.2⟩
 obtain⟨dy,ey⟩:=h.ex
 obtain⟨gs,g1,g2,g3⟩:=h.hg
 obtain⟨cs,c1,c2,c3⟩:=h.hc
 exact⟨⟨dx,zaa⟩,kp _ _ h.ho,kp _ _ h.ht,kp _ _ h.hl,⟨gs,kp _ _ g1,g2,fun i a e=>⟨kp _ _ (g3 i a e).1,nq _ _ (g3 i a e).1 (g3 i a e).2⟩⟩,⟨cs,kp _ _ c1,c2,fun i a e=>⟨kp _ _ (c3 i a e).1,nq _ _ (c3 i a e).1 (c3 i a e).2⟩⟩,
  nq _ _ h.ho h.no,nq _ _ h.ht h.nt,nq _ _ h.hl h.nl,nq _ _ g1 h.ng,nq _ _ c1 h.nc,⟨h.nq.1,zac ey nd,h.nq.2.2⟩,zac hp nd,h.pn,Ne.symm (zac hn nd)⟩
theorem zcH.reN {C:Addr}{G G1:Hp}{q d dx:Addr}{r:LR}{ws:List Wt}{cnt:Nat}{o1 o2:HO} (h:zcH C G q r ws cnt) (s:zaj G G1) (nd:G d=none) (hp:G r.p=some o1) (hf:G r.f=some o2) (hl1:∃ x,o1=.lst x) (hl2:∃ x,o2=.lst x):zcH C (upd G1 q (.ins C dx (zcX { r with n:=d }))) q { r with n:=d } ws cnt:=by
 have kp:∀ a xs,G a=some (.lst xs)→upd G1 q (.ins C dx (zcX { r with n:=d })) a=some (.lst xs):=fun a xs e=>by
  obtain⟨dy,ey⟩:=h.ex
  rw[zag (zgS e ey (by intro z;cases z))]
  exact s _ _ e
 have nq:∀ a xs,G a=some (.lst xs)→Nq r a→Nq { r with n:=d } a:=fun a xs e n=>⟨n.1,n.2.1,zac e nd⟩
 obtain⟨dy,ey⟩:=h.ex
 obtain⟨gs,g1,g2,g3⟩:=h.hg
 obtain⟨cs,c1,c2,c3⟩:=h.hc
 exact⟨⟨dx,zaa⟩,kp _ _ h.ho,kp _ _ h.ht,kp _ _ h.hl,⟨gs,kp _ _ g1,g2,fun i a e=>⟨kp _ _ (g3 i a e).1,nq _ _ (g3 i a e).1 (g3 i a e).2⟩⟩,⟨cs,kp _ _ c1,c2,fun i a e=>⟨kp _ _ (c3 i a e).1,nq _ _ (c3 i a e).1 (c3 i a e).2⟩⟩,
  nq _ _ h.ho h.no,nq _ _ h.ht h.nt,nq _ _ h.hl h.nl,nq _ _ g1 h.ng,nq _ _ c1 h.nc,⟨h.nq.1,h.nq.2.1,zac ey nd⟩,h.pf,zac hp nd,zac hf nd⟩
structure Lp (C:Addr) (HB:Hp) (q:Addr) (r0 r:LR) (ws:List Wt) (c:Nat) (G:Hp) (P fl:List Int):Prop where
 lay:zcH C G q r ws c
 kx:Kx [q,r0.p,r0.f,r0.n] HB G
 ep:r.p=r0.p
 ef:∀ b o,HB b=some o→b∉[q,r0.p,r0.f,r0.n]→b≠r.f
 en:∀ b o,HB b=some o→b∉[q,r0.p,r0.f,r0.n]→b≠r.n
 hp:G r.p=some (.lst (P.map V.int))
 hf:G r.f=some (.lst (fl.map V.int))
 hn:∃ nd,G r.n=some (.lst nd)
 lp:P.length=c
 lf:fl.length=ws.length
 ti:Ti (wn ws c) (fn P) (fn fl)
theorem wI_inR {ws:List Wt}{c:Nat} (hin:∀ x∈ws,x.1<c∧x.2.1<c):∀ q∈ws.map wI,InR c q:=fun q hq=>by
 obtain⟨x,hx,rfl⟩:=List.mem_map.mp hq
 obtain⟨i1,i2⟩:=hin x hx
 exact⟨⟨by show(0:Int)≤(x.1:Nat);omega,by show((x.1:Nat):Int)<c;omega⟩,by show(0:Int)≤(x.2.1:Nat);omega,by show((x.2.1:Nat):Int)<c;omega⟩
section
variable {P:Program}{w:World}{K:PySem.W.Frag}{mg:Str→Option Value}{base:Heap}{a:Adr}
def spLaid (K:PySem.W.Frag) (t:Adr):Sp:=fun vs H Q E=>∃ l ws,∃ c:Nat,vs=[.int c,.ref l]∧zhj K H l ((ws:List Wt).map wI)∧(∀ x∈ws,x.1<c∧x.2.1<c)∧(∀ x∈ws,0≤x.2.2.2∧x.2.2.2<2 ^ 61)∧ws.length≤200∧c≤200∧H t.tb_search=some (.tbl zb7 zb8) ∧
 (∀ pl fl g pA fA H',zaj H H'→H g=none→H' g=some (.tup [.ref pA,.ref fA])→H pA=none→H fA=none→pA≠fA→H' pA=some (.lst ((pl:List Int).map V.int))→H' fA=some (.lst ((fl:List Int).map V.int))→Told ws c (pl,fl)→zcA ws c pl fl→Q (.ref g) H') ∧
 ∀ ring lr dx H',zaj H H'→H' dx=some (.xd [("ring",.ref lr)])→H' lr=some (.lst (zbh ring))→zcj (wn ws c) ring→ring.length≤c + 1→E (.ref t.Ring) (some dx) H'
set_option maxHeartbeats 8000000 in
theorem zlF (T:Tx K mg a):Cal P w K mg base (CXe P w) 6 "laid" ["count","wishes"] [] (spLaid K a):=T.d_laid.cal fun f fd F=>by
 have i_Layout:=zlv (P:=P) (w:=w) (base:=base) T
 have c_fit:=ok_fit (P:=P) (w:=w) (base:=base) T
 have c_weights_of:=zhb (P:=P) (w:=w) (base:=base) T
 have c_figure_worths:=zlx (P:=P) (w:=w) (base:=base) T
 have c_left_at_points:=zls (P:=P) (w:=w) (base:=base) T
 have c_send_once:=zlr (P:=P) (w:=w) (base:=base) T
 have c_from_nought:=ziS (P:=P) (w:=w) (base:=base) T
 have c_parts_of:=zjI (P:=P) (w:=w) (base:=base) T
 refine F.okX zeU (fun vs H Q E h=>?_) (fun cdv A outer s H vs Q E hr h=>?_)
 ·obtain⟨l,ws,c,rfl,_⟩:=h
  rfl
 ·obtain⟨l,ws,c,rfl,hws,hin,hwt,hw,hc,htb,k1,k2⟩:=h
  have ok:=zhc hin
  refine⟨_,(zad (zam (i:=2) zeU.nd rfl (by first|exact Or.inl rfl|exact Or.inr rfl) (zkV i_Layout (hr.mono (by decide)) rfl (zab (pv 0) (zab (pv 1) zah))))
   (zad (zbX (zhX c_fit zhP (hr.mono (by decide)) rfl (zab (pv 2) zah)))
   (zad (zam (i:=3) zeU.nd rfl (by first|exact Or.inl rfl|exact Or.inr rfl) (zaK c_weights_of (hr.mono (by decide)) rfl (zab (pv 1) zah)))
   (zad (zce PassesOwn.leaving rfl (zaF (zaK c_figure_worths (hr.mono (by decide)) rfl (zab (pv 3) zah))) (zak (i:=4) zeU.nd rfl (by first|exact Or.inl rfl|exact Or.inr rfl)) (zad (zcK (pv 2) (zaN (N:=["amount"]) (cap:=[none]) rfl (zaT (osc:=zae zds) (XN:=["count","wishes","layout","weights","worth"]) rfl rfl (by decide +kernel)) (zaF (zaJ (pv 2) rfl)) (fun cl C s H fp pins=>(zak (i:=0) (show(["amount"]:List Str).Nodup by decide +kernel) rfl (by first|exact Or.inl rfl|exact Or.inr rfl))) (fun cl C s H fp pins=>zaW) (fun cl C s H fp pins=>(zaC zcf (pv 0) (zeN rfl T.k_BASE)))) rfl)
   (zad (zcK (pv 2) (zaK c_left_at_points (hr.mono (by decide)) rfl (zab (pv 0) (zab (pv 1) (zab (zaN (N:=["weight","worth"]) (cap:=[none,some 4]) rfl (zaT (osc:=zae zds) (XN:=["count","wishes","layout","weights","worth"]) rfl rfl (by decide +kernel)) (zaF (pv 3)) (fun cl C s H fp pins=>(zak (i:=0) (show(["weight","worth"]:List Str).Nodup by decide +kernel) rfl (by first|exact Or.inl rfl|exact Or.inr rfl))) (fun cl C s H fp pins=>zaW) (fun cl C s H fp pins=>(zaC zbL (zaC zjs (pv 0) (pv 1)) (zeN rfl T.k_BASE)))) zah)))) rfl)
   (zai (zc0 PassesOwn.leaving (zbT (zao zdY rfl T.n_any zh0 (zab (zaN (N:=["need"]) (cap:=[none]) rfl (zaT (osc:=zae zds) (XN:=["count","wishes","layout","weights","worth"]) rfl rfl (by decide +kernel)) (zaF (zaJ (pv 2) rfl)) (fun cl C s H fp pins=>(zak (i:=0) (show(["need"]:List Str).Nodup by decide +kernel) rfl (by first|exact Or.inl rfl|exact Or.inr rfl))) (fun cl C s H fp pins=>zaW) (fun cl C s H fp pins=>(zbM zc4 (pv 0) zaf (zau _)))) zah))) (zai (zbX (zaK c_send_once (hr.mono (by decide)) rfl (zab (pv 2) zah)))))))))
   (zai (zaH (zfj (zab (zaK c_from_nought (hr.mono (by decide)) rfl (zab (zaJ (pv 2) rfl) (zab (zaK c_parts_of (hr.mono (by decide)) rfl (zab (pv 0) (zab (pv 1) zah))) zah))) (zab (zaJ (pv 2) rfl) zah))))))))),?_⟩
  refine⟨_,rfl,_,rfl,fun q dx nq nd ne=>?_⟩
  have nq1:upd H dx (.own q) q=none:=by rw[zag (Ne.symm ne)];exact nq
  have sa:zaj H (upd (upd H dx (.own q)) q (.ins a.Layout dx [])):=(zaj.new nd).trans (zaj.new nq1)
  have qa:upd (upd H dx (.own q)) q (.ins a.Layout dx []) q=some (.ins a.Layout dx []):=zaa
  generalize upd (upd H dx (.own q)) q (.ins a.Layout dx [])=Ha at sa qa ⊢
  refine⟨q,dx,l,ws,c,rfl,qa,hws.same sa,hin,by omega,by omega,fun r0 Hb kxb Lb hpb hfb hnb np nf nn=>⟨rfl,?_⟩⟩
  have sb:zaj H Hb:=fun b o e=>kxb b o (sa b o e) fun y=>by
   rw[List.mem_singleton.mp y,nq] at e
   cases e
  have np0:=none_of sa np
  have nf0:=none_of sa nf
  have nn0:=none_of sa nn
  refine⟨_,rfl,q,r0,ws,c,rfl,Lb,hpb,ok,hw,hc,fun fits flen Hc kxc hpc=>?_,fun ring lr dxr Hc kxc hdx hlr told len=>?_⟩
  rotate_left
  ·refine k2 ring lr dxr Hc (fun b o e=>kxc b o (sb b o e) fun y=>?_) hdx hlr told len
   rw[List.mem_singleton.mp y,np0] at e
   cases e
  have sc:zaj H Hc:=fun b o e=>kxc b o (sb b o e) fun y=>by
   rw[List.mem_singleton.mp y,np0] at e
   cases e
  have Lc:zcH a.Layout Hc q r0 ws c:=Lb.kx kxc fun y hy=>.inl (List.mem_singleton.mp hy)
  have hfc:Hc r0.f=some (.lst ((List.replicate ws.length (0:Int)).map V.int)):=kxc _ _ hfb (by simp[Ne.symm Lb.pf])
  have hnc:Hc r0.n=some (.lst ((List.replicate c (0:Int)).map V.int)):=kxc _ _ hnb (by simp[Ne.symm Lb.pn])
  clear kxb kxc hpb hfb hnb
  refine⟨_,rfl,l,ws.map wI,rfl,hws.same sc,by rw[List.length_map];omega,fun wl Hd sd nwl hwl=>?_⟩
  have hwl:Hd wl=some (.lst ((wts ws).map V.int)):=hwl
  have wcond:∀ x∈wts ws,0≤x∧x<2 ^ 61:=fun x hx=>by
   obtain⟨y,hy,rfl⟩:=List.mem_map.mp hx
   obtain⟨z,hz,rfl⟩:=List.mem_map.mp hy
   exact hwt z hz
  refine⟨_,rfl,wl,wts ws,rfl,SqL.of hwl,wcond,fun m g He se ng hg fig mle=>?_⟩
  have s_ce:=sd.trans se
  have sHe:zaj H He:=sc.trans s_ce
  have hwle:=se _ _ hwl
  have fr:∀ b∈[q,r0.p,r0.f,r0.n],H b=none:=fun b hb=>by
   simp only[List.mem_cons,List.not_mem_nil,or_false] at hb
   rcases hb with z|z|z|z <;> rw[z] <;> assumption
  have stay:∀ b o,H b=some o→∀ G,Kx [q,r0.p,r0.f,r0.n] He G→G b=some o:=fun b o e G kx=>kx b o (sHe b o e) fun y=>by
   rw[fr b y] at e
   cases e
  have sG:∀ G,Kx [q,r0.p,r0.f,r0.n] He G→zaj H G:=fun G kx b o e=>stay b o e G kx
  have al:∀ b∈[q,r0.p,r0.f,r0.n],∃ o,Hc b=some o:=fun b hb=>by
   obtain⟨dxc,exc⟩:=Lc.ex
   simp only[List.mem_cons,List.not_mem_nil,or_false] at hb
   rcases hb with z|z|z|z <;> rw[z]
   ·exact⟨_,exc⟩
   ·exact⟨_,hpc⟩
   ·exact⟨_,hfc⟩
   ·exact⟨_,hnc⟩
  have wlS:wl∉[q,r0.p,r0.f,r0.n]:=fun y=>by
   obtain⟨o,e⟩:=al wl y
   rw[nwl] at e
   cases e
  have gS:g∉[q,r0.p,r0.f,r0.n]:=fun y=>by
   obtain⟨o,e⟩:=al g y
   rw[sd _ _ e] at ng
   cases ng
  have kwl:∀ G,Kx [q,r0.p,r0.f,r0.n] He G→G wl=some (.lst ((wts ws).map V.int)):=fun G kx=>kx _ _ hwle wlS
  have kg:∀ G,Kx [q,r0.p,r0.f,r0.n] He G→G g=some (.lst ((pw m).map V.int)):=fun G kx=>kx _ _ hg gS
  have wsz:=ziN (wts ws)
  have w62:∀ i,i≤m→(16:Int) ^ (m - i)<2 ^ 62:=fun i hi=>by
   rcases Nat.eq_zero_or_pos m with z|z
   ·rw[z,Nat.zero_sub]
    decide
   ·have e1:=fig.1 (m - 1) (by omega)
    have e2:(16:Int) ^ m=16 ^ (m - 1) * 16:=by rw[← zcF,show m - 1 + 1=m by omega]
    have e3:=zgH (m:=2 ^ 61 - 1) (wts ws) (by decide) fun x hx=>by
     have:=(wcond x hx).2
     omega
    have e4:(16:Int) ^ (m - i)≤16 ^ m:=by
     have h:=Nat.pow_le_pow_right (n:=16) (by decide) (show m - i≤m by omega)
     exact_mod_cast h
    omega
  have pl:=zgI m
  refine⟨g,rfl,⟨_,SqL.of hg⟩,zc1 (K:=K) (a:=g) (xs:=(pw m).map V.int) (fun i σ G=>∃ r P fl v4,σ=[some (.int (c:Nat)),some (.ref l),some (.ref q),some (.ref wl),v4]∧Lp a.Layout He q r0 r ws c G P fl∧(∀ v,v<c→bal (wn ws c) (fn fl) v=bal (wn ws c) (fun n=>wtF ws n / (16:Int) ^ (m + 1 - i)) v) ∧
    ∀ out,zi6 ws c ((pw m).drop i) (P,fl) out→zi6 ws c (pw m) (zkb ws c,List.replicate ws.length 0) out)
   ⟨r0,zkb ws c,List.replicate ws.length 0,none,rfl,⟨Lc.same s_ce,Kx.of (zaj.refl _),rfl,fun b o e z y=>z (by rw[y];simp),fun b o e z y=>z (by rw[y];simp),s_ce _ _ hpc,s_ce _ _ hfc,⟨_,s_ce _ _ hnc⟩,flen,List.length_replicate,?_⟩,?_,fun out h=>h⟩ ?_ ?_ ?_⟩
  ·rw[ze2]
   exact⟨fits,fun n _=>Int.le_refl _,fun n _ z=>absurd z (Int.lt_irrefl _)⟩
  ·intro v hv
   rw[ze2]
   refine zdg (fun n hn=>?_) v
   have hn:n<ws.length:=hn
   have wm:wtF ws n∈wts ws:=by
    rw[← ziU]
    unfold fn
    rw[List.getD_eq_getElem?_getD,List.getElem?_eq_getElem (by rw[ze6];exact hn)]
    exact List.getElem_mem _
   have e1:=wsz.2 _ wm
   have e2:=(wcond _ wm).1
   have e3:=fig.2
   rw[← zcF] at e3
   show(0:Int)=wtF ws n / 16 ^ (m + 1 - 0)
   rw[Nat.sub_zero]
   exact(Int.ediv_eq_zero_of_lt e2 (by omega)).symm
  ·rintro i σ G _ ⟨r,P,fl,v4,rfl,lp,_⟩
   exact SqL.of (kg G lp.kx)
  ·rintro i x σ G hx ⟨r,P,fl,v4,rfl,lp,hb,hfg⟩
   have hi:i≤m:=by
    have:=(List.getElem?_eq_some_iff.mp hx).1
    rw[List.length_map,pl] at this
    omega
   have ex:x=.int ((16:Int) ^ (m - i)):=by
    rw[List.getElem?_map,zlA m i hi] at hx
    exact(Option.some.inj hx).symm
   subst ex
   have w0:=ziO (m - i)
   have w1:=w62 i hi
   have wsucc:(16:Int) ^ (m + 1 - i)=16 ^ (m - i) * 16:=by rw[← zcF,show m + 1 - i=m - i + 1 by omega]
   rw[wsucc] at hb
   have fin:∀ P' fl' nd',Run ws c (figS ws c ((16:Int) ^ (m - i)) (P,fl)) (P',fl',nd')→∀ out,zi6 ws c ((pw m).drop (i + 1)) (P',fl') out→zi6 ws c (pw m) (zkb ws c,List.replicate ws.length 0) out:=fun P' fl' nd' hr out ho=>by
    refine hfg out ?_
    rw[zlB m i hi]
    exact zi6.cons _ _ _ _ _ hr ho
   rw[show m + 1 - (i + 1)=m - i by omega]
   generalize hW:(16:Int) ^ (m - i)=W at *
   clear hfg wsucc hx
   obtain⟨ti1,nd1⟩:=ziV w0 hin lp.ti hb
   obtain⟨dxg,exg⟩:=lp.lay.ex
   obtain⟨ndo,hndo⟩:=lp.hn
   dsimp only[zbl]
   refine⟨_,rfl,q,a.Layout,dxg,_,_,rfl,exg,T.c_Layout,T.na_Layout_flow,zd3,r.f,rfl,⟨_,SqL.of lp.hf⟩,fun D hD=>?_⟩
   refine zax (K:=K) (a:=r.f) (xs:=fl.map V.int) (fun j τ G'=>∃ v1,τ=[v1]∧zaj G G'∧G' D=some (.lst (((fl.take j).map fun x=>x * 16).map V.int))) ⟨none,rfl,zaj.new hD,zaa⟩ ?_ ?_ ?_
   ·rintro j τ G' _ ⟨v1,rfl,sg,_⟩
    exact SqL.of (sg _ _ lp.hf)
   ·rintro j y τ G' hy ⟨v1,rfl,sg,hG'⟩
    obtain⟨z,hz,rfl⟩:=zby hy
    dsimp only[zbl,zd7]
    rw[if_pos rfl]
    refine⟨_,rfl,_,_,rfl,rfl,.inr ⟨by decide,by decide⟩,_,hG',?_,_,rfl,zap hD sg,?_⟩
    ·have:=lp.lf
     rw[List.length_map,List.length_map,List.length_take,sizeLine_eq]
     omega
    ·rw[zaa,zan hz,List.map_append,List.map_append]
     rfl
   rintro τ G1 ⟨v1,rfl,s1,hD1⟩
   rw[List.length_map,List.take_length] at hD1
   refine⟨_,rfl,q,a.Layout,dxg,_,rfl,s1 _ _ exg,T.c_Layout,T.na_Layout_flow,(by show 8<1000;decide),?_⟩
   rw[ziW]
   have L2:=lp.lay.reF (dx:=dxg) s1 hD lp.hp hndo ⟨_,rfl⟩ ⟨_,rfl⟩
   have ex2:=zaa (H:=G1) (a:=q) (o:=HO.ins a.Layout dxg (zcX { r with f:=D }))
   have kx2:Kx [q,r0.p,r0.f,r0.n] He (upd G1 q (.ins a.Layout dxg (zcX { r with f:=D }))):=(lp.kx.trans (Kx.of s1)).trans (Kx.upd (by simp))
   have nDq:D≠q:=Ne.symm (zac exg hD)
   have hp2:upd G1 q (.ins a.Layout dxg (zcX { r with f:=D })) r.p=some (.lst (P.map V.int)):=by rw[zag (Ne.symm lp.lay.nq.1)];exact s1 _ _ lp.hp
   have hf2:upd G1 q (.ins a.Layout dxg (zcX { r with f:=D })) D=some (.lst ((fl.map fun x=>x * 16).map V.int)):=by rw[zag nDq];exact hD1
   have dfr:∀ b o,He b=some o→b∉[q,r0.p,r0.f,r0.n]→b≠D:=fun b o e z=>zac (lp.kx b o e z) hD
   generalize upd G1 q (.ins a.Layout dxg (zcX { r with f:=D }))=G2 at L2 ex2 kx2 hp2 hf2 ⊢
   refine⟨_,rfl,_,rfl,_,rfl,wl,rfl,⟨_,SqL.of (kwl G2 kx2)⟩,fun Z hZ=>?_⟩
   refine zax (K:=K) (a:=wl) (xs:=(wts ws).map V.int) (fun j τ G'=>∃ v1,τ=[v1,some (.int W)]∧zaj G2 G'∧G' Z=some (.lst ((((wts ws).take j).map fun y=>y / W % 16).map V.int))) ⟨none,rfl,zaj.new hZ,zaa⟩ ?_ ?_ ?_
   ·rintro j τ G' _ ⟨v1,rfl,sg,_⟩
    exact SqL.of (sg _ _ (kwl G2 kx2))
   ·rintro j y τ G' hy ⟨v1,rfl,sg,hG'⟩
    obtain⟨z,hz,rfl⟩:=zby hy
    dsimp only[zbl,zd7]
    rw[if_pos rfl]
    refine⟨_,rfl,_,rfl,_,_,rfl,rfl,⟨w0,w1⟩,_,_,rfl,rfl,(by show(0:Int)<16;decide),_,hG',?_,_,rfl,zap hZ sg,?_⟩
    ·have:=ze6 ws
     rw[List.length_map,List.length_map,List.length_take,sizeLine_eq]
     omega
    ·rw[zaa,zan hz,List.map_append,List.map_append]
     rfl
   rintro τ G3 ⟨v2,rfl,s3,hZ3⟩
   rw[List.length_map,List.take_length] at hZ3
   have hZ3:G3 Z=some (.lst ((zhk ws W).map V.int)):=hZ3
   refine⟨(c:Int),l,ws.map wI,Z,zhk ws W,rfl,hws.same ((sG G2 kx2).trans s3),SqL.of hZ3,by rw[zgN,List.length_map],by omega,by omega,by rw[Int.toNat_natCast];exact wI_inR hin,fun nA G4 s4 nnA h4=>?_⟩
   rw[Int.toNat_natCast] at h4
   have s24:=s3.trans s4
   refine⟨_,rfl,q,a.Layout,dxg,_,rfl,s24 _ _ ex2,T.c_Layout,T.na_Layout_needs,(by show 8<1000;decide),?_⟩
   rw[zhd]
   have nnA2:G2 nA=none:=none_of s3 nnA
   have L5:=L2.reN (dx:=dxg) s24 nnA2 hp2 hf2 ⟨_,rfl⟩ ⟨_,rfl⟩
   have kx5:Kx [q,r0.p,r0.f,r0.n] He (upd G4 q (.ins a.Layout dxg (zcX { { r with f:=D } with n:=nA }))):=(kx2.trans (Kx.of s24)).trans (Kx.upd (by simp))
   have nAq:nA≠q:=Ne.symm (zac ex2 nnA2)
   have hp5:upd G4 q (.ins a.Layout dxg (zcX { { r with f:=D } with n:=nA })) r.p=some (.lst (P.map V.int)):=by rw[zag (Ne.symm lp.lay.nq.1)];exact s24 _ _ hp2
   have hf5:upd G4 q (.ins a.Layout dxg (zcX { { r with f:=D } with n:=nA })) D=some (.lst ((fl.map fun x=>x * 16).map V.int)):=by rw[zag nDq];exact s24 _ _ hf2
   have hn5:upd G4 q (.ins a.Layout dxg (zcX { { r with f:=D } with n:=nA })) nA=some (.lst ((zfQ c (ws.map wI) (zhk ws W)).map V.int)):=by rw[zag nAq];exact h4
   have nfr:∀ b o,He b=some o→b∉[q,r0.p,r0.f,r0.n]→b≠nA:=fun b o e z=>zac (kx2 b o e z) nnA2
   generalize upd G4 q (.ins a.Layout dxg (zcX { { r with f:=D } with n:=nA }))=G5 at L5 kx5 hp5 hf5 hn5 ⊢
   obtain⟨r',er'⟩:∃ r':LR,r'={ { r with f:=D } with n:=nA }:=⟨_,rfl⟩
   rw[← er'] at L5
   have rp:r'.p=r.p:=by rw[er']
   have rf:r'.f=D:=by rw[er']
   have rn:r'.n=nA:=by rw[er']
   rw[← rp] at hp5
   rw[← rf] at hf5 dfr
   rw[← rn] at hn5 nfr
   have rp0:r'.p=r0.p:=rp.trans lp.ep
   have l16:(fl.map fun x=>x * 16).length=ws.length:=by rw[List.length_map];exact lp.lf
   have lpc:=lp.lp
   have hwg:∀ n,n<ws.length→0≤wtF ws n / W:=fun n hn=>by
    have wm:wtF ws n∈wts ws:=by
     rw[← ziU]
     unfold fn
     rw[List.getD_eq_getElem?_getD,List.getElem?_eq_getElem (by rw[ze6];exact hn)]
     exact List.getElem_mem _
    exact Int.ediv_nonneg (wcond _ wm).1 (Int.le_of_lt w0)
   clear hb L2 ex2 kx2 hp2 hf2 nnA nnA2 s24 s3 s4 h4 hZ3 hZ hD hD1 s1 exg hndo er' rp rf rn nAq nDq
   refine⟨fun mm σ G=>∃ P' fl' nd',mm=zhh (wn ws c) (fn nd')∧σ=[some (.int (c:Nat)),some (.ref l),some (.ref q),some (.ref wl),some (.int W)]∧Lp a.Layout He q r0 r' ws c G P' fl'∧G r'.n=some (.lst ((nd':List Int).map V.int))∧nd'.length=c∧(∀ v,v<c→fn nd' v=bal (wn ws c) (fun n=>wtF ws n / W) v - bal (wn ws c) (fn fl') v) ∧
     ∀ t,Run ws c (P',fl',nd') t→Run ws c (figS ws c W (P,fl)) t,
    ⟨_,P,fl.map (fun x=>x * 16),zfQ c (ws.map wI) (zhk ws W),rfl,rfl,⟨L5,kx5,rp0,dfr,nfr,hp5,hf5,⟨_,hn5⟩,lpc,l16,ti1⟩,hn5,zjD _ _ _,nd1,fun t h=>h⟩,?_⟩
   rintro mm σ G6 ⟨P',fl',nd',rfl,rfl,lp6,hn6,ln6,nd6,run6⟩
   obtain⟨dx6,ex6⟩:=lp6.lay.ex
   refine⟨_,rfl,q,a.Layout,dx6,_,_,rfl,ex6,T.c_Layout,T.na_Layout_needs,zcd,r'.n,rfl,⟨_,SqL.of hn6⟩,fun Y hY=>?_⟩
   refine zax (K:=K) (a:=r'.n) (xs:=nd'.map V.int) (fun j τ G'=>∃ v1,τ=[v1]∧zaj G6 G'∧G' Y=some (.lst (((nd'.take j).map fun x=>decide (0<x)).map V.bl))) ⟨none,rfl,zaj.new hY,zaa⟩ ?_ ?_ ?_
   ·rintro j τ G' _ ⟨v1,rfl,sg,_⟩
    exact SqL.of (sg _ _ hn6)
   ·rintro j y τ G' hy ⟨v1,rfl,sg,hG'⟩
    obtain⟨z,hz,rfl⟩:=zby hy
    dsimp only[zbl,zd7]
    rw[if_pos rfl]
    refine⟨_,rfl,_,_,rfl,rfl,_,hG',?_,_,rfl,zap hY sg,?_⟩
    ·rw[List.length_map,List.length_map,List.length_take,sizeLine_eq]
     omega
    ·rw[zaa,zan hz,List.map_append,List.map_append]
     rfl
   rintro τ G7 ⟨v3,rfl,s7,hY7⟩
   rw[List.length_map,List.take_length] at hY7
   have lp7:Lp a.Layout He q r0 r' ws c G7 P' fl':=⟨lp6.lay.same s7,lp6.kx.trans (Kx.of s7),lp6.ep,lp6.ef,lp6.en,s7 _ _ lp6.hp,s7 _ _ lp6.hf,⟨_,s7 _ _ hn6⟩,lp6.lp,lp6.lf,lp6.ti⟩
   have hn7:=s7 _ _ hn6
   refine⟨Y,_,rfl,SqL.of hY7,_,rfl,?_⟩
   refine zcT (fun c1=>?_) (fun c1=>?_)
   ·-- some point needs some
    obtain⟨k0,k0c,k0p⟩:∃ v,v<c∧0<fn nd' v:=by
     rw[List.any_map] at c1
     obtain⟨x,hx,hx2⟩:=List.any_eq_true.mp c1
     obtain⟨j,hj⟩:=List.mem_iff_getElem?.mp hx
     have jl:=(List.getElem?_eq_some_iff.mp hj).1
     refine⟨j,by omega,?_⟩
     unfold fn
     rw[List.getD_eq_getElem?_getD,hj]
     exact of_decide_eq_true hx2
    refine⟨_,fun σ' H' h=>h,?_⟩
    refine⟨_,rfl,q,r',ws,c,P',fl',nd',fun n=>wtF ws n / W,k0,rfl,lp7.lay,lp7.hp,lp7.lp,lp7.hf,lp7.lf,hn7,ln6,ok,hw,hc,lp7.ti,hwg,nd6,k0c,k0p,stay _ _ htb G7 lp7.kx,fun P2 fl2 nd2 G8 kx8 p8 f8 n8 snd l1 l2 l3 ti8 nd8 less=>?_⟩
    have kxx:Kx [q,r0.p,r0.f,r0.n] He G8:=fun b o e z=>kx8 b o (lp7.kx b o e z) fun y=>by
     simp only[List.mem_cons,List.not_mem_nil,or_false] at y
     rcases y with y|y|y
     ·exact z (by rw[y,lp7.ep];simp)
     ·exact lp7.ef b o e z y
     ·exact lp7.en b o e z y
    have L8:zcH a.Layout G8 q r' ws c:=lp7.lay.kx kx8 fun y hy=>by
     simp only[List.mem_cons,List.not_mem_nil,or_false] at hy
     rcases hy with z|z|z
     ·exact .inl z
     ·exact .inr (.inl z)
     ·exact .inr (.inr (.inl z))
    exact⟨_,less,P2,fl2,nd2,rfl,rfl,⟨L8,kxx,lp7.ep,lp7.ef,lp7.en,p8,f8,⟨_,n8⟩,l1,l2,ti8⟩,n8,l3,nd8,fun t h=>run6 t (Run.step _ _ _ ⟨k0,k0c,k0p⟩ snd h)⟩
   ·have non:∀ v,v<c→¬ 0<fn nd' v:=fun v hv z=>by
     rw[List.any_map] at c1
     have:=List.any_eq_false.mp c1 (fn nd' v) (by
      unfold fn
      rw[List.getD_eq_getElem?_getD,List.getElem?_eq_getElem (show v<nd'.length by omega)]
      exact List.getElem_mem _)
     exact this (decide_eq_true z)
    exact⟨r',P',fl',_,rfl,lp7,zlD ok nd6 non,fin P' fl' nd' (run6 _ (Run.stop _ non))⟩
  ·rintro σ G ⟨r,P,fl,v4,rfl,lp,hb,hfg⟩
   rw[List.length_map,pl] at hb hfg
   have fg:=hfg _ (by rw[List.drop_eq_nil_of_le (by omega)];exact zi6.nil _)
   have hb:∀ v,v<c→bal (wn ws c) (fn fl) v=bal (wn ws c) (wtF ws) v:=fun v hv=>by
    rw[hb v hv]
    refine zdg (fun n _=>?_) v
    show wtF ws n / 16 ^ (m + 1 - (m + 1))=_
    rw[Nat.sub_self,Int.pow_zero,Int.ediv_one]
   obtain⟨dxg,exg⟩:=lp.lay.ex
   have ptl:(ptF ws c).length=c:=by
    unfold ptF
    rw[ze5,List.length_range]
   have lpl:=lp.lp
   have lp_p:=lp.hp
   have lp_f:=lp.hf
   have sHG:=sG G lp.kx
   refine⟨_,rfl,q,a.Layout,dxg,_,_,rfl,exg,T.c_Layout,T.na_Layout_places,zbS,_,rfl,_,rfl,l,ws,c,rfl,hws.same sHG,hin,by omega,fun gp G1 s1 n1 h1=>?_⟩
   refine⟨r.p,gp,P,ptF ws c,rfl,SqL.of (s1 _ _ lp_p),SqL.of h1,by omega,by omega,fun gn G2 s2 n2 h2=>?_⟩
   have s12:=s1.trans s2
   have n2G:G gn=none:=none_of s1 n2
   refine⟨_,rfl,q,a.Layout,dxg,_,_,rfl,s12 _ _ exg,T.c_Layout,T.na_Layout_flow,zd3,(by show 2≤sizeLine;decide),fun gt ngt=>?_⟩
   have s3:zaj G2 (upd G2 gt (.tup [.ref gn,.ref r.f])):=zaj.new ngt
   have sfin:=sHG.trans (s12.trans s3)
   have rfH:H r.f=none:=by
    cases e:H r.f with
    | none=>rfl
    | some o=>exact absurd rfl (lp.ef r.f o (sHe _ _ e) fun y=>by rw[fr _ y] at e;cases e)
   exact k1 _ _ gt gn r.f _ sfin (none_of (sHG.trans s12) ngt) zaa (none_of sHG n2G) rfH (Ne.symm (zac lp_f n2G)) (s3 _ _ h2) (s3 _ _ (s12 _ _ lp_f)) ⟨m,P,fl,fig,fg,rfl⟩ (zlE hin lp.lp lp.lf lp.ti hb)
end
end K21
namespace K21
theorem pickM (P:Nat→Int){q c:Nat} (hq:q<c) (x:Int):sm (fun v=>P v * (if q=v then x else 0)) c=P q * x:=by
 have e:sm (fun v=>P v * (if q=v then x else 0)) c=sm (fun v=>if v=q then P q * x else 0) c:=zaA c fun v _=>by
  by_cases h:v=q
  ·subst h
   rw[if_pos rfl,if_pos rfl]
  ·rw[if_neg (Ne.symm h),if_neg h,Int.mul_zero]
 rw[e,zev,if_pos hq]
theorem zfR {N:Wn} (ok:N.Ok) (a P:Nat→Int):sm (fun n=>a n * (P (N.ot n) - P (N.on n))) N.m=sm (fun v=>P v * bal N a v) N.c:=by
 have e:sm (fun v=>P v * bal N a v) N.c=sm (fun v=>sm (fun n=>P v * ((if N.ot n=v then a n else 0) - (if N.on n=v then a n else 0))) N.m) N.c:=zaA _ fun v _=>by
  unfold bal
  rw[zir]
 rw[e,zgd]
 refine zaA _ fun n hn=>?_
 have e2:sm (fun v=>P v * ((if N.ot n=v then a n else 0) - (if N.on n=v then a n else 0))) N.c=sm (fun v=>P v * (if N.ot n=v then a n else 0) - P v * (if N.on n=v then a n else 0)) N.c:=zaA _ fun v _=>Int.mul_sub _ _ _
 rw[e2,zcM,pickM P (ok.ot n hn),pickM P (ok.on n hn),Int.mul_sub,Int.mul_comm (a n),Int.mul_comm (a n)]
theorem zex {N:Wn} (ok:N.Ok){a b P:Nat→Int} (h:∀ v,v<N.c→bal N a v=bal N b v):sm (fun n=>a n * (P (N.ot n) - P (N.on n))) N.m=sm (fun n=>b n * (P (N.ot n) - P (N.on n))) N.m:=by
 rw[zfR ok,zfR ok]
 exact zaA _ fun v hv=>by rw[h v hv]
theorem sm_le {f g:Nat→Int}:∀ n,(∀ i,i<n→f i≤g i)→sm f n≤sm g n
 | 0,_=>Int.le_refl _
 | n + 1,h=>by
  have:=sm_le n fun i hi=>h i (by omega)
  have:=h n (by omega)
  show sm f n + f n≤sm g n + g n
  omega
theorem weak {N:Wn} (ok:N.Ok){a w P:Nat→Int} (h:∀ v,v<N.c→bal N a v=bal N w v) (a0:∀ n,n<N.m→0≤a n) (fit:∀ n,n<N.m→0≤slk N P n):sm (fun n=>a n * N.le n) N.m≤sm (fun n=>w n * (P (N.ot n) - P (N.on n))) N.m:=by
 rw[← zex ok h]
 refine sm_le _ fun n hn=>?_
 have:=fit n hn
 unfold slk at this
 exact Int.mul_le_mul_of_nonneg_left (by omega) (a0 n hn)
theorem zko {N:Wn} (ok:N.Ok){a w P:Nat→Int} (h:∀ v,v<N.c→bal N a v=bal N w v) (ti:Ti N P a):sm (fun n=>a n * N.le n) N.m=sm (fun n=>w n * (P (N.ot n) - P (N.on n))) N.m:=by
 rw[← zex ok h]
 refine zaA _ fun n hn=>?_
 by_cases c:0<a n
 ·have:=ti.t n hn c
  unfold slk at this
  rw[show P (N.ot n) - P (N.on n)=N.le n by omega]
 ·have:=ti.f n hn
  rw[show a n=0 by omega,Int.zero_mul,Int.zero_mul]
end K21
namespace K21
def zkp (l:List Wt) (Q:Nat→Int):Int:=(l.map fun x=>x.2.2.2 * (Q x.2.1 - Q x.1)).sum
def zlG (l:List Wt) (Q:Nat→Int):Prop:=∀ x∈l,x.2.2.1≤Q x.2.1 - Q x.1
theorem zfS {α:Type} (l:List α) (d:α) (f:α→Int):∀ i,i≤l.length→((l.take i).map f).sum=sm (fun n=>f (l.getD n d)) i
 | 0,_=>rfl
 | i + 1,h=>by
  have ih:=zfS l d f i (by omega)
  have e:l[i]?=some (l.getD i d):=by rw[List.getD_eq_getElem?_getD,List.getElem?_eq_getElem (show i<l.length by omega)];rfl
  rw[L2.zan e,List.map_append,List.sum_append,ih]
  show sm (fun n=>f (l.getD n d)) i + (f (l.getD i d) + 0)=sm (fun n=>f (l.getD n d)) i + f (l.getD i d)
  omega
theorem zgg (ws:List Wt) (c:Nat) (Q:Nat→Int):zkp ws Q=sm (fun n=>wtF ws n * (Q ((wn ws c).ot n) - Q ((wn ws c).on n))) ws.length:=by
 have h:=zfS ws (0,0,0,0) (fun x=>x.2.2.2 * (Q x.2.1 - Q x.1)) ws.length (Nat.le_refl _)
 rw[List.take_length] at h
 exact h
theorem zlG.slk {ws:List Wt}{c:Nat}{Q:Nat→Int} (h:zlG ws Q):∀ n,n<ws.length→0≤slk (wn ws c) Q n:=fun n hn=>by
 have e:ws[n]?=some (ws.getD n (0,0,0,0)):=by rw[List.getD_eq_getElem?_getD,List.getElem?_eq_getElem hn];rfl
 have:=h _ (List.mem_of_getElem? e)
 show 0≤Q (ws.getD n (0,0,0,0)).2.1 - Q (ws.getD n (0,0,0,0)).1 - (ws.getD n (0,0,0,0)).2.2.1
 omega
theorem zcA.fit {ws:List Wt}{c:Nat}{pl fl:List Int} (h:zcA ws c pl fl):zlG ws (fn pl):=fun x hx=>by
 obtain⟨n,e⟩:=List.mem_iff_getElem?.mp hx
 have hn:=(List.getElem?_eq_some_iff.mp e).1
 have s:=h.ti.s n hn
 have s:0≤fn pl (ws.getD n (0,0,0,0)).2.1 - fn pl (ws.getD n (0,0,0,0)).1 - (ws.getD n (0,0,0,0)).2.2.1:=s
 rw[List.getD_eq_getElem?_getD,e] at s
 have s:0≤fn pl x.2.1 - fn pl x.1 - x.2.2.1:=s
 omega
theorem zcA.opt {ws:List Wt}{c:Nat}{pl fl:List Int} (hin:∀ x∈ws,x.1<c∧x.2.1<c) (h:zcA ws c pl fl){Q:Nat→Int} (hq:zlG ws Q):zkp ws (fn pl)≤zkp ws Q:=by
 have s:=zko (N:=wn ws c) (zhc hin) h.bl h.ti
 have w:=weak (N:=wn ws c) (zhc hin) h.bl h.ti.f hq.slk
 rw[zgg ws c,zgg ws c]
 exact Int.le_trans (Int.le_of_eq s.symm) w
theorem zcj.nofit {ws:List Wt}{c:Nat}{ring:List Nat} (h:zcj (wn ws c) ring){Q:Nat→Int} (hq:zlG ws Q):False:=h.none (P:=Q) hq.slk
structure Oth (ws ol:List Wt) (rn:Nat→Nat):Prop where
 of_:∀ y∈ol,∃ x∈ws,y.1=rn x.1∧y.2.1=rn x.2.1∧y.2.2.1=x.2.2.1
 all:∀ x∈ws,∃ y∈ol,y.1=rn x.1∧y.2.1=rn x.2.1∧y.2.2.1=x.2.2.1
 wt:∀ y∈ol,0≤y.2.2.2∧y.2.2.2<2 ^ 61
 sum:∀ Q,zkp ol Q=zkp ws fun v=>Q (rn v)
end K21
namespace K21
open PySem L2
section
variable {P:Program}{w:World}{K:PySem.W.Frag}{mg:Str→Option Value}{base:Heap}{a:Adr}
def zlV (c k:Int):Int:=(c + 7919 * k + 1) % 2147483647 * 48271 % 2147483647
def mixB (c k:Int):Int:=zlV c k * (zlV c k / 1009 + 69621) % 2147483647
theorem zlH (c k:Int):0≤zlV c k:=Int.emod_nonneg _ (by decide)
theorem zlI (c k:Int):zlV c k<2147483647:=Int.emod_lt_of_pos _ (by decide)
theorem zlJ (c k:Int):0≤mixB c k:=Int.emod_nonneg _ (by decide)
theorem zlK (c k:Int):mixB c k<2147483647:=Int.emod_lt_of_pos _ (by decide)
def spMix:Sp:=fun vs H Q _=>∃ c k,vs=[.int c,.int k]∧0≤k∧k≤1000∧∀ z H',zaj H H'→Q (.int z) H'
theorem ok_mix (T:Tx K mg a):Cal P w K mg base CX0 1 "_law_mix" ["_law_cell","_law_k"] [] spMix:=T.d__law_mix.cal fun f fd F=>by
 refine F.ok zcU (fun vs H Q E h=>?_) (fun cdv A outer s H vs Q E hr h=>?_)
 ·obtain⟨c,k,rfl,_⟩:=h
  rfl
 ·obtain⟨c,k,rfl,_,_,q⟩:=h
  refine⟨_,(zad (zam (i:=2) zcU.nd rfl (by first|exact Or.inl rfl|exact Or.inr rfl) (zaC zbL (zaC zcf (zaC zbL (zaC zef (zaC zef (pv 0) (zaC zcf zaf (pv 1))) zaf) zaf) zaf) zaf))
   (zad (zam (i:=2) zcU.nd rfl (by first|exact Or.inl rfl|exact Or.inr rfl) (zaC zbL (zaC zcf (pv 2) (zaC zef (zaC zhu (pv 2) zaf) zaf)) zaf))
   (zai (zaH (zaC zbL (zaC zcf (pv 2) (zaC zef (zaC zhu (pv 2) zaf) zaf)) zaf))))),?_⟩
  refine⟨_,rfl,_,rfl,_,_,rfl,rfl,.inl ⟨by decide,by decide⟩,_,_,rfl,rfl,_,_,rfl,rfl,_,_,rfl,rfl,(by show(0:Int)<2147483647;decide),_,_,rfl,rfl,.inr ⟨by decide,by decide⟩,_,_,rfl,rfl,(by show(0:Int)<2147483647;decide),?_⟩
  have h1:=zlH c k
  have h2:=zlI c k
  have h3:=zlJ c k
  have h4:=zlK c k
  refine⟨_,rfl,_,rfl,_,_,rfl,rfl,⟨by decide,by decide⟩,_,_,rfl,rfl,_,_,rfl,rfl,.inl ⟨?_,?_⟩,_,_,rfl,rfl,(by show(0:Int)<2147483647;decide),?_⟩
  ·show -(2 ^ 64)<zlV c k
   omega
  ·show zlV c k<2 ^ 64
   omega
  refine⟨_,rfl,_,rfl,_,_,rfl,rfl,⟨by decide,by decide⟩,_,_,rfl,rfl,_,_,rfl,rfl,.inl ⟨?_,?_⟩,_,_,rfl,rfl,(by show(0:Int)<2147483647;decide),q _ H (zaj.refl _)⟩
  ·show -(2 ^ 64)<mixB c k
   omega
  ·show mixB c k<2 ^ 64
   omega
def zjL (K:PySem.W.Frag):Sp:=fun vs H Q _=>∃ p,∃ ns:List Int,∃ k,vs=[.ref p,.int k]∧SqL K H p (ns.map V.int)∧0≤k∧∀ c,Q (.int c) H
theorem zhe (T:Tx K mg a):Cal P w K mg base CX0 1 "_law_cell_at" ["_law_script","_law_k"] [] (zjL K):=T.d__law_cell_at.cal fun f fd F=>by
 refine F.ok zd2 (fun vs H Q E h=>?_) (fun cdv A outer s H vs Q E hr h=>?_)
 ·obtain⟨p,ns,k,rfl,_⟩:=h
  rfl
 ·obtain⟨p,ns,k,rfl,hS,h0,q⟩:=h
  refine⟨_,(zad (zbF (zaq zeE (pv 1) (zao zaS rfl T.n_len zde (zab (pv 0) zah)) (zau _)) (zai (zaH (zas zav (pv 0) (pv 1) (fun _ _=>rfl)))) zaI)
   (zai (zaH zaf))),?_⟩
  refine⟨_,rfl,_,rfl,p,_,rfl,.inl hS,_,_,rfl,rfl,_,rfl,?_⟩
  refine zcT (fun c=>?_) (fun c=>?_)
  ·have h1:k<ns.length:=by
    have:=of_decide_eq_true c
    rwa [List.length_map] at this
   obtain⟨z,hz⟩:=at_int h0 h1
   exact⟨_,rfl,_,rfl,p,_,_,_,rfl,rfl,hS,hz,q z⟩
  ·exact q 0
def WtOk (n:Nat) (x:Wt):Prop:=(x.1<n∧x.2.1<n)∧zha x.2.2.1∧0≤x.2.2.2∧x.2.2.2<2 ^ 40
theorem wV_of {o t le wt:Int} (ho:0≤o) (ht:0≤t):wV (wI (o.toNat,t.toNat,le,wt))=[.int o,.int t,.int le,.int wt]:=by
 show[V.int ((o.toNat:Nat):Int),V.int ((t.toNat:Nat):Int),V.int le,V.int wt]=_
 rw[Int.toNat_of_nonneg ho,Int.toNat_of_nonneg ht]
theorem zlL {o:Int} (h0:0≤o) (h1:o<2):∃ s:Int,atI [V.int 1,V.int (-1)] o=some (.int s)∧(s=1∨s=-1):=by
 rcases(by omega:o=0∨o=1) with e|e <;> rw[e]
 ·exact⟨1,rfl,.inl rfl⟩
 ·exact⟨-1,rfl,.inr rfl⟩
def spWish:Sp:=fun vs H Q _=>∃ c gr,vs=[.int c,.bl gr]∧∀ t x H',zaj H H'→H' t=some (.tup (wV (wI x)))→WtOk 2 x→Q (.ref t) H'
set_option maxHeartbeats 4000000 in
theorem zlM (T:Tx K mg a):Cal P w K mg base CX0 2 "_law_wish" ["_law_cell","_law_great"] [] spWish:=T.d__law_wish.cal fun f fd F=>by
 have c__law_mix:=ok_mix (P:=P) (w:=w) (base:=base) T
 refine F.ok zaL (fun vs H Q E h=>?_) (fun cdv A outer s H vs Q E hr h=>?_)
 ·obtain⟨c,gr,rfl,_⟩:=h
  rfl
 ·obtain⟨c,gr,rfl,k⟩:=h
  refine⟨_,(zad (zam (i:=2) zaL.nd rfl (by first|exact Or.inl rfl|exact Or.inr rfl) (zaC zbL (zaK c__law_mix (hr.mono (by decide)) rfl (zab (pv 0) (zab zaf zah))) zaf))
   (zad (zam (i:=3) zaL.nd rfl (by first|exact Or.inl rfl|exact Or.inr rfl) (zaC zbC zaf (pv 2)))
   (zad (zbF (zaq zc3 (zaC zbL (zaK c__law_mix (hr.mono (by decide)) rfl (zab (pv 0) (zab zaf zah))) zaf) zaf (zau _)) (zai (zam (i:=3) zaL.nd rfl (by first|exact Or.inl rfl|exact Or.inr rfl) (pv 2))) zaI)
   (zad (zam (i:=4) zaL.nd rfl (by first|exact Or.inl rfl|exact Or.inr rfl) (zaC zbC (zaC zbL (zaK c__law_mix (hr.mono (by decide)) rfl (zab (pv 0) (zab zaf zah))) zaf) zaf))
   (zad (zam (i:=5) zaL.nd rfl (by first|exact Or.inl rfl|exact Or.inr rfl) (zaC zbL (zaK c__law_mix (hr.mono (by decide)) rfl (zab (pv 0) (zab zaf zah))) zaf))
   (zad (zbF (PW.pt (zcp (zaq zeD (pv 2) (pv 3) (zau _)) (zbW (zaq zc4 (zaC zbL (zaK c__law_mix (hr.mono (by decide)) rfl (zab (pv 0) (zab zaf zah))) zaf) zaf (zau _))))) (zai (zam (i:=4) zaL.nd rfl (by first|exact Or.inl rfl|exact Or.inr rfl) (zaC zbC (zaC zcf (zas zav (zcg (zab zaf (zab (zkw zhv zaf) zah))) (pv 2) (fun _ _=>rfl)) (zaC zbL (zaK c__law_mix (hr.mono (by decide)) rfl (zab (pv 0) (zab zaf zah))) zaf)) (pv 2)))) zaI)
   (zad (zbF (PW.pt (zcp (zaq zc3 (pv 2) (pv 3) (zau _)) (zbW (zaq zc4 (zaC zbL (zaK c__law_mix (hr.mono (by decide)) rfl (zab (pv 0) (zab zaf zah))) zaf) zaf (zau _))))) (zai (zam (i:=4) zaL.nd rfl (by first|exact Or.inl rfl|exact Or.inr rfl) (zaC zbC zaf (zao zi8 rfl T.n_abs bt_abs (zab (pv 4) zah))))) zaI)
   (zad (zbF (zbT (pv 1)) (zad (zam (i:=4) zaL.nd rfl (by first|exact Or.inl rfl|exact Or.inr rfl) (zaC zcf (pv 4) (zaC zbL (zaK c__law_mix (hr.mono (by decide)) rfl (zab (pv 0) (zab zaf zah))) (zaC zcf zaf (zaC zjV zaf zaf)))))
   (zai (zam (i:=5) zaL.nd rfl (by first|exact Or.inl rfl|exact Or.inr rfl) (zaC zbL (zaK c__law_mix (hr.mono (by decide)) rfl (zab (pv 0) (zab zaf zah))) (zaC zef (zaC zjV zaf zaf) zaf))))) zaI)
   (zai (zaH (zfj (zab (pv 2) (zab (pv 3) (zab (pv 4) (zab (pv 5) zah))))))))))))))),?_⟩
  refine⟨_,rfl,c,1,rfl,by decide,by decide,fun z1 G1 s1=>⟨_,_,rfl,rfl,(by show(0:Int)<2;decide),?_⟩⟩
  have o0:0≤z1 % 2:=Int.emod_nonneg _ (by decide)
  have o1:z1 % 2<2:=Int.emod_lt_of_pos _ (by decide)
  dsimp only
  generalize z1 % 2=o at o0 o1 ⊢
  refine⟨_,rfl,_,_,rfl,rfl,?_⟩
  apply zdZ (fun t:Int=>[some (.int c),some (.bl gr),some (.int o),some (.int t),none,none]) (fun t G=>zaj H G∧0≤t∧t<2)
  case g=>
   intro zbe
   refine⟨_,rfl,c,2,rfl,by decide,by decide,fun z2 G2 s2=>⟨_,_,rfl,rfl,(by show(0:Int)<9;decide),rfl,_,rfl,?_⟩⟩
   refine zcT (fun _=>⟨_,rfl,zbe o G2 ⟨s1.trans s2,o0,o1⟩⟩) (fun _=>zbe (1 - o) G2 ⟨s1.trans s2,by omega,by omega⟩)
  case h=>
  rintro t G2 ⟨s2,t0,t1⟩
  refine⟨_,rfl,c,3,rfl,by decide,by decide,fun z3 G3 s3=>⟨_,_,rfl,rfl,(by show(0:Int)<19;decide),_,_,rfl,rfl,?_⟩⟩
  refine⟨_,rfl,c,4,rfl,by decide,by decide,fun z4 G4 s4=>⟨_,_,rfl,rfl,(by show(0:Int)<10;decide),?_⟩⟩
  have a0:0≤z3 % 19:=Int.emod_nonneg _ (by decide)
  have a1:z3 % 19<19:=Int.emod_lt_of_pos _ (by decide)
  have b0:0≤z4 % 10:=Int.emod_nonneg _ (by decide)
  have b1:z4 % 10<10:=Int.emod_lt_of_pos _ (by decide)
  have t4:=s2.trans (s3.trans s4)
  apply zdZ (fun le:Int=>[some (.int c),some (.bl gr),some (.int o),some (.int t),some (.int le),some (.int (z4 % 10))]) (fun le G=>zaj H G∧-20≤le∧le≤20)
  case g=>
   intro zbe
   refine⟨_,rfl,_,rfl,rfl,_,rfl,?_⟩
   refine zcT (fun _=>?_) (fun _=>zcL (zbe (z3 % 19 - 9) G4 ⟨t4,by omega,by omega⟩))
   refine⟨_,rfl,c,5,rfl,by decide,by decide,fun z5 G5 s5=>⟨_,_,rfl,rfl,(by show(0:Int)<3;decide),_,_,rfl,rfl,_,rfl,?_⟩⟩
   refine zcT (fun _=>?_) (fun _=>zbe (z3 % 19 - 9) G5 ⟨t4.trans s5,by omega,by omega⟩)
   obtain⟨sg,hsg,hs⟩:=zlL o0 o1
   refine⟨_,rfl,(by show 2≤sizeLine;decide),fun p np=>⟨_,rfl,p,_,_,_,rfl,rfl,SqL.of zaa,hsg,_,rfl,c,3,rfl,by decide,by decide,fun z6 G6 s6=>⟨_,_,rfl,rfl,(by show(0:Int)<10;decide),_,_,rfl,rfl,.inl ⟨by rcases hs with e|e <;> rw[e] <;> decide,by rcases hs with e|e <;> rw[e] <;> decide⟩,_,rfl,_,_,rfl,rfl,?_⟩⟩⟩
   have c0:0≤z6 % 10:=Int.emod_nonneg _ (by decide)
   have c1:z6 % 10<10:=Int.emod_lt_of_pos _ (by decide)
   have e1:-20≤sg * (z6 % 10) - o∧sg * (z6 % 10) - o≤20:=by rcases hs with e|e <;> rw[e] <;> omega
   exact zbe (sg * (z6 % 10) - o) G6 ⟨t4.trans (s5.trans ((zaj.new np).trans s6)),e1.1,e1.2⟩
  case h=>
  rintro le G5 ⟨s5,l0,l1⟩
  apply zdZ (fun le:Int=>[some (.int c),some (.bl gr),some (.int o),some (.int t),some (.int le),some (.int (z4 % 10))]) (fun le G=>zaj H G∧-20≤le∧le≤20)
  case g=>
   intro zbe
   refine⟨_,rfl,_,rfl,rfl,_,rfl,?_⟩
   refine zcT (fun _=>?_) (fun _=>zcL (zbe le G5 ⟨s5,l0,l1⟩))
   refine⟨_,rfl,c,5,rfl,by decide,by decide,fun z5 G6 s6=>⟨_,_,rfl,rfl,(by show(0:Int)<4;decide),_,_,rfl,rfl,_,rfl,?_⟩⟩
   refine zcT (fun _=>?_) (fun _=>zbe le G6 ⟨s5.trans s6,l0,l1⟩)
   refine⟨_,rfl,le,rfl,_,_,rfl,rfl,?_⟩
   have e1:-20≤0 - (if le<0 then -le else le)∧0 - (if le<0 then -le else le)≤20:=by split <;> omega
   exact zbe (0 - (if le<0 then -le else le)) G6 ⟨s5.trans s6,e1.1,e1.2⟩
  case h=>
  rintro le G6 ⟨s6,l0,l1⟩
  apply zdZ (fun x:Int×Int=>[some (.int c),some (.bl gr),some (.int o),some (.int t),some (.int x.1),some (.int x.2)]) (fun x G=>zaj H G∧zha x.1∧0≤x.2∧x.2<2 ^ 40)
  case g=>
   intro zbe
   refine⟨_,rfl,_,rfl,?_⟩
   refine zcT (fun _=>?_) (fun _=>zbe (le,z4 % 10) G6 ⟨s6,⟨by show -(2 ^ 64)<le;omega,by show le<2 ^ 64;omega⟩,b0,by show z4 % 10<2 ^ 40;omega⟩)
   refine⟨_,rfl,_,rfl,c,6,rfl,by decide,by decide,fun z8 G8 s8=>⟨_,_,rfl,rfl,⟨by decide,by decide,by decide⟩,_,_,rfl,rfl,.inl ⟨by decide,by decide⟩,_,_,rfl,rfl,(by show(0:Int)<9 * 10 ^ Int.toNat 7;decide),_,_,rfl,rfl,.inl ⟨by omega,by omega⟩,?_⟩⟩
   refine⟨_,rfl,c,7,rfl,by decide,by decide,fun z9 G9 s9=>⟨_,_,rfl,rfl,⟨by decide,by decide,by decide⟩,_,_,rfl,rfl,_,_,rfl,rfl,(by show(0:Int)<10 ^ Int.toNat 9 + 1;decide),?_⟩⟩
   have t7:(10:Int) ^ Int.toNat 7=10000000:=by decide
   have t9:(10:Int) ^ Int.toNat 9=1000000000:=by decide
   have g0:0≤z8 % (9 * 10 ^ Int.toNat 7):=Int.emod_nonneg _ (by decide)
   have g1:z8 % (9 * 10 ^ Int.toNat 7)<9 * 10 ^ Int.toNat 7:=Int.emod_lt_of_pos _ (by decide)
   have q0:0≤z9 % (10 ^ Int.toNat 9 + 1):=Int.emod_nonneg _ (by decide)
   have q1:z9 % (10 ^ Int.toNat 9 + 1)<10 ^ Int.toNat 9 + 1:=Int.emod_lt_of_pos _ (by decide)
   have big:zha (le * (z8 % (9 * 10 ^ Int.toNat 7))):=by
    rw[t7] at g0 g1 ⊢
    generalize z8 % (9 * 10000000)=d at g0 g1 ⊢
    have a1:=Int.mul_le_mul_of_nonneg_right (c:=d) l1 (by omega)
    have a2:=Int.mul_le_mul_of_nonneg_right (c:=d) l0 (by omega)
    unfold zha
    constructor <;> omega
   exact zbe (_,_) G9 ⟨s6.trans (s8.trans s9),big,q0,by show z9 % (10 ^ Int.toNat 9 + 1)<2 ^ 40;omega⟩
  case h=>
  rintro⟨le2,wt⟩ G2 ⟨sg2,hs,w0,w1⟩
  refine⟨_,rfl,_,rfl,_,rfl,_,rfl,(by show 4≤sizeLine;decide),fun tt nt=>?_⟩
  have e:=wV_of (le:=le2) (wt:=wt) o0 t0
  refine k tt (o.toNat,t.toNat,le2,wt) _ (sg2.trans (zaj.new nt)) ?_ ⟨⟨by show o.toNat<2;omega,by show t.toNat<2;omega⟩,hs,w0,w1⟩
  rw[zaa,e]
end
end K21
namespace K21
open PySem L2
section
variable {P:Program}{w:World}{K:PySem.W.Frag}{mg:Str→Option Value}{base:Heap}{a:Adr}
def zlN:Sp:=fun vs H Q _=>∃ n,vs=[.int n]∧Q (.bl true) H
theorem zgO (T:Tx K mg a):Cal P w K mg base CX0 1 "_law_whole" ["_law_found"] [] zlN:=T.d__law_whole.cal fun f fd F=>by
 refine F.ok zeV (fun vs H Q E h=>?_) (fun cdv A outer s H vs Q E hr h=>?_)
 ·obtain⟨n,rfl,_⟩:=h
  rfl
 ·obtain⟨i,rfl,q⟩:=h
  refine⟨_,(zai (zaH (zee (zao zbO rfl T.n_isinstance zaU (zab (pv 0) (zab (zeo rfl T.n_int bt_int) zah))) (zed (pe_not (zao zbO rfl T.n_isinstance zaU (zab (pv 0) (zab (zeo rfl T.n_bool zkX) zah)))))))),?_⟩
  refine⟨_,rfl,_,_,_,_,_,rfl,rfl,.int _,T.kb_int_int,true,rfl,?_⟩
  refine zd8 ?_
  exact⟨_,rfl,_,_,_,_,_,rfl,rfl,.int _,T.kb_int_bool,false,rfl,q⟩
theorem ze7:∀ n:Nat,((List.replicate n true).all id)=true
 | 0=>rfl
 | n + 1=>by rw[List.replicate_succ,List.all_cons,ze7 n];rfl
def zjM:Sp:=fun vs H Q _=>∃ l,∃ ns:List Int,∃ m:Int,vs=[.ref l,.int m]∧H l=some (.lst (ns.map V.int))∧(ns.length:Int)=m∧ns.length≤1000∧∀ H',zaj H H'→Q (.bl true) H'
theorem ziX (T:Tx K mg a):Cal P w K mg base CX0 2 "_law_wholes" ["_law_found","_law_many"] [] zjM:=T.d__law_wholes.cal fun f fd F=>by
 have c__law_whole:=zgO (P:=P) (w:=w) (base:=base) T
 refine F.ok zea (fun vs H Q E h=>?_) (fun cdv A outer s H vs Q E hr h=>?_)
 ·obtain⟨l,ns,m,rfl,_⟩:=h
  rfl
 ·obtain⟨l,ns,m,rfl,hl,hm,hk,k⟩:=h
  refine⟨_,(zai (zaH (zee (zao zbO rfl T.n_isinstance zaU (zab (pv 0) (zab (zeo rfl T.n_list zdX) zah))) (zee (zbM zc3 (zao zaS rfl T.n_len zde (zab (pv 0) zah)) (pv 1) (zau _)) (zed (zao zfB rfl T.n_all zj5 (zab (zaN (N:=["_law_one"]) (cap:=[none]) rfl (zaT (osc:=zae zbc) (XN:=["_law_found","_law_many"]) rfl rfl (by decide +kernel)) (zaF (pv 0)) (fun cl C s H fp pins=>(zak (i:=0) (show(["_law_one"]:List Str).Nodup by decide +kernel) rfl (by first|exact Or.inl rfl|exact Or.inr rfl))) (fun cl C s H fp pins=>zaW) (fun cl C s H fp pins=>(zaK c__law_whole (hr.mono (by decide)) rfl (zab (pv 0) zah)))) zah))))))),?_⟩
  refine⟨_,rfl,_,_,_,_,_,rfl,rfl,.lst hl,T.kb_list_list,true,rfl,zd8 ?_⟩
  refine⟨_,rfl,l,_,rfl,.inl (SqL.of hl),_,rfl,rfl,?_⟩
  have e:decide (V.int (((ns.map V.int).length:Nat):Int)=V.int m)=true:=decide_eq_true (by rw[List.length_map,hm])
  refine⟨_,rfl,?_⟩
  refine zj7 e ?_
  refine⟨_,rfl,l,rfl,⟨_,SqL.of hl⟩,fun D hD=>?_⟩
  refine zax (K:=K) (a:=l) (xs:=ns.map V.int) (fun i τ G=>∃ v1,τ=[v1]∧zaj H G∧G D=some (.lst ((List.replicate i true).map V.bl))) ⟨none,rfl,zaj.new hD,zaa⟩ ?_ ?_ ?_
  ·rintro i τ G _ ⟨_,rfl,sg,_⟩
   exact SqL.of (sg _ _ hl)
  ·rintro i y τ G hy ⟨v1,rfl,sg,hG⟩
   obtain⟨z,hz,rfl⟩:=zby hy
   have hi:=(List.getElem?_eq_some_iff.mp hz).1
   dsimp only[zbl,zd7]
   rw[if_pos rfl]
   refine⟨_,rfl,z,rfl,_,hG,?_,_,rfl,zap hD sg,?_⟩
   ·rw[List.length_map,List.length_replicate,sizeLine_eq]
    omega
   ·rw[zaa,List.replicate_succ',List.map_append]
    rfl
  rintro τ G ⟨v1,rfl,sg,hG⟩
  refine⟨D,_,rfl,SqL.of hG,?_⟩
  rw[ze7]
  exact k G sg
end
end K21
namespace K21
def zbV (ws:List Wt) (o t:Nat):List Int:=(ws.filter fun x=>decide (x.1=o) && decide (x.2.1=t)).map fun x=>x.2.2.1
theorem ze8 {ws:List Wt}{x:Wt} (hx:x∈ws):x.2.2.1∈zbV ws x.1 x.2.1:=List.mem_map.mpr ⟨x,List.mem_filter.mpr ⟨hx,by simp⟩,rfl⟩
theorem ziY {ws:List Wt}{o t:Nat}{y:Int} (h:y∈zbV ws o t):∃ x∈ws,x.1=o∧x.2.1=t∧x.2.2.1=y:=by
 obtain⟨x,hx,e⟩:=List.mem_map.mp h
 obtain⟨h1,h2⟩:=List.mem_filter.mp hx
 rw[Bool.and_eq_true] at h2
 exact⟨x,h1,of_decide_eq_true h2.1,of_decide_eq_true h2.2,e⟩
def Grt (l:List Int) (o:Option Int):Prop:=(l=[]∧o=none)∨∃ m∈l,(∀ x∈l,x≤m)∧o=some m
def ng:Option Int→Option Int
 | none=>none
 | some m=>some (0 - m)
def Btw (ws:List Wt) (lo hi:Option Int) (d:Int):Prop:=(∀ y∈zbV ws 0 0++zbV ws 1 1,y≤0)∧(∀ m,lo=some m→m≤d)∧∀ m,hi=some m→d≤0 - m
theorem zd5 {ws:List Wt}{lo hi:Option Int} (hin:∀ x∈ws,x.1<2∧x.2.1<2) (hl:Grt (zbV ws 0 1) lo) (hh:Grt (zbV ws 1 0) hi) (Q:Nat→Int):zlG ws Q↔Btw ws lo hi (Q 1 - Q 0):=by
 constructor
 ·intro h
  refine⟨fun y hy=>?_,fun m e=>?_,fun m e=>?_⟩
  ·rcases List.mem_append.mp hy with z|z <;> obtain⟨x,hx,e1,e2,e3⟩:=ziY z <;> have:=h x hx <;> rw[e1,e2,e3] at this <;> omega
  ·rcases hl with⟨_,z⟩|⟨m',hm,_,z⟩
   ·rw[e] at z
    cases z
   ·rw[e] at z
    cases z
    obtain⟨x,hx,e1,e2,e3⟩:=ziY hm
    have:=h x hx
    rw[e1,e2,e3] at this
    exact this
  ·rcases hh with⟨_,z⟩|⟨m',hm,_,z⟩
   ·rw[e] at z
    cases z
   ·rw[e] at z
    cases z
    obtain⟨x,hx,e1,e2,e3⟩:=ziY hm
    have:=h x hx
    rw[e1,e2,e3] at this
    omega
 ·rintro⟨h1,h2,h3⟩ x hx
  obtain⟨i1,i2⟩:=hin x hx
  have fm:=ze8 hx
  rcases(by omega:x.1=0∨x.1=1) with a|a <;> rcases(by omega:x.2.1=0∨x.2.1=1) with b|b <;> rw[a,b] at fm ⊢
  ·have:=h1 _ (List.mem_append_left _ fm)
   omega
  ·rcases hl with⟨z,_⟩|⟨m,_,hm,e⟩
   ·rw[z] at fm
    cases fm
   ·have:=hm _ fm
    have:=h2 m e
    omega
  ·rcases hh with⟨z,_⟩|⟨m,_,hm,e⟩
   ·rw[z] at fm
    cases fm
   ·have:=hm _ fm
    have:=h3 m e
    omega
  ·have:=h1 _ (List.mem_append_right _ fm)
   omega
def Due (ws:List Wt) (lo hi:Option Int):Prop:=(∃ y∈zbV ws 0 0++zbV ws 1 1,0<y)∨∃ l h,lo=some l∧hi=some h∧0 - h<l
theorem zgP {ws:List Wt}{lo hi:Option Int} (h:Due ws lo hi){d:Int} (b:Btw ws lo hi d):False:=by
 rcases h with⟨y,hy,y0⟩|⟨l,hh,e1,e2,e3⟩
 ·have:=b.1 y hy
  omega
 ·have:=b.2.1 l e1
  have:=b.2.2 hh e2
  omega
theorem ziZ {ws:List Wt}{lo hi:Option Int} (h:¬ Due ws lo hi):(∀ l,lo=some l→Btw ws lo hi l)∧(∀ m,hi=some m→Btw ws lo hi (0 - m))∧∃ d,Btw ws lo hi d:=by
 have own:∀ y∈zbV ws 0 0++zbV ws 1 1,y≤0:=fun y hy=>by
  have:¬ 0<y:=fun z=>h (.inl ⟨y,hy,z⟩)
  omega
 have pr:∀ l m,lo=some l→hi=some m→l≤0 - m:=fun l m e1 e2=>by
  have:¬ 0 - m<l:=fun z=>h (.inr ⟨l,m,e1,e2,z⟩)
  omega
 have a1:∀ l,lo=some l→Btw ws lo hi l:=fun l e=>⟨own,fun m e'=>by rw[e] at e';cases e';exact Int.le_refl _,fun m e'=>pr l m e e'⟩
 have a2:∀ m,hi=some m→Btw ws lo hi (0 - m):=fun m e=>⟨own,fun l e'=>pr l m e' e,fun m' e'=>by rw[e] at e';cases e';exact Int.le_refl _⟩
 refine⟨a1,a2,?_⟩
 cases lo with
 | some l=>exact⟨l,a1 l rfl⟩
 | none=>
  cases hi with
  | some m=>exact⟨_,a2 m rfl⟩
  | none=>exact⟨0,own,fun m e=>(by cases e),fun m e=>by cases e⟩
def fwd (ws:List Wt):Int:=((ws.filter fun x=>decide (x.1<x.2.1)).map fun x=>x.2.2.2).sum
def bwd (ws:List Wt):Int:=((ws.filter fun x=>decide (x.2.1<x.1)).map fun x=>x.2.2.2).sum
theorem zdG:∀ (ws:List Wt),(∀ x∈ws,x.1<2∧x.2.1<2)→∀ Q:Nat→Int,zkp ws Q=(fwd ws - bwd ws) * (Q 1 - Q 0)
 | [],_,Q=>(Int.zero_mul _).symm
 | x::ws,h,Q=>by
  have ih:=zdG ws (fun y hy=>h y (List.mem_cons_of_mem _ hy)) Q
  obtain⟨i1,i2⟩:=h x List.mem_cons_self
  have e:zkp (x::ws) Q=x.2.2.2 * (Q x.2.1 - Q x.1) + zkp ws Q:=rfl
  rw[e,ih]
  unfold fwd bwd
  rw[List.filter_cons,List.filter_cons]
  rcases(by omega:x.1=0∨x.1=1) with a|a <;> rcases(by omega:x.2.1=0∨x.2.1=1) with b|b <;> rw[a,b]
  ·rw[if_neg (by decide),if_neg (by decide),Int.sub_self,Int.mul_zero,Int.zero_add]
  ·rw[if_pos (by decide),if_neg (by decide),List.map_cons,List.sum_cons,← Int.add_mul]
   congr 1
   omega
  ·rw[if_neg (by decide),if_pos (by decide),List.map_cons,List.sum_cons,show Q 0 - Q 1=-(Q 1 - Q 0) by omega,Int.mul_neg,← Int.neg_mul,← Int.add_mul]
   congr 1
   omega
  ·rw[if_neg (by decide),if_neg (by decide),Int.sub_self,Int.mul_zero,Int.zero_add]
theorem zi0 {l:List Int} (h:∀ x∈l,0≤x):0≤l.sum:=by
 induction l with
 | nil=>exact Int.le_refl _
 | cons x r ih=>
  rw[List.sum_cons]
  have:=h x List.mem_cons_self
  have:=ih fun y hy=>h y (List.mem_cons_of_mem _ hy)
  omega
theorem zjN {ws:List Wt}{lo hi:Option Int}{pl fl:List Int} (hin:∀ x∈ws,x.1<2∧x.2.1<2) (hwt:∀ x∈ws,0≤x.2.2.2) (hl:Grt (zbV ws 0 1) lo) (hh:Grt (zbV ws 1 0) hi) (lk:zcA ws 2 pl fl) :
  (bwd ws<fwd ws→lo=some (fn pl 1 - fn pl 0))∧(fwd ws<bwd ws→∃ m,hi=some m∧fn pl 1 - fn pl 0=0 - m):=by
 have bt:=(zd5 hin hl hh (fn pl)).mp lk.fit
 have nd:¬ Due ws lo hi:=fun z=>zgP z bt
 obtain⟨a1,a2,_⟩:=ziZ nd
 have opt:∀ d,Btw ws lo hi d→(fwd ws - bwd ws) * (fn pl 1 - fn pl 0)≤(fwd ws - bwd ws) * d:=fun d hd=>by
  have f:zlG ws fun v=>if v=1 then d else 0:=(zd5 hin hl hh _).mpr (by
   show Btw ws lo hi ((if 1=1 then d else 0) - (if 0=1 then d else 0))
   rw[if_pos rfl,if_neg (by decide),Int.sub_zero]
   exact hd)
  have o:=lk.opt hin f
  rw[zdG ws hin,zdG ws hin] at o
  have e:(if 1=1 then d else 0) - (if 0=1 then d else 0)=d:=by rw[if_pos rfl,if_neg (by decide),Int.sub_zero]
  have o:(fwd ws - bwd ws) * (fn pl 1 - fn pl 0)≤(fwd ws - bwd ws) * ((if 1=1 then d else 0) - (if 0=1 then d else 0)):=o
  rw[e] at o
  exact o
 have f0:0≤fwd ws:=zi0 fun y hy=>by
  obtain⟨x,hx,rfl⟩:=List.mem_map.mp hy
  exact hwt x (List.mem_filter.mp hx).1
 have b0:0≤bwd ws:=zi0 fun y hy=>by
  obtain⟨x,hx,rfl⟩:=List.mem_map.mp hy
  exact hwt x (List.mem_filter.mp hx).1
 refine⟨fun h=>?_,fun h=>?_⟩
 ·cases lo with
  | none=>
   exfalso
   rcases hl with⟨z,_⟩|⟨m,_,_,z⟩
   ·have:fwd ws=0:=by
     unfold fwd
     have e:ws.filter (fun x=>decide (x.1<x.2.1))=[]:=List.filter_eq_nil_iff.mpr fun x hx c=>by
      have c:=of_decide_eq_true c
      obtain⟨i1,i2⟩:=hin x hx
      have fm:=ze8 hx
      rw[show x.1=0 by omega,show x.2.1=1 by omega,z] at fm
      cases fm
     rw[e]
     rfl
    omega
   ·cases z
  | some l=>
   have o:=opt l (a1 l rfl)
   have g:=bt.2.1 l rfl
   have:=Int.le_of_mul_le_mul_left o (by omega)
   rw[show l=fn pl 1 - fn pl 0 by omega]
 ·cases hi with
  | none=>
   exfalso
   rcases hh with⟨z,_⟩|⟨m,_,_,z⟩
   ·have:bwd ws=0:=by
     unfold bwd
     have e:ws.filter (fun x=>decide (x.2.1<x.1))=[]:=List.filter_eq_nil_iff.mpr fun x hx c=>by
      have c:=of_decide_eq_true c
      obtain⟨i1,i2⟩:=hin x hx
      have fm:=ze8 hx
      rw[show x.1=1 by omega,show x.2.1=0 by omega,z] at fm
      cases fm
     rw[e]
     rfl
    omega
   ·cases z
  | some m=>
   have o:=opt (0 - m) (a2 m rfl)
   have g:=bt.2.2 m rfl
   have e1:(bwd ws - fwd ws) * (0 - m)≤(bwd ws - fwd ws) * (fn pl 1 - fn pl 0):=by
    have t1:(bwd ws - fwd ws) * (0 - m)=-((fwd ws - bwd ws) * (0 - m)):=by rw[← Int.neg_mul];congr 1;omega
    have t2:(bwd ws - fwd ws) * (fn pl 1 - fn pl 0)=-((fwd ws - bwd ws) * (fn pl 1 - fn pl 0)):=by rw[← Int.neg_mul];congr 1;omega
    omega
   have:=Int.le_of_mul_le_mul_left e1 (by omega)
   exact⟨m,rfl,by omega⟩
theorem zd6:∀ (ws:List Wt) (p:List Nat),(∀ x∈ws,x.1=x.2.1)→ws.foldl pt1 p=p
 | [],_,_=>rfl
 | x::ws,p,h=>by
  have e:pt1 p x=p:=by
   unfold pt1
   rw[h x List.mem_cons_self]
   refine(List.map_congr_left (g:=id) fun y _=>?_).trans (List.map_id p)
   show(if y=p.getD x.2.1 0 then p.getD x.2.1 0 else y)=y
   split
   ·rename_i c
    exact c.symm
   ·rfl
  show ws.foldl pt1 (pt1 p x)=p
  rw[e]
  exact zd6 ws p fun y hy=>h y (List.mem_cons_of_mem _ hy)
theorem zfT {α:Type} (p:α→Bool) (f:α→Int):∀ l:List α,((l.filter p).map f).sum=(l.map fun x=>if p x=true then f x else 0).sum
 | []=>rfl
 | x::l=>by
  have ih:=zfT p f l
  rw[List.filter_cons,List.map_cons,List.sum_cons,← ih]
  by_cases c:p x=true
  ·rw[if_pos c,if_pos c,List.map_cons,List.sum_cons]
  ·rw[if_neg c,if_neg c,Int.zero_add]
theorem zi1 {ws:List Wt} (hin:∀ x∈ws,x.1<2∧x.2.1<2) (f:Nat→Int):bal (wn ws 2) f 1=sm (fun n=>if decide ((wn ws 2).on n<(wn ws 2).ot n)=true then f n else 0) ws.length - sm (fun n=>if decide ((wn ws 2).ot n<(wn ws 2).on n)=true then f n else 0) ws.length:=by
 rw[← zcM]
 refine zaA _ fun n hn=>?_
 have ok:=zhc hin
 have h1:(wn ws 2).on n<2:=ok.on n hn
 have h2:(wn ws 2).ot n<2:=ok.ot n hn
 generalize (wn ws 2).on n=o at h1 ⊢
 generalize (wn ws 2).ot n=t at h2 ⊢
 rcases(by omega:o=0∨o=1) with a|a <;> rcases(by omega:t=0∨t=1) with b|b <;> rw[a,b] <;> simp
theorem fwd_sm (ws:List Wt):fwd ws=sm (fun n=>if decide ((wn ws 2).on n<(wn ws 2).ot n)=true then wtF ws n else 0) ws.length:=by
 unfold fwd
 rw[zfT]
 have h:=zfS ws (0,0,0,0) (fun x=>if decide (x.1<x.2.1)=true then x.2.2.2 else 0) ws.length (Nat.le_refl _)
 rw[List.take_length] at h
 exact h
theorem bwd_sm (ws:List Wt):bwd ws=sm (fun n=>if decide ((wn ws 2).ot n<(wn ws 2).on n)=true then wtF ws n else 0) ws.length:=by
 unfold bwd
 rw[zfT]
 have h:=zfS ws (0,0,0,0) (fun x=>if decide (x.2.1<x.1)=true then x.2.2.2 else 0) ws.length (Nat.le_refl _)
 rw[List.take_length] at h
 exact h
theorem zi2 {ws:List Wt}{fl:List Int} (h:fl.length=ws.length) (g:Wt→Int→Int):((ws.zip fl).map fun p=>g p.1 p.2).sum=sm (fun n=>g (ws.getD n (0,0,0,0)) (fn fl n)) ws.length:=by
 have e:=zfS (ws.zip fl) ((0,0,0,0),0) (fun p=>g p.1 p.2) ws.length (by rw[List.length_zip];omega)
 rw[List.take_of_length_le (by rw[List.length_zip];omega)] at e
 refine e.trans (zaA _ fun n hn=>?_)
 have e1:ws[n]?=some (ws.getD n (0,0,0,0)):=by rw[List.getD_eq_getElem?_getD,List.getElem?_eq_getElem hn];rfl
 have e2:fl[n]?=some (fn fl n):=by unfold fn;rw[List.getD_eq_getElem?_getD,List.getElem?_eq_getElem (show n<fl.length by omega)];rfl
 have e3:(ws.zip fl)[n]?=some (ws.getD n (0,0,0,0),fn fl n):=by
  rw[List.getElem?_zip_eq_some]
  exact⟨e1,e2⟩
 rw[List.getD_eq_getElem?_getD,e3]
 rfl
def mor (ws:List Wt) (fl:List Int):Int:=(((ws.zip fl).filter fun p=>decide (p.1.1<p.1.2.1)).map fun p=>p.2).sum
def les (ws:List Wt) (fl:List Int):Int:=(((ws.zip fl).filter fun p=>decide (p.1.2.1<p.1.1)).map fun p=>p.2).sum
def com (ws:List Wt) (fl:List Int):Int:=((ws.zip fl).map fun p=>p.1.2.2.1 * p.2).sum
theorem zjO {ws:List Wt}{pl fl:List Int} (hin:∀ x∈ws,x.1<2∧x.2.1<2) (lk:zcA ws 2 pl fl):mor ws fl - les ws fl=fwd ws - bwd ws∧com ws fl=(fn pl 1 - fn pl 0) * (fwd ws - bwd ws):=by
 have b:=lk.bl 1 (by decide)
 rw[zi1 hin,zi1 hin,← fwd_sm,← bwd_sm] at b
 have m1:mor ws fl=sm (fun n=>if decide ((wn ws 2).on n<(wn ws 2).ot n)=true then fn fl n else 0) ws.length:=by
  unfold mor
  rw[zfT]
  exact zi2 lk.lf fun x y=>if decide (x.1<x.2.1)=true then y else 0
 have m2:les ws fl=sm (fun n=>if decide ((wn ws 2).ot n<(wn ws 2).on n)=true then fn fl n else 0) ws.length:=by
  unfold les
  rw[zfT]
  exact zi2 lk.lf fun x y=>if decide (x.2.1<x.1)=true then y else 0
 rw[← m1,← m2] at b
 refine⟨b,?_⟩
 have s:=zko (N:=wn ws 2) (zhc hin) lk.bl lk.ti
 have c:com ws fl=sm (fun n=>fn fl n * (wn ws 2).le n) ws.length:=by
  unfold com
  refine(zi2 lk.lf fun x y=>x.2.2.1 * y).trans (zaA _ fun n _=>Int.mul_comm _ _)
 have w:=zdG ws hin (fn pl)
 rw[zgg ws 2] at w
 rw[c,Int.mul_comm,← w]
 exact s
end K21
namespace K21
open PySem L2
section
variable {P:Program}{w:World}{K:PySem.W.Frag}{mg:Str→Option Value}{base:Heap}{a:Adr}
theorem zfU (l:List Nat):zbh l=(l.map fun n=>((n:Nat):Int)).map V.int:=by
 unfold zbh
 rw[List.map_map]
 rfl
theorem at_wt {H:Hp}{ws:List Wt}{xs:List V}{n:Nat} (hd:zb4 K H ((ws.map wI).map wD) xs) (h:n<ws.length):∃ t,atI xs (n:Int)=some (.ref t)∧SqT K H t (wV (wI (ws.getD n (0,0,0,0)))):=by
 have hl:xs.length=ws.length:=by rw[← hd.length,List.length_map,List.length_map]
 obtain⟨x,hx⟩:=zbo (l:=xs) (j:=n) (by omega)
 rw[List.map_map] at hd
 obtain⟨q,hq,dq⟩:=zaR hd hx
 obtain⟨t,rfl,ht⟩:=zfa dq
 refine⟨t,by rw[zch (by omega),Int.toNat_natCast];exact hx,?_⟩
 rw[List.getD_eq_getElem?_getD,hq]
 exact ht
def zlO (K:PySem.W.Frag):Sp:=fun vs H Q _=>∃ l g ws ring,vs=[.ref l,.ref g]∧zhj K H l ((ws:List Wt).map wI)∧(∀ x∈ws,x.1<2∧x.2.1<2)∧ws.length≤200∧H g=some (.lst (zbh ring))∧zcj (wn ws 2) ring∧∀ H',zaj H H'→Q (.bl true) H'
set_option maxHeartbeats 4000000 in
theorem zjP (T:Tx K mg a):Cal P w K mg base CX0 2 "_law_ring" ["_law_wishes","_law_ring_here"] [] (zlO K):=T.d__law_ring.cal fun f fd F=>by
 have c__law_whole:=zgO (P:=P) (w:=w) (base:=base) T
 refine F.ok zdt (fun vs H Q E h=>?_) (fun cdv A outer s H vs Q E hr h=>?_)
 ·obtain⟨l,g,ws,ring,rfl,_⟩:=h
  rfl
 ·obtain⟨l,g,ws,ring,rfl,⟨xs,hl,hd⟩,hin,hw,hg,told,k⟩:=h
  have hwl:ws.length=xs.length:=by rw[← hd.length,List.length_map,List.length_map]
  obtain⟨pos,lt,nxt,clo,dis⟩:=told.way
  have sum:=told.pos
  have lt:∀ n∈ring,n<ws.length:=lt
  have ok:=zhc hin
  have two:ring.length≤2:=by
   rcases Nat.lt_or_ge 2 ring.length with z|z
   ·exfalso
    obtain⟨a0,h0⟩:=zbo (l:=ring) (j:=0) (by omega)
    obtain⟨a1,h1⟩:=zbo (l:=ring) (j:=1) (by omega)
    obtain⟨a2,h2⟩:=zbo (l:=ring) (j:=2) (by omega)
    have d1:=dis 0 1 a0 a1 (by decide) h0 h1
    have d2:=dis 0 2 a0 a2 (by decide) h0 h2
    have d3:=dis 1 2 a1 a2 (by decide) h1 h2
    have e0:(wn ws 2).on a0<2:=ok.on a0 (lt a0 (List.mem_of_getElem? h0))
    have e1:(wn ws 2).on a1<2:=ok.on a1 (lt a1 (List.mem_of_getElem? h1))
    have e2:(wn ws 2).on a2<2:=ok.on a2 (lt a2 (List.mem_of_getElem? h2))
    omega
   ·exact z
  rw[zfU] at hg
  generalize hri:(ring.map fun n=>((n:Nat):Int))=rI at hg
  have rl:rI.length=ring.length:=by rw[← hri,List.length_map]
  have rm:∀ x∈rI,0≤x∧x<ws.length:=fun x hx=>by
   rw[← hri] at hx
   obtain⟨n,hn,rfl⟩:=List.mem_map.mp hx
   have:=lt n hn
   omega
  refine⟨_,(zad (zbF (PW.pt (zcY (zdI (zbT (zao zbO rfl T.n_isinstance zaU (zab (pv 1) (zab (zeo rfl T.n_list zdX) zah))))) (zcY (zaq (op_eqD hr.units) (pv 1) (zcg zah) (zau _)) (zcJ (zdI (zbT (zao zfB rfl T.n_all zj5 (zab (zaN (N:=["_law_at"]) (cap:=[none]) rfl (zaT (osc:=zae za1) (XN:=["_law_wishes","_law_ring_here","_law_some"]) rfl rfl (by decide +kernel)) (zaF (pv 1)) (fun cl C s H fp pins=>(zak (i:=0) (show(["_law_at"]:List Str).Nodup by decide +kernel) rfl (by first|exact Or.inl rfl|exact Or.inr rfl))) (fun cl C s H fp pins=>zaW) (fun cl C s H fp pins=>(zaK c__law_whole (hr.mono (by decide)) rfl (zab (pv 0) zah)))) zah)))))))) (zai (zaH zdv)) zaI)
   (zad (zbF (PW.pt (zcY (zaq zc4 (zao zaS rfl T.n_len zde (zab (pv 1) zah)) zaf (zau _)) (zcJ (zbT (zao zdY rfl T.n_any zh0 (zab (zaN (N:=["_law_at","_law_wishes"]) (cap:=[none,some 0]) rfl (zaT (osc:=zae za1) (XN:=["_law_wishes","_law_ring_here","_law_some"]) rfl rfl (by decide +kernel)) (zaF (pv 1)) (fun cl C s H fp pins=>(zak (i:=0) (show(["_law_at","_law_wishes"]:List Str).Nodup by decide +kernel) rfl (by first|exact Or.inl rfl|exact Or.inr rfl))) (fun cl C s H fp pins=>zaW) (fun cl C s H fp pins=>(pe_or (zbM zeE (pv 0) zaf (zau _)) (zed (zbM op_ge (pv 0) (zao (zeP (K:=K) rfl) rfl T.n_len zde (zab (pv 1) zah)) (zau _)))))) zah)))))) (zai (zaH zdv)) zaI)
   (zad (zdS (i:=2) zdt.nd rfl rfl (N:=["_law_at","_law_wishes"]) (cap:=[none,some 0]) rfl (zaT (osc:=zae za1) (XN:=["_law_wishes","_law_ring_here","_law_some"]) rfl rfl (by decide +kernel)) (zaF (pv 1)) (fun cl C s H fp pins=>(zak (i:=0) (show(["_law_at","_law_wishes"]:List Str).Nodup by decide +kernel) rfl (by first|exact Or.inl rfl|exact Or.inr rfl))) (fun cl C s H fp pins=>zaW) (fun cl C s H fp pins=>(zas (zdB (K:=K) rfl) (pv 1) (pv 0) (fun _ _=>rfl))) (hsw:=rfl))
   (zad (zbF (PW.pt (zcp (zaq zc3 (zao zaS rfl T.n_len zde (zab (pv 2) zah)) zaf (zau _)) (zbW (PW.pt (zcY (zaq zc3 (zas zbn (zas zav (pv 2) zaf (fun _ _=>rfl)) zaf (fun _ _=>rfl)) (zas zbn (zas zav (pv 2) zaf (fun _ _=>rfl)) zaf (fun _ _=>rfl)) (zau _)) (zcJ (zaq zeD (zas zbn (zas zav (pv 2) zaf (fun _ _=>rfl)) zaf (fun _ _=>rfl)) (zas zbn (zas zav (pv 2) zaf (fun _ _=>rfl)) zaf (fun _ _=>rfl)) (zau _)))))))) (zai (zaH zdv)) zaI)
   (zai (zaH (zee (zbM zc3 (zas zbn (zas zav (pv 2) (zkw zhv zaf) (fun _ _=>rfl)) zaf (fun _ _=>rfl)) (zas zbn (zas zav (pv 2) zaf (fun _ _=>rfl)) zaf (fun _ _=>rfl)) (zau _)) (zed (zbM zc4 (zao zcC rfl T.n_sum zeq (zab (zaN (N:=["_law_wish_here"]) (cap:=[none]) rfl (zaT (osc:=zae za1) (XN:=["_law_wishes","_law_ring_here","_law_some"]) rfl rfl (by decide +kernel)) (zaF (pv 2)) (fun cl C s H fp pins=>(zak (i:=0) (show(["_law_wish_here"]:List Str).Nodup by decide +kernel) rfl (by first|exact Or.inl rfl|exact Or.inr rfl))) (fun cl C s H fp pins=>zaW) (fun cl C s H fp pins=>(zas (za4 (K:=K) rfl) (pv 0) zaf (fun _ _=>rfl)))) zah)) zaf (zau _)))))))))),?_⟩
  refine⟨_,rfl,_,_,_,_,_,rfl,rfl,.lst hg,T.kb_list_list,_,rfl,zbw rfl ?_⟩
  refine⟨_,rfl,(by show 0≤sizeLine;decide),fun z nz=>?_⟩
  have s1:zaj H (upd H z (.lst [])):=zaj.new nz
  have h1:upd H z (.lst []) z=some (.lst []):=zaa
  generalize upd H z (.lst [])=H1 at s1 h1 ⊢
  refine⟨.lst (rI.map Dt.int),.lst [],rfl,rfl,⟨g,_,rfl,SqL.of (s1 _ _ hg),zgw _⟩,⟨z,[],rfl,SqL.of h1,rfl⟩,zg6 _,_,rfl,zbw ?_ ?_⟩
  ·cases rI with
   | nil=>
    have:ring.length=0:=rl.symm
    omega
   | cons x r=>rfl
  refine⟨_,rfl,g,rfl,⟨_,SqL.of (s1 _ _ hg)⟩,fun D hD=>?_⟩
  refine zax (K:=K) (a:=g) (xs:=rI.map V.int) (fun i τ G=>∃ v1,τ=[v1]∧zaj H1 G∧G D=some (.lst ((List.replicate i true).map V.bl))) ⟨none,rfl,zaj.new hD,zaa⟩ ?_ ?_ ?_
  ·rintro i τ G _ ⟨_,rfl,sg,_⟩
   exact SqL.of (sg _ _ (s1 _ _ hg))
  ·rintro i y τ G hy ⟨v1,rfl,sg,hG⟩
   obtain⟨z,hz,rfl⟩:=zby hy
   have hi:=(List.getElem?_eq_some_iff.mp hz).1
   dsimp only[zbl,zd7]
   rw[if_pos rfl]
   refine⟨_,rfl,z,rfl,_,hG,?_,_,rfl,zap hD sg,?_⟩
   ·rw[List.length_map,List.length_replicate,sizeLine_eq]
    omega
   ·rw[zaa,List.replicate_succ',List.map_append]
    rfl
  rintro τ H2 ⟨v1,rfl,s2,hD2⟩
  have t2:=s1.trans s2
  refine⟨D,_,rfl,SqL.of hD2,_,rfl,zbw (by rw[ze7];rfl) ?_⟩
  refine⟨_,rfl,g,_,rfl,.inl (SqL.of (t2 _ _ hg)),_,_,rfl,rfl,_,rfl,zbw (decide_eq_false (by rw[List.length_map];omega)) ?_⟩
  refine⟨_,rfl,g,rfl,⟨_,SqL.of (t2 _ _ hg)⟩,fun B hB=>?_⟩
  refine zax (K:=K) (a:=g) (xs:=rI.map V.int) (fun i τ G=>∃ v1,τ=[v1,some (.ref l)]∧zaj H2 G∧G B=some (.lst ((List.replicate i false).map V.bl))) ⟨none,rfl,zaj.new hB,zaa⟩ ?_ ?_ ?_
  ·rintro i τ G _ ⟨_,rfl,sg,_⟩
   exact SqL.of (sg _ _ (t2 _ _ hg))
  ·rintro i y τ G hy ⟨v1,rfl,sg,hG⟩
   obtain⟨z,hz,rfl⟩:=zby hy
   have hi:=(List.getElem?_eq_some_iff.mp hz).1
   obtain⟨z0,z1⟩:=rm z (List.mem_of_getElem? hz)
   dsimp only[zbl,zd7]
   rw[if_pos rfl]
   have fin:∀ G',zaj G G'→∃ ys,G' B=some (.lst ys)∧ys.length<sizeLine∧∃ v1,[some (V.int z),some (.ref l)]=[v1,some (.ref l)]∧zaj H2 (upd G' B (.lst (ys++[.bl false])))∧upd G' B (.lst (ys++[.bl false])) B=some (.lst ((List.replicate (i + 1) false).map V.bl)):=fun G' s'=>by
    refine⟨_,s' _ _ hG,?_,_,rfl,zap hB (sg.trans s'),?_⟩
    ·rw[List.length_map,List.length_replicate,sizeLine_eq]
     omega
    ·rw[zaa,List.replicate_succ',List.map_append]
     rfl
   refine⟨_,rfl,_,_,rfl,rfl,_,rfl,zbw (decide_eq_false (by omega)) ?_⟩
   refine⟨_,rfl,_,rfl,l,_,rfl,.inl ((t2.trans sg).sqL hl),_,_,rfl,rfl,?_⟩
   dsimp only
   rw[decide_eq_false (show ¬ ((xs.length:Nat):Int)≤z by omega)]
   exact fin G (zaj.refl _)
  rintro τ H3 ⟨v2,rfl,s3,hB3⟩
  have noF:∀ n:Nat,((List.replicate n false).any id)=false:=fun n=>by
   induction n with
   | zero=>rfl
   | succ n ih=>rw[List.replicate_succ,List.any_cons,ih];rfl
  have t3:=t2.trans s3
  refine⟨B,_,rfl,SqL.of hB3,_,rfl,zbw (noF _) ?_⟩
  refine⟨_,rfl,g,rfl,⟨_,SqL.of (t3 _ _ hg)⟩,fun S hS=>?_⟩
  refine zax (K:=K) (a:=g) (xs:=rI.map V.int) (fun i τ G=>∃ v1 ys,τ=[v1,some (.ref l)]∧zaj H3 G∧G S=some (.lst ys)∧zb4 K G ((ring.take i).map fun n=>wD (wI (ws.getD n (0,0,0,0)))) ys) ⟨none,[],rfl,zaj.new hS,zaa,rfl⟩ ?_ ?_ ?_
  ·rintro i τ G _ ⟨_,_,rfl,sg,_⟩
   exact SqL.of (sg _ _ (t3 _ _ hg))
  ·rintro i y τ G hy ⟨v1,ys,rfl,sg,hG,hds⟩
   rw[← hri,← zfU] at hy
   obtain⟨n,hn,rfl⟩:=zdo hy
   have nl:=lt n (List.mem_of_getElem? hn)
   have tg:=t3.trans sg
   obtain⟨t,at1,ht⟩:=at_wt (tg.dts hd) nl
   have yl:ys.length≤1000:=by
    have:=hds.length
    rw[List.length_map,List.length_take] at this
    omega
   dsimp only[zbl,zd7]
   rw[if_pos rfl]
   refine⟨_,rfl,_,rfl,l,_,_,_,rfl,rfl,tg.sqL hl,at1,_,hG,by rw[sizeLine_eq];omega,_,ys++[.ref t],rfl,zap hS sg,zaa,?_⟩
   rw[zan hn,List.map_append]
   have kp:Tk G (upd G S (.lst (ys++[.ref t]))):=Tk.upd hG rfl
   exact zb4.snoc (kp.dt rfl (dt_w ht)) (kp.dts (zaD (fun _=>rfl) _) hds)
  rintro τ H4 ⟨v3,ys,rfl,s4,hS4,hds⟩
  rw[List.length_map,rl,List.take_length] at hds
  have yl:ys.length=ring.length:=by rw[← hds.length,List.length_map]
  have t4:=t3.trans s4
  obtain⟨y0,hy0⟩:=zbo (l:=ys) (j:=0) (by omega)
  obtain⟨n0,hn0,dn0⟩:=zaR hds hy0
  obtain⟨u0,rfl,hu0⟩:=zfa dn0
  have at00:atI ys 0=some (.ref u0):=by
   rw[show(0:Int)=((0:Nat):Int) from rfl,zch (by omega)]
   exact hy0
  obtain⟨yz,hyz⟩:=zbo (l:=ys) (j:=ys.length - 1) (by omega)
  obtain⟨nz',hnz,dnz⟩:=zaR hds hyz
  obtain⟨uz,rfl,huz⟩:=zfa dnz
  have fin:(wn ws 2).ot nz'=(wn ws 2).on n0:=clo nz' n0 (by rw[← yl];exact hnz) hn0
  apply zdZ (fun _:Unit=>[some (.ref l),some (.ref g),some (.ref S)]) (fun _ G=>G=H4)
  case g=>
   intro zbe
   refine⟨_,rfl,S,_,rfl,.inl (SqL.of hS4),rfl,_,rfl,?_⟩
   refine zcT (fun b1=>?_) (fun _=>zcL (zbe () H4 rfl))
   have l2:ys.length=2:=by
    have:=of_decide_eq_true b1
    injection this with z
    omega
   obtain⟨y1,hy1⟩:=zbo (l:=ys) (j:=1) (by omega)
   obtain⟨n1,hn1,dn1⟩:=zaR hds hy1
   obtain⟨u1,rfl,hu1⟩:=zfa dn1
   have at11:atI ys 1=some (.ref u1):=by
    rw[show(1:Int)=((1:Nat):Int) from rfl,zch (by omega)]
    exact hy1
   refine⟨_,rfl,S,_,_,_,rfl,rfl,SqL.of hS4,at00,u0,_,_,_,rfl,rfl,hu0,rfl,_,rfl,S,_,_,_,rfl,rfl,SqL.of hS4,at11,u1,_,_,_,rfl,rfl,hu1,rfl,rfl,_,rfl,zbw ?_ ?_⟩
   ·refine decide_eq_false fun z=>?_
    have z:V.int (((wn ws 2).on n0:Nat):Int)=V.int (((wn ws 2).on n1:Nat):Int):=z
    injection z with z
    exact dis 0 1 n0 n1 (by decide) hn0 hn1 (Int.ofNat.inj z)
   refine⟨_,rfl,S,_,_,_,rfl,rfl,SqL.of hS4,at00,u0,_,_,_,rfl,rfl,hu0,rfl,_,rfl,S,_,_,_,rfl,rfl,SqL.of hS4,at11,u1,_,_,_,rfl,rfl,hu1,rfl,rfl,_,rfl,zbw ?_ (zbe () H4 rfl)⟩
   have e:=nxt 0 n0 n1 hn0 hn1
   show(!decide (V.int (((wn ws 2).ot n0:Nat):Int)=V.int (((wn ws 2).on n1:Nat):Int)))=false
   rw[e,decide_eq_true rfl]
   rfl
  case h=>
  rintro _ G rfl
  refine⟨_,rfl,_,rfl,S,_,_,_,rfl,rfl,SqL.of hS4,zkh hyz,uz,_,_,_,rfl,rfl,huz,rfl,_,rfl,S,_,_,_,rfl,rfl,SqL.of hS4,at00,u0,_,_,_,rfl,rfl,hu0,rfl,rfl,_,rfl,zj7 ?_ ?_⟩
  ·show decide (V.int (((wn ws 2).ot nz':Nat):Int)=V.int (((wn ws 2).on n0:Nat):Int))=true
   rw[fin]
   exact decide_eq_true rfl
  refine⟨_,rfl,S,rfl,⟨_,SqL.of hS4⟩,fun Z hZ=>?_⟩
  refine zax (K:=K) (a:=S) (xs:=ys) (fun i τ G'=>∃ v1,τ=[v1]∧zaj G G'∧G' Z=some (.lst (((ring.take i).map (wn ws 2).le).map V.int))) ⟨none,rfl,zaj.new hZ,zaa⟩ ?_ ?_ ?_
  ·rintro i τ G' _ ⟨_,rfl,sg',_⟩
   exact SqL.of (sg' _ _ hS4)
  ·rintro i y τ G' hy ⟨v1,rfl,sg',hG⟩
   obtain⟨n,hn,dn⟩:=zaR hds hy
   obtain⟨t,rfl,ht⟩:=zfa (sg'.dt dn)
   dsimp only[zbl,zd7]
   rw[if_pos rfl]
   refine⟨_,rfl,t,_,_,_,rfl,rfl,ht,rfl,_,hG,?_,_,rfl,zap hZ sg',?_⟩
   ·rw[List.length_map,List.length_map,List.length_take,sizeLine_eq]
    omega
   ·rw[zaa,zan hn,List.map_append,List.map_append]
    rfl
  rintro τ G' ⟨v1,rfl,sg',hG'⟩
  rw[yl,List.take_length] at hG'
  refine⟨Z,_,rfl,SqL.of hG',_,_,rfl,rfl,?_⟩
  show Q (.bl (decide (0<(ring.map (wn ws 2).le).sum))) G'
  rw[decide_eq_true sum]
  exact k G' (t4.trans sg')
def spFar (K:PySem.W.Frag):Sp:=fun vs H Q _=>∃ l ws,∃ o t:Nat,vs=[.ref l,.int o,.int t]∧zhj K H l ((ws:List Wt).map wI)∧ws.length≤200∧∀ g H',zaj H H'→H g=none→H' g=some (.lst ((zbV ws o t).map V.int))→Q (.ref g) H'
set_option maxHeartbeats 4000000 in
theorem ok_far (T:Tx K mg a):Cal P w K mg base CX0 1 "_law_far" ["_law_wishes","_law_one","_law_other"] [] (spFar K):=T.d__law_far.cal fun f fd F=>by
 refine F.ok zgc (fun vs H Q E h=>?_) (fun cdv A outer s H vs Q E hr h=>?_)
 ·obtain⟨l,ws,o,t,rfl,_⟩:=h
  rfl
 ·obtain⟨l,ws,o,t,rfl,⟨xs,hl,hd⟩,hw,k⟩:=h
  have hwl:xs.length=ws.length:=by rw[← hd.length,List.length_map,List.length_map]
  rw[List.map_map] at hd
  refine⟨_,(zai (zaH (zaN (N:=["_law_wish_here","_law_one","_law_other"]) (cap:=[none,some 1,some 2]) rfl (zaT (osc:=zae zbK) (XN:=["_law_wishes","_law_one","_law_other"]) rfl rfl (by decide +kernel)) (zaF (pv 0)) (fun cl C s H fp pins=>(zak (i:=0) (show(["_law_wish_here","_law_one","_law_other"]:List Str).Nodup by decide +kernel) rfl (by first|exact Or.inl rfl|exact Or.inr rfl))) (fun cl C s H fp pins=>zcR (PW.pt (zcp (zaq zc3 (zas (za4 (K:=K) rfl) (pv 0) zaf (fun _ _=>rfl)) (pv 1) (zau _)) (zbW (zaq zc3 (zas (za4 (K:=K) rfl) (pv 0) zaf (fun _ _=>rfl)) (pv 2) (zau _)))))) (fun cl C s H fp pins=>(zas (za4 (K:=K) rfl) (pv 0) zaf (fun _ _=>rfl)))))),?_⟩
  refine⟨_,rfl,l,rfl,⟨_,hl⟩,fun D hD=>?_⟩
  refine zax (K:=K) (a:=l) (xs:=xs) (fun i τ G=>∃ v1,τ=[v1,some (.int (o:Nat)),some (.int (t:Nat))]∧zaj H G∧G D=some (.lst ((zbV (ws.take i) o t).map V.int))) ⟨none,rfl,zaj.new hD,zaa⟩ ?_ ?_ ?_
  ·rintro i τ G _ ⟨_,rfl,sg,_⟩
   exact sg.sqL hl
  ·rintro i y τ G hy ⟨v1,rfl,sg,hG⟩
   obtain⟨x,hx,dx⟩:=zaR hd hy
   obtain⟨u,rfl,hu⟩:=zfa (sg.dt dx)
   have fl:(zbV (ws.take i) o t).length≤200:=by
    unfold zbV
    have:=List.length_filter_le (fun x:Wt=>decide (x.1=o) && decide (x.2.1=t)) (ws.take i)
    rw[List.length_take] at this
    rw[List.length_map]
    omega
   have out:(decide (x.1=o) && decide (x.2.1=t))=false→zbV (ws.take (i + 1)) o t=zbV (ws.take i) o t:=fun b=>by
    unfold zbV
    rw[zan hx,List.filter_append,List.filter_cons,if_neg (by rw[b];decide),List.filter_nil,List.append_nil]
   dsimp only[zbl]
   refine⟨_,rfl,u,_,_,_,rfl,rfl,hu,rfl,_,rfl,rfl,_,rfl,?_⟩
   refine zcT (fun b1=>?_) (fun b1=>?_)
   ·have c1:x.1=o:=by
     have:=of_decide_eq_true b1
     injection this with z
     exact Int.ofNat.inj z
    refine⟨_,rfl,u,_,_,_,rfl,rfl,hu,rfl,_,rfl,rfl,_,rfl,?_⟩
    refine zcT (fun b2=>?_) (fun b2=>?_)
    ·have c2:x.2.1=t:=by
      have:=of_decide_eq_true b2
      injection this with z
      exact Int.ofNat.inj z
     refine⟨_,rfl,u,_,_,_,rfl,rfl,hu,rfl,_,hG,?_,_,rfl,zap hD sg,?_⟩
     ·rw[List.length_map,sizeLine_eq]
      omega
     ·rw[zaa]
      unfold zbV
      rw[zan hx,List.filter_append,List.filter_cons,if_pos (by rw[decide_eq_true c1,decide_eq_true c2];rfl),List.filter_nil,List.map_append,List.map_append]
      rfl
    ·have c2:¬ x.2.1=t:=fun z=>by
      have:=of_decide_eq_false b2
      exact this (by rw[← z];rfl)
     refine⟨_,rfl,sg,?_⟩
     rw[out (by rw[decide_eq_false c2,Bool.and_false])]
     exact hG
   ·have c1:¬ x.1=o:=fun z=>by
     have:=of_decide_eq_false b1
     exact this (by rw[← z];rfl)
    refine zcL ⟨_,rfl,sg,?_⟩
    rw[out (by rw[decide_eq_false c1,Bool.false_and])]
    exact hG
  rintro τ G ⟨v1,rfl,sg,hG⟩
  rw[hwl,List.take_length] at hG
  exact k D G sg hD hG
end
end K21
namespace K21
open PySem L2
section
variable {P:Program}{w:World}{K:PySem.W.Frag}{mg:Str→Option Value}{base:Heap}{a:Adr}
def oV:Option Int→V
 | none=>.non
 | some m=>.int m
theorem zlP {b:Bool}{A N X:Prop} (n:N) (h1:b=true→N→A):if b=true then A else(if false=true then X else N):=by
 cases b with
 | true=>exact h1 rfl n
 | false=>exact zcL (zcL n)
theorem ze9 {α:Type}{l:List α}{i:Nat}{x:α} (p:α→Bool) (h:l[i]?=some x):(l.take (i + 1)).filter p=(l.take i).filter p++(if p x=true then[x] else[]):=by
 rw[zan h,List.filter_append,List.filter_cons,List.filter_nil]
theorem zgQ {α:Type}{l:List α}{i:Nat} (p:α→Bool):((l.take i).filter p).length≤l.length:=by
 have:=List.length_filter_le p (l.take i)
 rw[List.length_take] at this
 omega
theorem zi3 {ws:List Wt}{am:List Int}{i:Nat}{q:Wt}{x:Int} (h1:ws[i]?=some q) (h2:am[i]?=some x):(ws.zip am)[i]?=some (q,x):=by
 rw[List.getElem?_zip_eq_some]
 exact⟨h1,h2⟩
theorem zfV:∀ n:Nat,((List.replicate n false).any id)=false
 | 0=>rfl
 | n + 1=>by rw[List.replicate_succ,List.any_cons,zfV n];rfl
theorem zlQ {B:Int}{l:List Int} (b0:0≤B) (h:∀ x∈l,x≤B):l.sum≤(l.length:Int) * B:=by
 induction l with
 | nil=>rw[List.sum_nil,List.length_nil];simp
 | cons x r ih=>
  rw[List.sum_cons,List.length_cons]
  have h1:=h x List.mem_cons_self
  have h2:=ih fun y hy=>h y (List.mem_cons_of_mem _ hy)
  rw[show((r.length + 1:Nat):Int)=(r.length:Int) + 1 by omega,Int.add_mul,Int.one_mul]
  omega
theorem zjQ {ws:List Wt} (hok:∀ x∈ws,WtOk 2 x) (hw:ws.length≤200):zha (fwd ws - bwd ws):=by
 have key:∀ p:Wt→Bool,0≤((ws.filter p).map fun x=>x.2.2.2).sum∧((ws.filter p).map fun x=>x.2.2.2).sum≤200 * 2 ^ 40:=fun p=>by
  refine⟨zi0 fun y hy=>?_,?_⟩
  ·obtain⟨x,hx,rfl⟩:=List.mem_map.mp hy
   exact(hok x (List.mem_filter.mp hx).1).2.2.1
  ·have h:=zlQ (B:=2 ^ 40) (l:=(ws.filter p).map fun x=>x.2.2.2) (by decide) fun y hy=>by
    obtain⟨x,hx,rfl⟩:=List.mem_map.mp hy
    exact Int.le_of_lt (hok x (List.mem_filter.mp hx).1).2.2.2
   have l:=List.length_filter_le p ws
   rw[List.length_map] at h
   have:((ws.filter p).length:Int) * 2 ^ 40≤200 * 2 ^ 40:=Int.mul_le_mul_of_nonneg_right (by omega) (by decide)
   omega
 have h1:=key fun x=>decide (x.1<x.2.1)
 have h2:=key fun x=>decide (x.2.1<x.1)
 unfold zha fwd bwd
 constructor <;> omega
theorem pl_min {ws:List Wt}{pl fl:List Int} (lk:zcA ws 2 pl fl){m:Int} (hm:m∈pl) (all:∀ x∈pl,m≤x):m=0:=by
 obtain⟨_,j,hj,_,e⟩:=lk.ls 0 (by decide)
 have lp:=lk.lp
 obtain⟨n,hn⟩:=List.mem_iff_getElem?.mp hm
 have hn':=(List.getElem?_eq_some_iff.mp hn).1
 have a1:=(lk.ls n (by omega)).1
 unfold fn at e a1
 rw[List.getD_eq_getElem?_getD,hn] at a1
 have a1:0≤m:=a1
 rw[List.getD_eq_getElem?_getD,List.getElem?_eq_getElem (show j<pl.length by omega)] at e
 have e:pl[j]=0:=e
 have:=all pl[j] (List.getElem_mem _)
 omega
theorem pl_max {ws:List Wt}{pl fl:List Int} (hin:∀ x∈ws,x.1<2∧x.2.1<2) (lk:zcA ws 2 pl fl) (h1:zbV ws 0 1=[]) (h2:zbV ws 1 0=[]){m:Int} (hm:m∈pl):m=0:=by
 have lp:=lk.lp
 have al:∀ x∈ws,x.1=x.2.1:=fun x hx=>by
  obtain⟨i1,i2⟩:=hin x hx
  have fm:=ze8 hx
  rcases(by omega:x.1=0∨x.1=1) with a|a <;> rcases(by omega:x.2.1=0∨x.2.1=1) with b|b
  ·omega
  ·rw[a,b,h1] at fm
   cases fm
  ·rw[a,b,h2] at fm
   cases fm
  ·omega
 have e:ptF ws 2=List.range 2:=zd6 ws _ al
 obtain⟨n,hn⟩:=List.mem_iff_getElem?.mp hm
 have hn':=(List.getElem?_eq_some_iff.mp hn).1
 obtain⟨_,j,hj,p,z⟩:=lk.ls n (by omega)
 rw[e] at p
 have pj:∀ i,i<2→(List.range 2).getD i 0=i:=fun i hi=>by
  rcases(by omega:i=0∨i=1) with a|a <;> rw[a] <;> rfl
 rw[pj j hj,pj n (by omega)] at p
 subst p
 unfold fn at z
 rw[List.getD_eq_getElem?_getD,hn] at z
 exact z
def zlR (K:PySem.W.Frag):Sp:=fun vs H Q _=>∃ l p f,∃ ws:List Wt,∃ pl fl:List Int,∃ lo hi,vs=[.ref l,.ref p,.ref f,oV lo,oV (ng hi)]∧zhj K H l (ws.map wI)∧(∀ x∈ws,WtOk 2 x)∧ws.length≤200∧H p=some (.lst (pl.map V.int))∧H f=some (.lst (fl.map V.int))∧zcA ws 2 pl fl∧Grt (zbV ws 0 1) lo∧Grt (zbV ws 1 0) hi∧∀ H',zaj H H'→Q (.bl true) H'
set_option maxHeartbeats 8000000 in
theorem zjR (T:Tx K mg a):Cal P w K mg base CX0 1 "_law_right" ["_law_wishes","_law_places","_law_flow","_law_low","_law_high"] [] (zlR K):=T.d__law_right.cal fun f fd F=>by
 refine F.ok zbd (fun vs H Q E h=>?_) (fun cdv A outer s H vs Q E hr h=>?_)
 ·obtain⟨l,p,f,ws,pl,fl,lo,hi,rfl,_⟩:=h
  rfl
 ·obtain⟨l,p,f,ws,pl,fl,lo,hi,rfl,⟨xs,hl,hd⟩,hok,hw,hp,hf,lk,gl,gh,k⟩:=h
  have hwl:xs.length=ws.length:=by rw[← hd.length,List.length_map,List.length_map]
  rw[List.map_map] at hd
  have hin:∀ x∈ws,x.1<2∧x.2.1<2:=fun x hx=>(hok x hx).1
  have bt:=(zd5 hin gl gh (fn pl)).mp lk.fit
  obtain⟨mo1,mo2⟩:=zjN hin (fun x hx=>(hok x hx).2.2.1) gl gh lk
  obtain⟨fl1,fl2⟩:=zjO hin lk
  have lp:=lk.lp
  have lf:=lk.lf
  have at0:atI (pl.map V.int) 0=some (.int (fn pl 0)):=zeX (i:=0) (by omega)
  have at1:atI (pl.map V.int) 1=some (.int (fn pl 1)):=zeX (i:=1) (by omega)
  refine⟨_,(zad (zam (i:=5) zbd.nd rfl (by first|exact Or.inl rfl|exact Or.inr rfl) (zaC zbC (zas zav (pv 1) zaf (fun _ _=>rfl)) (zas zav (pv 1) zaf (fun _ _=>rfl))))
   (zad (zam (i:=6) zbd.nd rfl (by first|exact Or.inl rfl|exact Or.inr rfl) (zao zcC rfl T.n_sum zeq (zab (zaN (N:=["_law_wish_here"]) (cap:=[none]) rfl (zaT (osc:=zae zaG) (XN:=["_law_wishes","_law_places","_law_flow","_law_low","_law_high","_law_off","_law_there","_law_back","_law_more","_law_less"]) rfl rfl (by decide +kernel)) (zaF (pv 0)) (fun cl C s H fp pins=>(zak (i:=0) (show(["_law_wish_here"]:List Str).Nodup by decide +kernel) rfl (by first|exact Or.inl rfl|exact Or.inr rfl))) (fun cl C s H fp pins=>zcR (zaq zeE (zas (za4 (K:=K) rfl) (pv 0) zaf (fun _ _=>rfl)) (zas (za4 (K:=K) rfl) (pv 0) zaf (fun _ _=>rfl)) (zau _))) (fun cl C s H fp pins=>(zas (za4 (K:=K) rfl) (pv 0) zaf (fun _ _=>rfl)))) zah)))
   (zad (zam (i:=7) zbd.nd rfl (by first|exact Or.inl rfl|exact Or.inr rfl) (zao zcC rfl T.n_sum zeq (zab (zaN (N:=["_law_wish_here"]) (cap:=[none]) rfl (zaT (osc:=zae zaG) (XN:=["_law_wishes","_law_places","_law_flow","_law_low","_law_high","_law_off","_law_there","_law_back","_law_more","_law_less"]) rfl rfl (by decide +kernel)) (zaF (pv 0)) (fun cl C s H fp pins=>(zak (i:=0) (show(["_law_wish_here"]:List Str).Nodup by decide +kernel) rfl (by first|exact Or.inl rfl|exact Or.inr rfl))) (fun cl C s H fp pins=>zcR (zaq zc4 (zas (za4 (K:=K) rfl) (pv 0) zaf (fun _ _=>rfl)) (zas (za4 (K:=K) rfl) (pv 0) zaf (fun _ _=>rfl)) (zau _))) (fun cl C s H fp pins=>(zas (za4 (K:=K) rfl) (pv 0) zaf (fun _ _=>rfl)))) zah)))
   (zad (zbF (PW.pt (zcY (PW.pt (zcp (zco (zcN (pv 3))) (zbW (zaq zeE (pv 5) (pv 3) (zau _))))) (zcJ (PW.pt (zcp (zco (zcN (pv 4))) (zbW (zaq zc4 (pv 5) (pv 4) (zau _)))))))) (zai (zaH zdv)) zaI)
   (zad (zbF (PW.pt (zcY (PW.pt (zcp (zaq zc4 (pv 6) (pv 7) (zau _)) (zbW (zaq zeD (pv 5) (pv 3) (zau _))))) (zcJ (PW.pt (zcp (zaq zeE (pv 6) (pv 7) (zau _)) (zbW (zaq zeD (pv 5) (pv 4) (zau _)))))))) (zai (zaH zdv)) zaI)
   (zad (zbF (PW.pt (zcY (zaq zeD (zao zfE rfl T.n_min zgv (zab (pv 1) zah)) zaf (zau _)) (zcY (PW.pt (zcp (zco (zhq (pv 3))) (zcp (zco (zhq (pv 4))) (zbW (zaq zeD (zao zia rfl T.n_max zh1 (zab (pv 1) zah)) zaf (zau _)))))) (zcJ (zbT (zao zdY rfl T.n_any zh0 (zab (zaN (N:=["_law_many"]) (cap:=[none]) rfl (zaT (osc:=zae zaG) (XN:=["_law_wishes","_law_places","_law_flow","_law_low","_law_high","_law_off","_law_there","_law_back","_law_more","_law_less"]) rfl rfl (by decide +kernel)) (zaF (pv 2)) (fun cl C s H fp pins=>(zak (i:=0) (show(["_law_many"]:List Str).Nodup by decide +kernel) rfl (by first|exact Or.inl rfl|exact Or.inr rfl))) (fun cl C s H fp pins=>zaW) (fun cl C s H fp pins=>(zbM zeE (pv 0) zaf (zau _)))) zah))))))) (zai (zaH zdv)) zaI)
   (zad (zam (i:=8) zbd.nd rfl (by first|exact Or.inl rfl|exact Or.inr rfl) (zao zcC rfl T.n_sum zeq (zab (zaN (N:=["_law_wish_here","_law_many"]) (cap:=[none,none]) rfl (zaT (osc:=zae zaG) (XN:=["_law_wishes","_law_places","_law_flow","_law_low","_law_high","_law_off","_law_there","_law_back","_law_more","_law_less"]) rfl rfl (by decide +kernel)) (zep rfl T.n_zip (zab (pv 0) (zab (pv 2) zah))) (fun cl C s H fp pins=>(zdj (K:=K) (n:=2) rfl rfl (zar (zak (i:=0) (show(["_law_wish_here","_law_many"]:List Str).Nodup by decide +kernel) rfl (by first|exact Or.inl rfl|exact Or.inr rfl)) (zar (zak (i:=1) (show(["_law_wish_here","_law_many"]:List Str).Nodup by decide +kernel) rfl (by first|exact Or.inl rfl|exact Or.inr rfl)) zbm)))) (fun cl C s H fp pins=>zcR (zaq zeE (zas (za4 (K:=K) rfl) (pv 0) zaf (fun _ _=>rfl)) (zas (za4 (K:=K) rfl) (pv 0) zaf (fun _ _=>rfl)) (zau _))) (fun cl C s H fp pins=>(pv 1))) zah)))
   (zad (zam (i:=9) zbd.nd rfl (by first|exact Or.inl rfl|exact Or.inr rfl) (zao zcC rfl T.n_sum zeq (zab (zaN (N:=["_law_wish_here","_law_many"]) (cap:=[none,none]) rfl (zaT (osc:=zae zaG) (XN:=["_law_wishes","_law_places","_law_flow","_law_low","_law_high","_law_off","_law_there","_law_back","_law_more","_law_less"]) rfl rfl (by decide +kernel)) (zep rfl T.n_zip (zab (pv 0) (zab (pv 2) zah))) (fun cl C s H fp pins=>(zdj (K:=K) (n:=2) rfl rfl (zar (zak (i:=0) (show(["_law_wish_here","_law_many"]:List Str).Nodup by decide +kernel) rfl (by first|exact Or.inl rfl|exact Or.inr rfl)) (zar (zak (i:=1) (show(["_law_wish_here","_law_many"]:List Str).Nodup by decide +kernel) rfl (by first|exact Or.inl rfl|exact Or.inr rfl)) zbm)))) (fun cl C s H fp pins=>zcR (zaq zc4 (zas (za4 (K:=K) rfl) (pv 0) zaf (fun _ _=>rfl)) (zas (za4 (K:=K) rfl) (pv 0) zaf (fun _ _=>rfl)) (zau _))) (fun cl C s H fp pins=>(pv 1))) zah)))
   (zad (zbF (zaq zeD (zaC zbC (pv 8) (pv 9)) (zaC zbC (pv 6) (pv 7)) (zau _)) (zai (zaH zdv)) zaI)
   (zai (zaH (zbM zc3 (zao zcC rfl T.n_sum zeq (zab (zaN (N:=["_law_wish_here","_law_many"]) (cap:=[none,none]) rfl (zaT (osc:=zae zaG) (XN:=["_law_wishes","_law_places","_law_flow","_law_low","_law_high","_law_off","_law_there","_law_back","_law_more","_law_less"]) rfl rfl (by decide +kernel)) (zep rfl T.n_zip (zab (pv 0) (zab (pv 2) zah))) (fun cl C s H fp pins=>(zdj (K:=K) (n:=2) rfl rfl (zar (zak (i:=0) (show(["_law_wish_here","_law_many"]:List Str).Nodup by decide +kernel) rfl (by first|exact Or.inl rfl|exact Or.inr rfl)) (zar (zak (i:=1) (show(["_law_wish_here","_law_many"]:List Str).Nodup by decide +kernel) rfl (by first|exact Or.inl rfl|exact Or.inr rfl)) zbm)))) (fun cl C s H fp pins=>zaW) (fun cl C s H fp pins=>(zaC zcf (zas (za4 (K:=K) rfl) (pv 0) zaf (fun _ _=>rfl)) (pv 1)))) zah)) (zaC zcf (pv 5) (zaC zbC (pv 6) (pv 7))) (zau _))))))))))))),?_⟩
  refine⟨_,rfl,p,_,_,_,rfl,rfl,SqL.of hp,at1,_,rfl,p,_,_,_,rfl,rfl,SqL.of hp,at0,_,_,rfl,rfl,?_⟩
  dsimp only
  refine⟨_,rfl,l,rfl,⟨_,hl⟩,fun D hD=>?_⟩
  refine zax (K:=K) (a:=l) (xs:=xs) (fun i τ G=>∃ v1,τ=[v1]∧zaj H G∧G D=some (.lst ((((ws.take i).filter fun x=>decide (x.1<x.2.1)).map fun x=>x.2.2.2).map V.int))) ⟨none,rfl,zaj.new hD,zaa⟩ ?_ ?_ ?_
  ·rintro i τ G _ ⟨_,rfl,sg,_⟩
   exact sg.sqL hl
  ·rintro i y τ G hy ⟨v1,rfl,sg,hG⟩
   obtain⟨x,hx,dx⟩:=zaR hd hy
   obtain⟨u,rfl,hu⟩:=zfa (sg.dt dx)
   have len:=zgQ (l:=ws) (i:=i) fun x=>decide (x.1<x.2.1)
   rw[ze9 (fun x:Wt=>decide (x.1<x.2.1)) hx]
   dsimp only[zbl]
   refine⟨_,rfl,u,_,_,_,rfl,rfl,hu,rfl,_,rfl,u,_,_,_,rfl,rfl,hu,rfl,_,_,rfl,rfl,_,rfl,?_⟩
   refine zcT (fun b1=>?_) (fun b1=>?_)
   ·have c1:((x.1:Nat):Int)<((x.2.1:Nat):Int):=of_decide_eq_true b1
    refine⟨_,rfl,u,_,_,_,rfl,rfl,hu,rfl,_,hG,?_,_,rfl,zap hD sg,?_⟩
    ·rw[List.length_map,List.length_map,sizeLine_eq]
     omega
    ·rw[zaa,if_pos (decide_eq_true (show x.1<x.2.1 by omega)),List.map_append,List.map_append]
     rfl
   ·have c1:¬ ((x.1:Nat):Int)<((x.2.1:Nat):Int):=of_decide_eq_false b1
    refine⟨_,rfl,sg,?_⟩
    rw[if_neg (fun z=>c1 (by have:=of_decide_eq_true z;omega)),List.append_nil]
    exact hG
  rintro τ H1 ⟨v1,rfl,s1,hD1⟩
  rw[hwl,List.take_length] at hD1
  refine⟨D,_,rfl,SqL.of hD1,?_⟩
  refine⟨_,rfl,l,rfl,⟨_,s1.sqL hl⟩,fun B hB=>?_⟩
  refine zax (K:=K) (a:=l) (xs:=xs) (fun i τ G=>∃ v1,τ=[v1]∧zaj H1 G∧G B=some (.lst ((((ws.take i).filter fun x=>decide (x.2.1<x.1)).map fun x=>x.2.2.2).map V.int))) ⟨none,rfl,zaj.new hB,zaa⟩ ?_ ?_ ?_
  ·rintro i τ G _ ⟨_,rfl,sg,_⟩
   exact(s1.trans sg).sqL hl
  ·rintro i y τ G hy ⟨v1,rfl,sg,hG⟩
   obtain⟨x,hx,dx⟩:=zaR hd hy
   obtain⟨u,rfl,hu⟩:=zfa ((s1.trans sg).dt dx)
   have len:=zgQ (l:=ws) (i:=i) fun x=>decide (x.2.1<x.1)
   rw[ze9 (fun x:Wt=>decide (x.2.1<x.1)) hx]
   dsimp only[zbl]
   refine⟨_,rfl,u,_,_,_,rfl,rfl,hu,rfl,_,rfl,u,_,_,_,rfl,rfl,hu,rfl,_,_,rfl,rfl,_,rfl,?_⟩
   refine zcT (fun b1=>?_) (fun b1=>?_)
   ·have c1:((x.2.1:Nat):Int)<((x.1:Nat):Int):=of_decide_eq_true b1
    refine⟨_,rfl,u,_,_,_,rfl,rfl,hu,rfl,_,hG,?_,_,rfl,zap hB sg,?_⟩
    ·rw[List.length_map,List.length_map,sizeLine_eq]
     omega
    ·rw[zaa,if_pos (decide_eq_true (show x.2.1<x.1 by omega)),List.map_append,List.map_append]
     rfl
   ·have c1:¬ ((x.2.1:Nat):Int)<((x.1:Nat):Int):=of_decide_eq_false b1
    refine⟨_,rfl,sg,?_⟩
    rw[if_neg (fun z=>c1 (by have:=of_decide_eq_true z;omega)),List.append_nil]
    exact hG
  rintro τ H2 ⟨v2,rfl,s2,hB2⟩
  rw[hwl,List.take_length] at hB2
  refine⟨B,_,rfl,SqL.of hB2,?_⟩
  have t2:=s1.trans s2
  apply zdZ (fun _:Unit=>[some (.ref l),some (.ref p),some (.ref f),some (oV lo),some (oV (ng hi)),some (.int (fn pl 1 - fn pl 0)),some (.int (fwd ws)),some (.int (bwd ws)),none,none]) (fun _ G=>G=H2)
  case g=>
   intro zbe
   cases lo with
   | none=>
    refine⟨_,rfl,_,rfl,zcL (zcL ?_)⟩
    cases hi with
    | none=>exact⟨_,rfl,_,rfl,zcL (zcL (zbe () H2 rfl))⟩
    | some m=>
     have:=bt.2.2 m rfl
     exact⟨_,rfl,_,rfl,zd8 ⟨_,rfl,_,rfl,_,_,rfl,rfl,_,rfl,zbw (decide_eq_false (by show ¬ fn pl 1 - fn pl 0 > 0 - m;omega)) (zbe () H2 rfl)⟩⟩
   | some lm=>
    have lb:=bt.2.1 lm rfl
    refine⟨_,rfl,_,rfl,zd8 ⟨_,rfl,_,rfl,_,_,rfl,rfl,_,rfl,zbw (decide_eq_false (by omega)) ?_⟩⟩
    cases hi with
    | none=>exact⟨_,rfl,_,rfl,zcL (zcL (zbe () H2 rfl))⟩
    | some m=>
     have:=bt.2.2 m rfl
     exact⟨_,rfl,_,rfl,zd8 ⟨_,rfl,_,rfl,_,_,rfl,rfl,_,rfl,zbw (decide_eq_false (by show ¬ fn pl 1 - fn pl 0 > 0 - m;omega)) (zbe () H2 rfl)⟩⟩
  case h=>
  rintro _ G rfl
  apply zdZ (fun _:Unit=>[some (.ref l),some (.ref p),some (.ref f),some (oV lo),some (oV (ng hi)),some (.int (fn pl 1 - fn pl 0)),some (.int (fwd ws)),some (.int (bwd ws)),none,none]) (fun _ G'=>G'=G)
  case g=>
   intro zbe
   refine⟨_,rfl,_,rfl,_,_,rfl,rfl,_,rfl,?_⟩
   refine zcT (fun c1=>?_) (fun _=>zcL ?_)
   ·have c1:bwd ws<fwd ws:=of_decide_eq_true c1
    have e:=mo1 c1
    subst e
    refine⟨_,rfl,_,rfl,rfl,_,rfl,zbw (by show(!decide (V.int _=V.int _))=false;rw[decide_eq_true rfl];rfl) ?_⟩
    exact⟨_,rfl,_,rfl,_,_,rfl,rfl,_,rfl,zbw (decide_eq_false (by show ¬ fwd ws<bwd ws;omega)) (zcL (zbe () G rfl))⟩
   ·refine⟨_,rfl,_,rfl,_,_,rfl,rfl,_,rfl,?_⟩
    refine zcT (fun c2=>?_) (fun _=>zcL (zbe () G rfl))
    have c2:fwd ws<bwd ws:=of_decide_eq_true c2
    obtain⟨m,e,e2⟩:=mo2 c2
    subst e
    refine⟨_,rfl,_,rfl,rfl,_,rfl,zbw ?_ (zbe () G rfl)⟩
    show(!decide (V.int (fn pl 1 - fn pl 0)=V.int (0 - m)))=false
    rw[e2,decide_eq_true rfl]
    rfl
  case h=>
  rintro _ G' rfl
  have hp2:=t2 _ _ hp
  have hf2:=t2 _ _ hf
  have pne:pl≠[]:=fun z=>by rw[z] at lp;cases lp
  refine⟨_,rfl,p,pl,rfl,SqL.of hp2,pne,fun m hm all=>?_⟩
  have m0:=pl_min lk hm all
  subst m0
  refine⟨rfl,_,rfl,zbw (by show(!decide (V.int 0=V.int 0))=false;rw[decide_eq_true rfl];rfl) ?_⟩
  refine⟨_,rfl,_,rfl,?_⟩
  refine zlP ?n ?h1
  case h1=>
   intro b1 n
   have e1:lo=none:=by
    cases lo with
    | none=>rfl
    | some _=>exact absurd (of_decide_eq_true b1) (by intro z;cases z)
   refine⟨_,rfl,_,rfl,zcT (fun b2=>?_) (fun _=>zcL n)⟩
   have e2:hi=none:=by
    cases hi with
    | none=>rfl
    | some _=>exact absurd (of_decide_eq_true b2) (by intro z;cases z)
   have f1:zbV ws 0 1=[]:=by
    rcases gl with⟨z,_⟩|⟨_,_,_,z⟩
    ·exact z
    ·rw[e1] at z
     cases z
   have f2:zbV ws 1 0=[]:=by
    rcases gh with⟨z,_⟩|⟨_,_,_,z⟩
    ·exact z
    ·rw[e2] at z
     cases z
   refine⟨_,rfl,p,pl,rfl,SqL.of hp2,pne,fun m' hm' _=>?_⟩
   have m0:=pl_max hin lk f1 f2 hm'
   subst m0
   exact⟨rfl,_,rfl,zbw (by show(!decide (V.int 0=V.int 0))=false;rw[decide_eq_true rfl];rfl) n⟩
  case n=>
  refine⟨_,rfl,f,rfl,⟨_,SqL.of hf2⟩,fun N hN=>?_⟩
  refine zax (K:=K) (a:=f) (xs:=fl.map V.int) (fun i τ G=>∃ v1,τ=[v1]∧zaj G' G∧G N=some (.lst ((List.replicate i false).map V.bl))) ⟨none,rfl,zaj.new hN,zaa⟩ ?_ ?_ ?_
  ·rintro i τ G _ ⟨_,rfl,sg,_⟩
   exact SqL.of (sg _ _ hf2)
  ·rintro i y τ G hy ⟨v1,rfl,sg,hG⟩
   obtain⟨z,hz,rfl⟩:=zby hy
   have hi':=(List.getElem?_eq_some_iff.mp hz).1
   have z0:0≤z:=by
    have:=lk.ti.f i (show i<ws.length by omega)
    unfold fn at this
    rw[List.getD_eq_getElem?_getD,hz] at this
    exact this
   dsimp only[zbl,zd7]
   rw[if_pos rfl]
   refine⟨_,rfl,_,_,rfl,rfl,_,hG,?_,_,rfl,zap hN sg,?_⟩
   ·rw[List.length_map,List.length_replicate,sizeLine_eq]
    omega
   ·rw[zaa,List.replicate_succ',List.map_append]
    show some (HO.lst (_++[V.bl (decide (z<0))]))=_
    rw[decide_eq_false (show ¬ z<0 by omega)]
    rfl
  rintro τ H3 ⟨v3,rfl,s3,hN3⟩
  have t3:=t2.trans s3
  refine⟨N,_,rfl,SqL.of hN3,_,rfl,zbw (zfV _) ?_⟩
  have zl:(fl.map V.int).length=ws.length:=by rw[List.length_map,lf]
  have zz:(ws.zip fl).length=ws.length:=by rw[List.length_zip];omega
  refine⟨_,rfl,_,rfl,l,f,rfl,⟨_,t3.sqL hl⟩,⟨_,SqL.of (t3 _ _ hf)⟩,fun M hM=>?_⟩
  refine zdA (K:=K) (l1:=l) (l2:=f) (xs:=xs) (ys:=fl.map V.int) (by rw[zl,hwl]) (fun i τ G=>∃ v1 v2,τ=[v1,v2]∧zaj H3 G∧G M=some (.lst (((((ws.zip fl).take i).filter fun p=>decide (p.1.1<p.1.2.1)).map fun p=>p.2).map V.int))) ⟨none,none,rfl,zaj.new hM,zaa⟩ ?_ ?_ ?_
  ·rintro i τ G _ ⟨v1,v2,rfl,sg,_⟩
   exact⟨(t3.trans sg).sqL hl,SqL.of ((t3.trans sg) _ _ hf)⟩
  ·rintro i x y t τ G hx hy nt ⟨v1,v2,rfl,sg,hG⟩
   obtain⟨q,hq,dq⟩:=zaR hd hx
   obtain⟨u,rfl,hu⟩:=zfa ((t3.trans sg).dt dq)
   obtain⟨y,hy',rfl⟩:=zby hy
   have len:=zgQ (l:=ws.zip fl) (i:=i) fun p=>decide (p.1.1<p.1.2.1)
   rw[ze9 (fun p:Wt×Int=>decide (p.1.1<p.1.2.1)) (zi3 hq hy')]
   have s5:zaj G (upd G t (.tup [.ref u,.int y])):=zaj.new nt
   have h5t:upd G t (.tup [.ref u,.int y]) t=some (.tup [.ref u,.int y]):=zaa
   generalize upd G t (.tup [.ref u,.int y])=G5 at s5 h5t ⊢
   have hu5:=s5.sqT hu
   refine⟨t,_,rfl,SqT.of h5t,rfl,_,_,rfl,_,_,rfl,rfl,?_⟩
   refine⟨_,rfl,u,_,_,_,rfl,rfl,hu5,rfl,_,rfl,u,_,_,_,rfl,rfl,hu5,rfl,_,_,rfl,rfl,_,rfl,?_⟩
   refine zcT (fun b1=>?_) (fun b1=>?_)
   ·have c1:((q.1:Nat):Int)<((q.2.1:Nat):Int):=of_decide_eq_true b1
    refine⟨_,rfl,_,s5 _ _ hG,?_,_,_,rfl,zap hM (sg.trans s5),?_⟩
    ·rw[List.length_map,List.length_map,sizeLine_eq]
     omega
    ·rw[zaa,if_pos (decide_eq_true (show q.1<q.2.1 by omega)),List.map_append,List.map_append]
     rfl
   ·have c1:¬ ((q.1:Nat):Int)<((q.2.1:Nat):Int):=of_decide_eq_false b1
    refine⟨_,_,rfl,sg.trans s5,?_⟩
    rw[if_neg (fun z=>c1 (by have:q.1<q.2.1:=of_decide_eq_true z;omega)),List.append_nil]
    exact s5 _ _ hG
  rintro τ H4 ⟨v4,v5,rfl,s4,hM4⟩
  rw[hwl,← zz,List.take_length] at hM4
  have t4:=t3.trans s4
  refine⟨M,_,rfl,SqL.of hM4,?_⟩
  refine⟨_,rfl,_,rfl,l,f,rfl,⟨_,t4.sqL hl⟩,⟨_,SqL.of (t4 _ _ hf)⟩,fun L hL=>?_⟩
  refine zdA (K:=K) (l1:=l) (l2:=f) (xs:=xs) (ys:=fl.map V.int) (by rw[zl,hwl]) (fun i τ G=>∃ v1 v2,τ=[v1,v2]∧zaj H4 G∧G L=some (.lst (((((ws.zip fl).take i).filter fun p=>decide (p.1.2.1<p.1.1)).map fun p=>p.2).map V.int))) ⟨none,none,rfl,zaj.new hL,zaa⟩ ?_ ?_ ?_
  ·rintro i τ G _ ⟨v1,v2,rfl,sg,_⟩
   exact⟨(t4.trans sg).sqL hl,SqL.of ((t4.trans sg) _ _ hf)⟩
  ·rintro i x y t τ G hx hy nt ⟨v1,v2,rfl,sg,hG⟩
   obtain⟨q,hq,dq⟩:=zaR hd hx
   obtain⟨u,rfl,hu⟩:=zfa ((t4.trans sg).dt dq)
   obtain⟨y,hy',rfl⟩:=zby hy
   have len:=zgQ (l:=ws.zip fl) (i:=i) fun p=>decide (p.1.2.1<p.1.1)
   rw[ze9 (fun p:Wt×Int=>decide (p.1.2.1<p.1.1)) (zi3 hq hy')]
   have s5:zaj G (upd G t (.tup [.ref u,.int y])):=zaj.new nt
   have h5t:upd G t (.tup [.ref u,.int y]) t=some (.tup [.ref u,.int y]):=zaa
   generalize upd G t (.tup [.ref u,.int y])=G5 at s5 h5t ⊢
   have hu5:=s5.sqT hu
   refine⟨t,_,rfl,SqT.of h5t,rfl,_,_,rfl,_,_,rfl,rfl,?_⟩
   refine⟨_,rfl,u,_,_,_,rfl,rfl,hu5,rfl,_,rfl,u,_,_,_,rfl,rfl,hu5,rfl,_,_,rfl,rfl,_,rfl,?_⟩
   refine zcT (fun b1=>?_) (fun b1=>?_)
   ·have c1:((q.2.1:Nat):Int)<((q.1:Nat):Int):=of_decide_eq_true b1
    refine⟨_,rfl,_,s5 _ _ hG,?_,_,_,rfl,zap hL (sg.trans s5),?_⟩
    ·rw[List.length_map,List.length_map,sizeLine_eq]
     omega
    ·rw[zaa,if_pos (decide_eq_true (show q.2.1<q.1 by omega)),List.map_append,List.map_append]
     rfl
   ·have c1:¬ ((q.2.1:Nat):Int)<((q.1:Nat):Int):=of_decide_eq_false b1
    refine⟨_,_,rfl,sg.trans s5,?_⟩
    rw[if_neg (fun z=>c1 (by have:q.2.1<q.1:=of_decide_eq_true z;omega)),List.append_nil]
    exact s5 _ _ hG
  rintro τ H5 ⟨v6,v7,rfl,s5,hL5⟩
  rw[hwl,← zz,List.take_length] at hL5
  have t5:=t4.trans s5
  refine⟨L,_,rfl,SqL.of hL5,?_⟩
  refine⟨_,rfl,_,rfl,_,_,rfl,rfl,_,rfl,_,rfl,_,_,rfl,rfl,rfl,_,rfl,zbw ?_ ?_⟩
  ·show(!decide (V.int (mor ws fl - les ws fl)=V.int (fwd ws - bwd ws)))=false
   rw[fl1,decide_eq_true rfl]
   rfl
  refine⟨_,rfl,_,rfl,l,f,rfl,⟨_,t5.sqL hl⟩,⟨_,SqL.of (t5 _ _ hf)⟩,fun C hC=>?_⟩
  refine zdA (K:=K) (l1:=l) (l2:=f) (xs:=xs) (ys:=fl.map V.int) (by rw[zl,hwl]) (fun i τ G=>∃ v1 v2,τ=[v1,v2]∧zaj H5 G∧G C=some (.lst ((((ws.zip fl).take i).map fun p=>p.1.2.2.1 * p.2).map V.int))) ⟨none,none,rfl,zaj.new hC,zaa⟩ ?_ ?_ ?_
  ·rintro i τ G _ ⟨v1,v2,rfl,sg,_⟩
   exact⟨(t5.trans sg).sqL hl,SqL.of ((t5.trans sg) _ _ hf)⟩
  ·rintro i x y t τ G hx hy nt ⟨v1,v2,rfl,sg,hG⟩
   obtain⟨q,hq,dq⟩:=zaR hd hx
   obtain⟨u,rfl,hu⟩:=zfa ((t5.trans sg).dt dq)
   obtain⟨y,hy',rfl⟩:=zby hy
   have hs:=(hok q (List.mem_of_getElem? hq)).2.1
   have s6:zaj G (upd G t (.tup [.ref u,.int y])):=zaj.new nt
   have h6t:upd G t (.tup [.ref u,.int y]) t=some (.tup [.ref u,.int y]):=zaa
   generalize upd G t (.tup [.ref u,.int y])=G6 at s6 h6t ⊢
   refine⟨t,_,rfl,SqT.of h6t,rfl,_,_,rfl,_,_,rfl,rfl,?_⟩
   dsimp only[zd7]
   rw[if_pos rfl]
   refine⟨_,rfl,u,_,_,_,rfl,rfl,s6.sqT hu,rfl,_,rfl,_,_,rfl,rfl,.inl hs,_,s6 _ _ hG,?_,_,_,rfl,zap hC (sg.trans s6),?_⟩
   ·rw[List.length_map,List.length_map,List.length_take,sizeLine_eq]
    omega
   ·rw[zaa,zan (zi3 hq hy'),List.map_append,List.map_append]
    rfl
  rintro τ H6 ⟨v8,v9,rfl,s6,hC6⟩
  rw[hwl,← zz,List.take_length] at hC6
  refine⟨C,_,rfl,SqL.of hC6,?_⟩
  refine⟨_,rfl,_,rfl,_,rfl,_,_,rfl,rfl,_,_,rfl,rfl,.inr (zjQ hok hw),rfl,?_⟩
  show Q (.bl (decide (V.int (com ws fl)=V.int ((fn pl 1 - fn pl 0) * (fwd ws - bwd ws))))) H6
  rw[fl2,decide_eq_true rfl]
  exact k H6 (t5.trans s6)
end
end K21
namespace K21
open PySem L2
section
variable {P:Program}{w:World}{K:PySem.W.Frag}{mg:Str→Option Value}{base:Heap}{a:Adr}
theorem zi4 {ws:List Wt}{lo hi:Option Int} (h:¬ ∃ y∈zbV ws 0 0++zbV ws 1 1,0<y):Due ws lo hi↔∃ l h,lo=some l∧hi=some h∧0 - h<l:=⟨fun d=>d.resolve_left h,.inr⟩
def spLaw (K:PySem.W.Frag) (t:Adr):Sp:=fun vs H Q _=>∃ (p:Addr) (ns:List Int),vs=[.ref p]∧SqL K H p (ns.map V.int)∧ns.length≤63∧H t.tb_search=some (.tbl zb7 zb8)∧∀ H',Q (.bl true) H'
set_option maxHeartbeats 16000000 in
theorem ok_law (T:Tx K mg a) (f:Addr) (fd:FuncData) (F:zfy K "law" "law" zfK f fd):zdx P w K mg base CX0 12 f fd ["_law_script"] (spLaw K a):=by
 have c__law_cell_at:=zhe (P:=P) (w:=w) (base:=base) T
 have c__law_wish:=zlM (P:=P) (w:=w) (base:=base) T
 have c__law_far:=ok_far (P:=P) (w:=w) (base:=base) T
 have c_laid:=zlF (P:=P) (w:=w) (base:=base) T
 have c__law_ring:=zjP (P:=P) (w:=w) (base:=base) T
 have c__law_wholes:=ziX (P:=P) (w:=w) (base:=base) T
 have c__law_right:=zjR (P:=P) (w:=w) (base:=base) T
 refine F.ok zbE (fun vs H Q E h=>?_) (fun cdv A outer s H vs Q E hr h=>?_)
 ·obtain⟨p,ns,rfl,_⟩:=h
  rfl
 ·obtain⟨p,ns,rfl,hS,hlen,htb,k⟩:=h
  refine⟨_,(zad (zam (i:=1) zbE.nd rfl (by first|exact Or.inl rfl|exact Or.inr rfl) (zaK c__law_cell_at (hr.mono (by decide)) rfl (zab (pv 0) (zab zaf zah))))
   (zad (zdS (i:=2) zbE.nd rfl rfl (N:=["_law_cell","_law_first"]) (cap:=[none,some 1]) rfl (zaT (osc:=zae zfK) (XN:=["_law_script","_law_first","_law_wishes","_law_low","_law_high","_law_own","_law_due","_law_handed","_law_found","_law_ring_here","_law_word","e"]) rfl rfl (by decide +kernel)) (zaF (zjc zkG (pv 0) (zhE zaf) (zhE zaf))) (fun cl C s H fp pins=>(zak (i:=0) (show(["_law_cell","_law_first"]:List Str).Nodup by decide +kernel) rfl (by first|exact Or.inl rfl|exact Or.inr rfl))) (fun cl C s H fp pins=>zaW) (fun cl C s H fp pins=>(zaK c__law_wish (hr.mono (by decide)) rfl (zab (pv 0) (zab (zbM zc3 (zaC zbL (pv 1) zaf) zaf (zau _)) zah)))) (hsw:=rfl))
   (zad (zam (i:=3) zbE.nd rfl (by first|exact Or.inl rfl|exact Or.inr rfl) (zio rfl T.n_max (zab (zaK c__law_far (hr.mono (by decide)) rfl (zab (pv 2) (zab zaf (zab zaf zah)))) zah)))
   (zad (zam (i:=4) zbE.nd rfl (by first|exact Or.inl rfl|exact Or.inr rfl) (zio rfl T.n_max (zab (zaK c__law_far (hr.mono (by decide)) rfl (zab (pv 2) (zab zaf (zab zaf zah)))) zah)))
   (zad (zbF (zco (zcN (pv 4))) (zai (zam (i:=4) zbE.nd rfl (by first|exact Or.inl rfl|exact Or.inr rfl) (zaC zbC zaf (pv 4)))) zaI)
   (zad (zam (i:=5) zbE.nd rfl (by first|exact Or.inl rfl|exact Or.inr rfl) (zaC zjZ (zaK c__law_far (hr.mono (by decide)) rfl (zab (pv 2) (zab zaf (zab zaf zah)))) (zaK c__law_far (hr.mono (by decide)) rfl (zab (pv 2) (zab zaf (zab zaf zah))))))
   (zad (zam (i:=6) zbE.nd rfl (by first|exact Or.inl rfl|exact Or.inr rfl) (pe_or (zbM zc4 (zib rfl T.n_max (zab (pv 5) zah)) zaf (zau _)) (zed (zee (zjT (zcN (pv 3))) (zee (zjT (zcN (pv 4))) (zed (zbM zc4 (pv 3) (pv 4) (zau _))))))))
   (zad (zam (i:=7) zbE.nd rfl (by first|exact Or.inl rfl|exact Or.inr rfl) (zfo zdp rfl T.n_list zdX (zab (pv 2) zah)))
   (zad (zam (i:=8) zbE.nd rfl (by first|exact Or.inl rfl|exact Or.inr rfl) zfe)
   (zad (zam (i:=9) zbE.nd rfl (by first|exact Or.inl rfl|exact Or.inr rfl) zfe)
   (zad (zam (i:=10) zbE.nd rfl (by first|exact Or.inl rfl|exact Or.inr rfl) zfe)
   (zad (ps_try ⟨rfl,rfl⟩ rfl (PHs.as_ (i:=11) rfl T.g_DrawError T.xb_DrawError T.xt_DrawError (by decide) zbE.nd rfl rfl (fun a H₀=>(zai (zam (i:=10) zbE.nd rfl (by first|exact Or.inl rfl|exact Or.inr rfl) (pv 11)))) PHs.nil) (fun pn E1 R1 hp1 po1=>(zai (zam (i:=8) zbE.nd rfl (by first|exact Or.inl rfl|exact Or.inr rfl) (zhX c_laid hp1 (hr.mono (by decide)) rfl (zab zaf (zab (pv 7) zah)))))) zaI)
   (zad (zbF (zaq (op_neD hr.units) (pv 7) (pv 2) (zau _)) (zai (zaH zdv)) zaI)
   (zad (zbF (zbT (pv 6)) (zad (zbF (PW.pt (zcY (zdI (zbT (zao zcu rfl T.n_isinstance zaU (zab (pv 10) (zab (zj2 rfl T.g_Ring) zah))))) (zcY (zdI (zbT (zao zcu rfl T.n_isinstance zaU (zab (pv 10) (zab (zeo rfl T.n_ValueError zeO) zah))))) (zcJ (zbT (zao zcu rfl T.n_isinstance zaU (zab (pv 10) (zab (zj2 rfl T.g_NoFlow) zah)))))))) (zai (zaH zdv)) zaI)
   (zad (zam (i:=9) zbE.nd rfl (by first|exact Or.inl rfl|exact Or.inr rfl) (zkS (pv 10) rfl))
   (zai (zaH (zaK c__law_ring (hr.mono (by decide)) rfl (zab (pv 2) (zab (pv 9) zah))))))) zaI)
   (zad (zbF (PW.pt (zcY (zco (zcN (pv 10))) (zcY (zdI (zbT (zao zbO rfl T.n_isinstance zaU (zab (pv 8) (zab (zeo rfl T.n_tuple zjp) zah))))) (zcJ (zaq zeD (zao zaS rfl T.n_len zde (zab (pv 8) zah)) zaf (zau _)))))) (zai (zaH zdv)) zaI)
   (zad (zbF (PW.pt (zcY (zdI (zbT (zaK c__law_wholes (hr.mono (by decide)) rfl (zab (zas zbn (pv 8) zaf (fun _ _=>rfl)) (zab zaf zah))))) (zcJ (zdI (zbT (zaK c__law_wholes (hr.mono (by decide)) rfl (zab (zas zbn (pv 8) zaf (fun _ _=>rfl)) (zab (zao zaS rfl T.n_len zde (zab (pv 2) zah)) zah)))))))) (zai (zaH zdv)) zaI)
   (zai (zaH (zaK c__law_right (hr.mono (by decide)) rfl (zab (pv 2) (zab (zas zbn (pv 8) zaf (fun _ _=>rfl)) (zab (zas zbn (pv 8) zaf (fun _ _=>rfl)) (zab (pv 3) (zab (pv 4) zah)))))))))))))))))))))))),?_⟩
  refine⟨_,rfl,p,ns,0,rfl,hS,by decide,fun c1=>?_⟩
  obtain⟨ms,hms,hml⟩:=zjr ns (some 1) (some 15)
  refine⟨_,rfl,_,rfl,_,rfl,p,_,rfl,hS,fun y ny=>?_⟩
  have s2:zaj H (upd H y (.lst (zjd (ns.map V.int) (some 1) (some 15)))):=zaj.new ny
  have h2:upd H y (.lst (zjd (ns.map V.int) (some 1) (some 15))) y=some (.lst (ms.map V.int)):=by rw[zaa];exact congrArg (fun z=>some (HO.lst z)) hms
  generalize upd H y (.lst (zjd (ns.map V.int) (some 1) (some 15)))=G1 at s2 h2 ⊢
  refine⟨y,rfl,⟨_,SqL.of h2⟩,fun l hDl=>?_⟩
  refine zax (K:=K) (a:=y) (xs:=ms.map V.int) (fun j τ G=>∃ v1 ys,∃ wl:List Wt,τ=[v1,some (.int c1)]∧zaj G1 G∧G l=some (.lst ys)∧zb4 K G ((wl.map wI).map wD) ys∧wl.length=j∧∀ x∈wl,WtOk 2 x) ⟨none,[],[],rfl,zaj.new hDl,zaa,rfl,rfl,fun x hx=>(by cases hx)⟩ ?_ ?_ ?_
  ·rintro j τ G _ ⟨_,_,_,rfl,sg,_⟩
   exact SqL.of (sg _ _ h2)
  ·rintro j u τ G hu ⟨v1,ys,wl,rfl,sg,hG,hds,hl,hok⟩
   obtain⟨cell,hcl,rfl⟩:=zby hu
   have hj:j<ms.length:=(List.getElem?_eq_some_iff.mp hcl).1
   have yl:ys.length≤63:=by
    have:=hds.length
    rw[List.length_map,List.length_map] at this
    omega
   dsimp only[zbl,zd7]
   rw[if_pos rfl]
   refine⟨_,rfl,_,rfl,_,_,rfl,rfl,(by show(0:Int)<3;decide),rfl,cell,_,rfl,fun t x G3 s3 ht hx=>?_⟩
   have hG3:=s3 _ _ hG
   have kp:Tk G3 (upd G3 l (.lst (ys++[.ref t]))):=Tk.upd hG3 rfl
   refine⟨_,hG3,by rw[sizeLine_eq];omega,_,ys++[.ref t],wl++[x],rfl,zap hDl (sg.trans s3),zaa,?_,by rw[List.length_append,hl];rfl,fun x' hx'=>?_⟩
   ·rw[List.map_append,List.map_append]
    exact zb4.snoc (kp.dt rfl (dt_w (SqT.of ht))) (kp.dts (by rw[List.map_map];exact zaD (fun _=>rfl) _) (s3.dts hds))
   ·rcases List.mem_append.mp hx' with z|z
    ·exact hok x' z
    ·rw[List.mem_singleton.mp z]
     exact hx
  rintro τ G2 ⟨v1,xs,ws,rfl,sg,hl,hds,hwl,hok⟩
  rw[List.length_map] at hwl
  have hin:∀ x∈ws,x.1<2∧x.2.1<2:=fun x hx=>(hok x hx).1
  have hwt:∀ x∈ws,0≤x.2.2.2∧x.2.2.2<2 ^ 61:=fun x hx=>⟨(hok x hx).2.2.1,by have:=(hok x hx).2.2.2;omega⟩
  have tb2:=sg _ _ (s2 _ _ htb)
  have w200:ws.length≤200:=by omega
  have xl:xs.length=ws.length:=by
   have:=hds.length
   rw[List.length_map,List.length_map] at this
   omega
  have wsAt:∀ G,zaj G2 G→zhj K G l (ws.map wI):=fun G s=>⟨xs,SqL.of (s _ _ hl),s.dts hds⟩
  have flen:∀ o t,(zbV ws o t).length≤200:=fun o t=>by
   unfold zbV
   have:=List.length_filter_le (fun x:Wt=>decide (x.1=o) && decide (x.2.1=t)) ws
   rw[List.length_map]
   omega
  clear s2 h2 hS htb hms
  apply zdZ (fun lo:Option Int=>[some (.ref p),some (.int c1),some (.ref l),some (oV lo),none,none,none,none,none,none,none,none]) (fun lo G=>zaj G2 G∧Grt (zbV ws 0 1) lo)
  case g=>
   intro zbe
   exact⟨_,rfl,l,ws,0,1,rfl,wsAt G2 (zaj.refl _),w200,fun g G s _ hg=>⟨g,_,rfl,SqL.of hg,fun e=>zbe none G ⟨s,.inl ⟨e,rfl⟩⟩,fun m hm all=>zbe (some m) G ⟨s,.inr ⟨m,hm,all,rfl⟩⟩⟩⟩
  case h=>
  rintro lo G3 ⟨s3,gl⟩
  apply zdZ (fun hi:Option Int=>[some (.ref p),some (.int c1),some (.ref l),some (oV lo),some (oV hi),none,none,none,none,none,none,none]) (fun hi G=>zaj G2 G∧Grt (zbV ws 1 0) hi)
  case g=>
   intro zbe
   exact⟨_,rfl,l,ws,1,0,rfl,wsAt G3 s3,w200,fun g G s _ hg=>⟨g,_,rfl,SqL.of hg,fun e=>zbe none G ⟨s3.trans s,.inl ⟨e,rfl⟩⟩,fun m hm all=>zbe (some m) G ⟨s3.trans s,.inr ⟨m,hm,all,rfl⟩⟩⟩⟩
  case h=>
  rintro hi G4 ⟨s4,gh⟩
  apply zdZ (fun _:Unit=>[some (.ref p),some (.int c1),some (.ref l),some (oV lo),some (oV (ng hi)),none,none,none,none,none,none,none]) (fun _ G=>G=G4)
  case g=>
   intro zbe
   cases hi with
   | none=>exact⟨_,rfl,_,rfl,zcL (zbe () G4 rfl)⟩
   | some m=>exact⟨_,rfl,_,rfl,zd8 ⟨_,rfl,_,_,rfl,rfl,zbe () G4 rfl⟩⟩
  case h=>
  rintro _ G4 rfl
  refine⟨_,rfl,l,ws,0,0,rfl,wsAt G4 s4,w200,fun g1 G5 s5 _ hg1=>⟨_,rfl,l,ws,1,1,rfl,wsAt G5 (s4.trans s5),w200,fun g2 G6 s6 _ hg2=>⟨g1,g2,_,_,rfl,rfl,s6 _ _ hg1,hg2,?_,fun o no=>?_⟩⟩⟩
  ·have:=flen 0 0
   have:=flen 1 1
   rw[List.length_map,List.length_map,sizeLine_eq]
   omega
  have s7:zaj G6 (upd G6 o (.lst ((zbV ws 0 0).map V.int++(zbV ws 1 1).map V.int))):=zaj.new no
  have ho:upd G6 o (.lst ((zbV ws 0 0).map V.int++(zbV ws 1 1).map V.int)) o=some (.lst ((zbV ws 0 0++zbV ws 1 1).map V.int)):=by rw[zaa,List.map_append]
  generalize upd G6 o (.lst ((zbV ws 0 0).map V.int++(zbV ws 1 1).map V.int))=G7 at s7 ho ⊢
  have t7:zaj G2 G7:=s4.trans (s5.trans (s6.trans s7))
  apply zdZ (fun d:Bool=>[some (.ref p),some (.int c1),some (.ref l),some (oV lo),some (oV (ng hi)),some (.ref o),some (.bl d),none,none,none,none,none]) (fun d G=>G=G7∧(d=true↔Due ws lo hi))
  case g=>
   intro zbe
   refine⟨_,rfl,o,_,rfl,SqL.of ho,fun e=>?_,fun m hm all=>?_⟩
   ·have no:¬ ∃ y∈zbV ws 0 0++zbV ws 1 1,0<y:=fun⟨y,hy,_⟩=>by rw[e] at hy;cases hy
    have di:=zi4 (lo:=lo) (hi:=hi) no
    refine⟨_,_,rfl,rfl,_,rfl,zcL ?_⟩
    cases lo with
    | none=>exact⟨_,rfl,_,rfl,zcL (zbe false G7 ⟨rfl,fun z=>(by cases z),fun z=>by obtain⟨_,_,z,_⟩:=di.mp z;cases z⟩)⟩
    | some lm=>
     refine⟨_,rfl,_,rfl,zd8 ?_⟩
     cases hi with
     | none=>exact⟨_,rfl,_,rfl,zcL (zbe false G7 ⟨rfl,fun z=>(by cases z),fun z=>by obtain⟨_,_,_,z,_⟩:=di.mp z;cases z⟩)⟩
     | some m=>
      refine⟨_,rfl,_,rfl,zd8 ⟨_,rfl,_,rfl,_,_,rfl,rfl,zbe (decide (lm > 0 - m)) G7 ⟨rfl,fun z=>di.mpr ⟨lm,m,rfl,rfl,of_decide_eq_true z⟩,fun z=>?_⟩⟩⟩
      obtain⟨_,_,e1,e2,z⟩:=di.mp z
      injection e1 with e1
      injection e2 with e2
      subst e1 e2
      exact decide_eq_true z
   ·refine⟨_,_,rfl,rfl,_,rfl,zcT (fun b=>zbe _ G7 ⟨rfl,fun _=>.inl ⟨m,hm,of_decide_eq_true b⟩,fun _=>rfl⟩) (fun b=>?_)⟩
    have b:¬ m > 0:=of_decide_eq_false b
    have no:¬ ∃ y∈zbV ws 0 0++zbV ws 1 1,0<y:=fun⟨y,hy,y0⟩=>by have:=all y hy;omega
    have di:=zi4 (lo:=lo) (hi:=hi) no
    cases lo with
    | none=>exact⟨_,rfl,_,rfl,zcL (zbe false G7 ⟨rfl,fun z=>(by cases z),fun z=>by obtain⟨_,_,z,_⟩:=di.mp z;cases z⟩)⟩
    | some lm=>
     refine⟨_,rfl,_,rfl,zd8 ?_⟩
     cases hi with
     | none=>exact⟨_,rfl,_,rfl,zcL (zbe false G7 ⟨rfl,fun z=>(by cases z),fun z=>by obtain⟨_,_,_,z,_⟩:=di.mp z;cases z⟩)⟩
     | some m=>
      refine⟨_,rfl,_,rfl,zd8 ⟨_,rfl,_,rfl,_,_,rfl,rfl,zbe (decide (lm > 0 - m)) G7 ⟨rfl,fun z=>di.mpr ⟨lm,m,rfl,rfl,of_decide_eq_true z⟩,fun z=>?_⟩⟩⟩
      obtain⟨_,_,e1,e2,z⟩:=di.mp z
      injection e1 with e1
      injection e2 with e2
      subst e1 e2
      exact decide_eq_true z
  case h=>
  rintro d G ⟨rfl,dd⟩
  clear s5 s6 s7
  refine⟨_,rfl,l,_,rfl,.inl (SqL.of (t7 _ _ hl)),fun hA nhA=>?_⟩
  have s8:zaj G (upd G hA (.lst xs)):=zaj.new nhA
  have h8:upd G hA (.lst xs) hA=some (.lst xs):=zaa
  generalize upd G hA (.lst xs)=G1 at s8 h8 ⊢
  have t8:=t7.trans s8
  have hl1:=t8 _ _ hl
  have hds1:=t8.dts hds
  have tb1:=t8 _ _ tb2
  have deep:za6 59 ((ws.map wI).map wD):=zfD (fun q=>deep_w q) _
  have nch:∀ G',zaj G1 G'→DtV K G' (.lst ((ws.map wI).map wD)) (.ref hA)∧DtV K G' (.lst ((ws.map wI).map wD)) (.ref l):=fun G' s'=>⟨⟨hA,xs,rfl,SqL.of (s' _ _ h8),s'.dts hds1⟩,⟨l,xs,rfl,SqL.of (s' _ _ hl1),s'.dts hds1⟩⟩
  refine⟨_,rfl,hA,ws,2,rfl,⟨xs,SqL.of h8,hds1⟩,hin,hwt,w200,by decide,tb1,fun pl fl gt pA fA G2 s3 ngt hgt npA nfA nef hpA hfA _ lk=>?_,fun ring lr dx G2 s3 hdx hlr told len=>?_⟩
  ·-- told
   have d0:d=false:=by
    cases d with
    | false=>rfl
    | true=>exact(zgP (dd.mp rfl) ((zd5 hin gl gh (fn pl)).mp lk.fit)).elim
   subst d0
   obtain⟨d1,d2⟩:=nch G2 s3
   refine⟨_,rfl,_,rfl,_,_,rfl,rfl,d1,d2,deep,_,rfl,zbw (by rw[zeI];rfl) ?_⟩
   refine⟨_,rfl,_,rfl,zcL ?_⟩
   refine⟨_,rfl,_,rfl,zcL ?_⟩
   refine⟨_,rfl,_,_,_,_,_,rfl,rfl,zgk.tup hgt,T.kb_tuple_tuple,_,rfl,zbw rfl ?_⟩
   refine⟨_,rfl,gt,_,rfl,.inr (SqT.of hgt),rfl,_,rfl,zbw (by rfl) ?_⟩
   have lp:=lk.lp
   have lf:=lk.lf
   refine⟨_,rfl,gt,_,_,_,rfl,rfl,SqT.of hgt,rfl,pA,pl,2,rfl,hpA,by omega,by omega,fun G3 s4=>⟨_,rfl,zbw rfl ?_⟩⟩
   have hgt3:=s4 _ _ hgt
   refine⟨_,rfl,gt,_,_,_,rfl,rfl,SqT.of hgt3,rfl,_,rfl,l,_,rfl,.inl (SqL.of (s4 _ _ (s3 _ _ hl1))),fA,fl,_,rfl,s4 _ _ hfA,by rw[lf,xl],by omega,fun G4 s5=>⟨_,rfl,zbw rfl ?_⟩⟩
   have t4:=s4.trans s5
   have hgt4:=t4 _ _ hgt
   exact⟨_,rfl,_,rfl,gt,_,_,_,rfl,rfl,SqT.of hgt4,rfl,_,rfl,gt,_,_,_,rfl,rfl,SqT.of hgt4,rfl,_,rfl,_,rfl,l,pA,fA,ws,pl,fl,lo,hi,rfl,wsAt G4 (t8.trans (s3.trans t4)),hok,w200,t4 _ _ hpA,t4 _ _ hfA,lk,gl,gh,fun G5 _=>k G5⟩
  ·-- a ring
   have d1:d=true:=dd.mpr (Classical.byContradiction fun z=>by
    obtain⟨_,_,q,hq⟩:=ziZ z
    refine told.nofit (Q:=fun v=>if v=1 then q else 0) ((zd5 hin gl gh _).mpr ?_)
    show Btw ws lo hi ((if 1=1 then q else 0) - (if 0=1 then q else 0))
    rw[if_pos rfl,if_neg (by decide),Int.sub_zero]
    exact hq)
   subst d1
   refine⟨a.Ring,true,rfl,T.mr_Ring_DrawError,zd8 (fun x ob hx hob hdd hf=>?_)⟩
   have s4:zaj G2 (upd G2 x (.frz ob (.own x))):=zaj.new hx
   have ix:IsX (upd G2 x (.frz ob (.own x))) x a.Ring (some dx):=⟨ob,.own x,zaa,hob,hdd,hf⟩
   refine⟨_,rfl,?_⟩
   generalize upd G2 x (.frz ob (.own x))=G3 at s4 ix ⊢
   have hdx3:=s4 _ _ hdx
   have s13:=s3.trans s4
   obtain⟨d1,d2⟩:=nch G3 s13
   refine⟨_,rfl,_,rfl,_,_,rfl,rfl,d1,d2,deep,_,rfl,zbw (by rw[zeI];rfl) ?_⟩
   refine⟨_,rfl,_,rfl,zd8 ?_⟩
   refine⟨_,rfl,x,a.Ring,some dx,_,_,true,rfl,ix,⟨_,hdx3⟩,T.is_Ring,(fun _ r=>r),T.kt_Ring_Ring,_,rfl,zbw rfl ?_⟩
   refine⟨_,rfl,x,a.Ring,some dx,_,_,true,rfl,ix,⟨_,hdx3⟩,T.is_Ring,(fun _ r=>r),T.kt_Ring_ValueError,_,rfl,zbw rfl ?_⟩
   refine⟨_,rfl,x,a.Ring,some dx,_,_,false,rfl,ix,⟨_,hdx3⟩,T.is_Ring,(fun _ r=>r),T.kt_Ring_NoFlow,_,rfl,zbw rfl ?_⟩
   refine⟨_,rfl,x,a.Ring,dx,_,_,rfl,ix,hdx3,T.xg_Ring_ring,lk0,?_⟩
   exact⟨_,rfl,_,rfl,l,lr,ws,ring,rfl,wsAt G3 (t8.trans s13),hin,w200,s4 _ _ hlr,told,fun G4 _=>k G4⟩
end
end K21
namespace K21
open PySem L2
set_option maxHeartbeats 4000000 in
theorem all_mk {l:PySem.W.OpenLaw}{w:World}{K:PySem.W.Frag}{h:Heap}{mg:Str→Option Value}{fa:Addr}{TS:List Addr}
  {q0q:Addr}
  {q1q:Addr}
  {CRing:Addr}
  {q2q:Addr}
  {q3q:Addr}{q4q q5q:Option Addr}{q6q:Array (Option Value)}{q7q q8q q9q q10q q11q q12q:Value}
  {q13q:Addr}{q14q q15q:Option Addr}{q16q:Array (Option Value)}{q17q q18q q19q q20q q21q q22q:Value}
  {q23q:Addr}{q24q q25q:Option Addr}{q26q:Array (Option Value)}{q27q q28q q29q q30q q31q q32q:Value}
  {q33q:Addr}{q34q q35q:Option Addr}{q36q:Array (Option Value)}{q37q q38q q39q q40q q41q q42q:Value}
  {q43q:Addr}{q44q q45q:Option Addr}{q46q:Array (Option Value)}{q47q q48q q49q q50q q51q q52q:Value}
  {q53q:Addr}{q54q q55q:Option Addr}{q56q:Array (Option Value)}{q57q q58q q59q q60q q61q q62q:Value}
  {ffit:Addr}{odfit anfit:Option Addr}{slfit:Array (Option Value)}{ocfit kVfit dcfit pmfit cdfit ctfit:Value}
  {q63q:Addr}{q64q q65q:Option Addr}{q66q:Array (Option Value)}{q67q q68q q69q q70q q71q q72q:Value}
  {q73q:Addr}{q74q q75q:Option Addr}{q76q:Array (Option Value)}{q77q q78q q79q q80q q81q q82q:Value}
  {q83q:Addr}{q84q q85q:Option Addr}{q86q:Array (Option Value)}{q87q q88q q89q q90q q91q q92q:Value}
  {q93q:Addr}{q94q q95q:Option Addr}{q96q:Array (Option Value)}{q97q q98q q99q q100q q101q q102q:Value}
  {q103q:Addr}{q104q q105q:Option Addr}{q106q:Array (Option Value)}{q107q q108q q109q q110q q111q q112q:Value}
  {q113q:Addr}{q114q q115q:Option Addr}{q116q:Array (Option Value)}{q117q q118q q119q q120q q121q q122q:Value}
  {q123q:Addr}{q124q q125q:Option Addr}{q126q:Array (Option Value)}{q127q q128q q129q q130q q131q q132q:Value}
  {q133q:Addr}{q134q q135q:Option Addr}{q136q:Array (Option Value)}{q137q q138q q139q q140q q141q q142q:Value}
  {q143q:Addr}{q144q q145q:Option Addr}{q146q:Array (Option Value)}{q147q q148q q149q q150q q151q q152q:Value}
  {q153q:Addr}{q154q q155q:Option Addr}{q156q:Array (Option Value)}{q157q q158q q159q q160q q161q q162q:Value}
  {flaid:Addr}{q163q q164q:Option Addr}{q165q:Array (Option Value)}{q166q q167q q168q q169q q170q q171q:Value}
  {q172q:Addr}{q173q q174q:Option Addr}{q175q:Array (Option Value)}{q176q q177q q178q q179q q180q q181q:Value}
  {q182q:Addr}{q183q q184q:Option Addr}{q185q:Array (Option Value)}{q186q q187q q188q q189q q190q q191q:Value}
  {q192q:Addr}{q193q q194q:Option Addr}{q195q:Array (Option Value)}{q196q q197q q198q q199q q200q q201q:Value}
  {q202q:Addr}{q203q q204q:Option Addr}{q205q:Array (Option Value)}{q206q q207q q208q q209q q210q q211q:Value}
  {q212q:Addr}{q213q q214q:Option Addr}{q215q:Array (Option Value)}{q216q q217q q218q q219q q220q q221q:Value}
  {q222q:Addr}{q223q q224q:Option Addr}{q225q:Array (Option Value)}{q226q q227q q228q q229q q230q q231q:Value}
  {q232q:Addr}{q233q q234q:Option Addr}{q235q:Array (Option Value)}{q236q q237q q238q q239q q240q q241q:Value}
  {q242q:Addr}{q243q q244q:Option Addr}{q245q:Array (Option Value)}{q246q q247q q248q q249q q250q q251q:Value}
  {flaw:Addr}{odlaw anlaw:Option Addr}{sllaw:Array (Option Value)}{oclaw kVlaw dclaw pmlaw cdlaw ctlaw:Value}
  {tBASE:Tok}
  {cLsearch TPsearch:Addr}{q252q:Value}{q253q:Option Addr}{vsLsearch:Array Value}{q254q:Array (Option Value)}
  (X:K.In h) (G:h.Ns mainGlobals mg) (hfa:mg "law"=some (.ref fa))
  (aDrawError:PySem.W.nsIn K mainGlobals "DrawError"=some (some (.ref q0q)))
  (xbDrawError:PySem.W.mroIn K q0q (.type "BaseException")=some true)
  (xtDrawError:PySem.W.typeIn K (.ref q0q)=some (.type "type"))
  (aNoFlow:PySem.W.nsIn K mainGlobals "NoFlow"=some (some (.ref q1q)))
  (xbNoFlow:PySem.W.mroIn K q1q (.type "BaseException")=some true)
  (xtNoFlow:PySem.W.typeIn K (.ref q1q)=some (.type "type"))
  (aRing:PySem.W.nsIn K mainGlobals "Ring"=some (some (.ref CRing)))
  (xbRing:PySem.W.mroIn K CRing (.type "BaseException")=some true)
  (xtRing:PySem.W.typeIn K (.ref CRing)=some (.type "type"))
  (iaRing:PySem.W.findIn K (.ref CRing) "__getattribute__"=some (some (.builtin "BaseException.__getattribute__")))
  (ibRing:PySem.W.findIn K (.ref CRing) "__getattr__"=some none)
  (icRing:PySem.W.mroIn K CRing (.type "object")=some true)
  (idRing:PySem.W.findIn K (.ref CRing) "__class__"=some (some (.builtin "object.__class__")))
  (ieRing:PySem.W.hasDictIn K CRing=true)
  (aLayout:PySem.W.nsIn K mainGlobals "Layout"=some (some (.ref q2q)))
  (pgLayout:PySem.W.plainGet K q2q Str.empty=true)
  (hdLayout:PySem.W.hasDictIn K q2q=true)
  (poLayout:PySem.W.plainOver K q2q=true)
  (saLayout:PySem.W.findIn K (.ref q2q) "__setattr__"=some (some (.builtin "object.__setattr__")))
  (mkLayout:PySem.W.makesIn K q2q=true)
  (kcLayout:PySem.W.keepIn K (.ref q2q)=true)
  (naLayout_coming:PySem.W.findIn K (.ref q2q) "coming"=some none)
  (naLayout_flow:PySem.W.findIn K (.ref q2q) "flow"=some none)
  (naLayout_going:PySem.W.findIn K (.ref q2q) "going"=some none)
  (naLayout_leasts:PySem.W.findIn K (.ref q2q) "leasts"=some none)
  (naLayout_needs:PySem.W.findIn K (.ref q2q) "needs"=some none)
  (naLayout_ones:PySem.W.findIn K (.ref q2q) "ones"=some none)
  (naLayout_others:PySem.W.findIn K (.ref q2q) "others"=some none)
  (naLayout_places:PySem.W.findIn K (.ref q2q) "places"=some none)
  (tg:PySem.W.specialIn K (.builtin "object.__class__") "__get__"=some (some (.builtin "getset_descriptor.__get__")))
  (tk:PySem.W.takesIn K (.builtin "object.__class__")=some true)
  (aRing___init__:PySem.W.findIn K (.ref CRing) "__init__"=some (some (.ref q3q)))
  (iRing___init__:PySem.W.isFn K (.ref q3q)=true)
  (lRing___init__:K.lookup q3q=some ⟨q7q,q4q,.func (PySem.W.fnOf "__init__" "Ring.__init__" (zaB za7) (zaw za7) (zae za7) .none q8q q9q q10q q5q q11q q12q),q6q⟩)
  (ccRing___init__:PySem.W.codeIn K q11q "Ring.__init__"=true)
  (xaRing:zhR K CRing bmV "ValueError.__new__"=true)
  (xkRing:PySem.W.keepIn K (.ref CRing)=true)
  (ysRingring:PySem.W.findIn K (.ref CRing) "__setattr__"=some (some (.builtin "object.__setattr__")))
  (yoRingring:zj4 K CRing=true)
  (ytRingring:PySem.W.takerIn K CRing "ring"=some none)
  (yhRingring:PySem.W.hasDictIn K CRing=true)
  (zaRingring:PySem.W.findIn K (.ref CRing) "__getattribute__"=some (some (.builtin "BaseException.__getattribute__")))
  (zbRingring:PySem.W.findIn K (.ref CRing) "__getattr__"=some none)
  (znRingring:PySem.W.findIn K (.ref CRing) "ring"=some none)
  (aweights_of:PySem.W.nsIn K mainGlobals "weights_of"=some (some (.ref q13q)))
  (lweights_of:K.lookup q13q=some ⟨q17q,q14q,.func (PySem.W.fnOf "weights_of" "weights_of" (zaB zbi) (zaw zbi) (zae zbi) .none q18q q19q q20q q15q q21q q22q),q16q⟩)
  (ccweights_of:PySem.W.codeIn K q21q "weights_of"=true)
  (kweights_of:PySem.W.keepIn K (.ref q13q)=true)
  (aleft_at_points:PySem.W.nsIn K mainGlobals "left_at_points"=some (some (.ref q23q)))
  (lleft_at_points:K.lookup q23q=some ⟨q27q,q24q,.func (PySem.W.fnOf "left_at_points" "left_at_points" (zaB za2) (zaw za2) (zae za2) .none q28q q29q q30q q25q q31q q32q),q26q⟩)
  (ccleft_at_points:PySem.W.codeIn K q31q "left_at_points"=true)
  (kleft_at_points:PySem.W.keepIn K (.ref q23q)=true)
  (aLayout___init__:PySem.W.findIn K (.ref q2q) "__init__"=some (some (.ref q33q)))
  (iLayout___init__:PySem.W.isFn K (.ref q33q)=true)
  (lLayout___init__:K.lookup q33q=some ⟨q37q,q34q,.func (PySem.W.fnOf "__init__" "Layout.__init__" (zaB zat) (zaw zat) (zae zat) .none q38q q39q q40q q35q q41q q42q),q36q⟩)
  (ccLayout___init__:PySem.W.codeIn K q41q "Layout.__init__"=true)
  (aLayout_slack:PySem.W.findIn K (.ref q2q) "slack"=some (some (.ref q43q)))
  (iLayout_slack:PySem.W.isFn K (.ref q43q)=true)
  (lLayout_slack:K.lookup q43q=some ⟨q47q,q44q,.func (PySem.W.fnOf "slack" "Layout.slack" (zaB zbf) (zaw zbf) (zae zbf) .none q48q q49q q50q q45q q51q q52q),q46q⟩)
  (ccLayout_slack:PySem.W.codeIn K q51q "Layout.slack"=true)
  (kLayout_slack:PySem.W.keepIn K (.ref q43q)=true)
  (aLayout_end_across:PySem.W.findIn K (.ref q2q) "end_across"=some (some (.ref q53q)))
  (iLayout_end_across:PySem.W.isFn K (.ref q53q)=true)
  (lLayout_end_across:K.lookup q53q=some ⟨q57q,q54q,.func (PySem.W.fnOf "end_across" "Layout.end_across" (zaB zaO) (zaw zaO) (zae zaO) .none q58q q59q q60q q55q q61q q62q),q56q⟩)
  (ccLayout_end_across:PySem.W.codeIn K q61q "Layout.end_across"=true)
  (kLayout_end_across:PySem.W.keepIn K (.ref q53q)=true)
  (afit:PySem.W.nsIn K mainGlobals "fit"=some (some (.ref ffit)))
  (lfit:K.lookup ffit=some ⟨ocfit,odfit,.func (PySem.W.fnOf "fit" "fit" (zaB ziq) (zaw ziq) (zae ziq) .none kVfit dcfit pmfit anfit cdfit ctfit),slfit⟩)
  (ccfit:PySem.W.codeIn K cdfit "fit"=true)
  (kfit:PySem.W.keepIn K (.ref ffit)=true)
  (apush_once:PySem.W.nsIn K mainGlobals "push_once"=some (some (.ref q63q)))
  (lpush_once:K.lookup q63q=some ⟨q67q,q64q,.func (PySem.W.fnOf "push_once" "push_once" (zaB zbP) (zaw zbP) (zae zbP) .none q68q q69q q70q q65q q71q q72q),q66q⟩)
  (ccpush_once:PySem.W.codeIn K q71q "push_once"=true)
  (kpush_once:PySem.W.keepIn K (.ref q63q)=true)
  (aring_behind:PySem.W.nsIn K mainGlobals "ring_behind"=some (some (.ref q73q)))
  (lring_behind:K.lookup q73q=some ⟨q77q,q74q,.func (PySem.W.fnOf "ring_behind" "ring_behind" (zaB zbr) (zaw zbr) (zae zbr) .none q78q q79q q80q q75q q81q q82q),q76q⟩)
  (ccring_behind:PySem.W.codeIn K q81q "ring_behind"=true)
  (kring_behind:PySem.W.keepIn K (.ref q73q)=true)
  (asend_once:PySem.W.nsIn K mainGlobals "send_once"=some (some (.ref q83q)))
  (lsend_once:K.lookup q83q=some ⟨q87q,q84q,.func (PySem.W.fnOf "send_once" "send_once" (zaB zbQ) (zaw zbQ) (zae zbQ) .none q88q q89q q90q q85q q91q q92q),q86q⟩)
  (ccsend_once:PySem.W.codeIn K q91q "send_once"=true)
  (ksend_once:PySem.W.keepIn K (.ref q83q)=true)
  (asearch:PySem.W.nsIn K mainGlobals "search"=some (some (.ref q93q)))
  (lsearch:K.lookup q93q=some ⟨q97q,q94q,.func (PySem.W.fnOf "search" "search" (zaB zcE) (zaw zcE) (zae zcE) .none q98q q99q q100q q95q q101q q102q),q96q⟩)
  (ccsearch:PySem.W.codeIn K q101q "search"=true)
  (ksearch:PySem.W.keepIn K (.ref q93q)=true)
  (alook_around:PySem.W.nsIn K mainGlobals "look_around"=some (some (.ref q103q)))
  (llook_around:K.lookup q103q=some ⟨q107q,q104q,.func (PySem.W.fnOf "look_around" "look_around" (zaB zaZ) (zaw zaZ) (zae zaZ) .none q108q q109q q110q q105q q111q q112q),q106q⟩)
  (cclook_around:PySem.W.codeIn K q111q "look_around"=true)
  (klook_around:PySem.W.keepIn K (.ref q103q)=true)
  (away_back:PySem.W.nsIn K mainGlobals "way_back"=some (some (.ref q113q)))
  (lway_back:K.lookup q113q=some ⟨q117q,q114q,.func (PySem.W.fnOf "way_back" "way_back" (zaB zb5) (zaw zb5) (zae zb5) .none q118q q119q q120q q115q q121q q122q),q116q⟩)
  (ccway_back:PySem.W.codeIn K q121q "way_back"=true)
  (kway_back:PySem.W.keepIn K (.ref q113q)=true)
  (asend_along:PySem.W.nsIn K mainGlobals "send_along"=some (some (.ref q123q)))
  (lsend_along:K.lookup q123q=some ⟨q127q,q124q,.func (PySem.W.fnOf "send_along" "send_along" (zaB za8) (zaw za8) (zae za8) .none q128q q129q q130q q125q q131q q132q),q126q⟩)
  (ccsend_along:PySem.W.codeIn K q131q "send_along"=true)
  (ksend_along:PySem.W.keepIn K (.ref q123q)=true)
  (aparts_of:PySem.W.nsIn K mainGlobals "parts_of"=some (some (.ref q133q)))
  (lparts_of:K.lookup q133q=some ⟨q137q,q134q,.func (PySem.W.fnOf "parts_of" "parts_of" (zaB zbJ) (zaw zbJ) (zae zbJ) .none q138q q139q q140q q135q q141q q142q),q136q⟩)
  (ccparts_of:PySem.W.codeIn K q141q "parts_of"=true)
  (kparts_of:PySem.W.keepIn K (.ref q133q)=true)
  (afrom_nought:PySem.W.nsIn K mainGlobals "from_nought"=some (some (.ref q143q)))
  (lfrom_nought:K.lookup q143q=some ⟨q147q,q144q,.func (PySem.W.fnOf "from_nought" "from_nought" (zaB zbb) (zaw zbb) (zae zbb) .none q148q q149q q150q q145q q151q q152q),q146q⟩)
  (ccfrom_nought:PySem.W.codeIn K q151q "from_nought"=true)
  (kfrom_nought:PySem.W.keepIn K (.ref q143q)=true)
  (afigure_worths:PySem.W.nsIn K mainGlobals "figure_worths"=some (some (.ref q153q)))
  (lfigure_worths:K.lookup q153q=some ⟨q157q,q154q,.func (PySem.W.fnOf "figure_worths" "figure_worths" (zaB za9) (zaw za9) (zae za9) .none q158q q159q q160q q155q q161q q162q),q156q⟩)
  (ccfigure_worths:PySem.W.codeIn K q161q "figure_worths"=true)
  (kfigure_worths:PySem.W.keepIn K (.ref q153q)=true)
  (alaid:PySem.W.nsIn K mainGlobals "laid"=some (some (.ref flaid)))
  (llaid:K.lookup flaid=some ⟨q166q,q163q,.func (PySem.W.fnOf "laid" "laid" (zaB zds) (zaw zds) (zae zds) .none q167q q168q q169q q164q q170q q171q),q165q⟩)
  (cclaid:PySem.W.codeIn K q170q "laid"=true)
  (klaid:PySem.W.keepIn K (.ref flaid)=true)
  (a_law_cell_at:PySem.W.nsIn K mainGlobals "_law_cell_at"=some (some (.ref q172q)))
  (l_law_cell_at:K.lookup q172q=some ⟨q176q,q173q,.func (PySem.W.fnOf "_law_cell_at" "_law_cell_at" (zaB zbg) (zaw zbg) (zae zbg) .none q177q q178q q179q q174q q180q q181q),q175q⟩)
  (cc_law_cell_at:PySem.W.codeIn K q180q "_law_cell_at"=true)
  (k_law_cell_at:PySem.W.keepIn K (.ref q172q)=true)
  (a_law_mix:PySem.W.nsIn K mainGlobals "_law_mix"=some (some (.ref q182q)))
  (l_law_mix:K.lookup q182q=some ⟨q186q,q183q,.func (PySem.W.fnOf "_law_mix" "_law_mix" (zaB zb6) (zaw zb6) (zae zb6) .none q187q q188q q189q q184q q190q q191q),q185q⟩)
  (cc_law_mix:PySem.W.codeIn K q190q "_law_mix"=true)
  (k_law_mix:PySem.W.keepIn K (.ref q182q)=true)
  (a_law_wish:PySem.W.nsIn K mainGlobals "_law_wish"=some (some (.ref q192q)))
  (l_law_wish:K.lookup q192q=some ⟨q196q,q193q,.func (PySem.W.fnOf "_law_wish" "_law_wish" (zaB zbR) (zaw zbR) (zae zbR) .none q197q q198q q199q q194q q200q q201q),q195q⟩)
  (cc_law_wish:PySem.W.codeIn K q200q "_law_wish"=true)
  (k_law_wish:PySem.W.keepIn K (.ref q192q)=true)
  (a_law_whole:PySem.W.nsIn K mainGlobals "_law_whole"=some (some (.ref q202q)))
  (l_law_whole:K.lookup q202q=some ⟨q206q,q203q,.func (PySem.W.fnOf "_law_whole" "_law_whole" (zaB zbB) (zaw zbB) (zae zbB) .none q207q q208q q209q q204q q210q q211q),q205q⟩)
  (cc_law_whole:PySem.W.codeIn K q210q "_law_whole"=true)
  (k_law_whole:PySem.W.keepIn K (.ref q202q)=true)
  (a_law_wholes:PySem.W.nsIn K mainGlobals "_law_wholes"=some (some (.ref q212q)))
  (l_law_wholes:K.lookup q212q=some ⟨q216q,q213q,.func (PySem.W.fnOf "_law_wholes" "_law_wholes" (zaB zbc) (zaw zbc) (zae zbc) .none q217q q218q q219q q214q q220q q221q),q215q⟩)
  (cc_law_wholes:PySem.W.codeIn K q220q "_law_wholes"=true)
  (k_law_wholes:PySem.W.keepIn K (.ref q212q)=true)
  (a_law_ring:PySem.W.nsIn K mainGlobals "_law_ring"=some (some (.ref q222q)))
  (l_law_ring:K.lookup q222q=some ⟨q226q,q223q,.func (PySem.W.fnOf "_law_ring" "_law_ring" (zaB za1) (zaw za1) (zae za1) .none q227q q228q q229q q224q q230q q231q),q225q⟩)
  (cc_law_ring:PySem.W.codeIn K q230q "_law_ring"=true)
  (k_law_ring:PySem.W.keepIn K (.ref q222q)=true)
  (a_law_far:PySem.W.nsIn K mainGlobals "_law_far"=some (some (.ref q232q)))
  (l_law_far:K.lookup q232q=some ⟨q236q,q233q,.func (PySem.W.fnOf "_law_far" "_law_far" (zaB zbK) (zaw zbK) (zae zbK) .none q237q q238q q239q q234q q240q q241q),q235q⟩)
  (cc_law_far:PySem.W.codeIn K q240q "_law_far"=true)
  (k_law_far:PySem.W.keepIn K (.ref q232q)=true)
  (a_law_right:PySem.W.nsIn K mainGlobals "_law_right"=some (some (.ref q242q)))
  (l_law_right:K.lookup q242q=some ⟨q246q,q243q,.func (PySem.W.fnOf "_law_right" "_law_right" (zaB zaG) (zaw zaG) (zae zaG) .none q247q q248q q249q q244q q250q q251q),q245q⟩)
  (cc_law_right:PySem.W.codeIn K q250q "_law_right"=true)
  (k_law_right:PySem.W.keepIn K (.ref q242q)=true)
  (alaw:PySem.W.nsIn K mainGlobals "law"=some (some (.ref flaw)))
  (llaw:K.lookup flaw=some ⟨oclaw,odlaw,.func (PySem.W.fnOf "law" "law" (zaB zfK) (zaw zfK) (zae zfK) .none kVlaw dclaw pmlaw anlaw cdlaw ctlaw),sllaw⟩)
  (cclaw:PySem.W.codeIn K cdlaw "law"=true)
  (klaw:PySem.W.keepIn K (.ref flaw)=true)
  (qBASE:PySem.W.nsIn K mainGlobals "BASE"=some (some (.int 16 tBASE)))
  (lcsearch:q101q=.ref cLsearch)
  (lksearch:K.lookup cLsearch=some ⟨q252q,q253q,.fields vsLsearch,q254q⟩)
  (ltsearch:vsLsearch[11]?=some (.ref TPsearch))
  (lhsearch:PySem.W.codeHdIn K cLsearch TPsearch=true)
  (lnsearch:K.lookup TPsearch=none)
  (lmsearch:TPsearch∈TS)
  (emr_Ring_DrawError:PySem.W.mroIn K CRing (.ref q0q)=some true)
  (ekt_Ring_Ring:PySem.W.kitOne K (.ref CRing) (.ref CRing)=some true)
  (ekt_Ring_ValueError:PySem.W.kitOne K (.ref CRing) (.type "ValueError")=some true)
  (ekt_Ring_NoFlow:PySem.W.kitOne K (.ref CRing) (.ref q1q)=some false)
  (ekb_int_int:PySem.W.kitOne K (.type "int") (.type "int")=some true)
  (ekb_int_bool:PySem.W.kitOne K (.type "int") (.type "bool")=some false)
  (ekb_list_list:PySem.W.kitOne K (.type "list") (.type "list")=some true)
  (ekb_tuple_tuple:PySem.W.kitOne K (.type "tuple") (.type "tuple")=some true)
  (zValueError:PySem.W.nsIn K mainGlobals "ValueError"=some none)
  (zabs:PySem.W.nsIn K mainGlobals "abs"=some none)
  (zall:PySem.W.nsIn K mainGlobals "all"=some none)
  (zany:PySem.W.nsIn K mainGlobals "any"=some none)
  (zbool:PySem.W.nsIn K mainGlobals "bool"=some none)
  (zenumerate:PySem.W.nsIn K mainGlobals "enumerate"=some none)
  (zint:PySem.W.nsIn K mainGlobals "int"=some none)
  (zisinstance:PySem.W.nsIn K mainGlobals "isinstance"=some none)
  (zlen:PySem.W.nsIn K mainGlobals "len"=some none)
  (zlist:PySem.W.nsIn K mainGlobals "list"=some none)
  (zmax:PySem.W.nsIn K mainGlobals "max"=some none)
  (zmin:PySem.W.nsIn K mainGlobals "min"=some none)
  (zrange:PySem.W.nsIn K mainGlobals "range"=some none)
  (zsum:PySem.W.nsIn K mainGlobals "sum"=some none)
  (ztuple:PySem.W.nsIn K mainGlobals "tuple"=some none)
  (zzip:PySem.W.nsIn K mainGlobals "zip"=some none)
  (hnd:[TPsearch].Nodup) :
  ∃ (fd:FuncData) (ts:List Tab) (sp:Sp),(∀ (s:Shared) (u:Value),BindsTo s fd ⟨[u],[]⟩ [("_law_script",u)])∧(ts.map (·.1)).Nodup∧(∀ t∈ts,t.1∈TS∧(∃ c,PySem.W.codeHdIn K c t.1=true)∧K.lookup t.1=none) ∧
    (∀ (H:Hp) (a:Addr) (ns:List Int),ns.length≤63→zie ts H→SqL K H a (ns.map V.int)→sp [.ref a] H (fun v _=>v=.bl true) fun _ _ _=>False) ∧
    ∀ base:Heap,K.In base→base.Ns mainGlobals mg→zdx l.prog w K mg base CX0 12 fa fd ["_law_script"] sp:=by
 have e:=hfa.symm.trans (PySem.W.mg_of X G alaw)
 cases e
 have T:Tx K mg ⟨q0q,q1q,CRing,q2q,TPsearch⟩:=⟨PySem.W.mg_of X G aDrawError,
  xbDrawError,
  xtDrawError,
  PySem.W.mg_of X G aNoFlow,
  xbNoFlow,
  xtNoFlow,
  PySem.W.mg_of X G aRing,
  xbRing,
  xtRing,
  ⟨iaRing,ibRing,xbRing,icRing,idRing,tg,tk,ieRing⟩,
  PySem.W.mg_of X G aLayout,
  ⟨pgLayout,hdLayout,poLayout,saLayout⟩,
  naLayout_coming,
  naLayout_flow,
  naLayout_going,
  naLayout_leasts,
  naLayout_needs,
  naLayout_ones,
  naLayout_others,
  naLayout_places,
  ⟨q3q,_,zaE lRing___init__ ccRing___init__,⟨xaRing,xkRing,aRing___init__,iRing___init__⟩,PySem.W.mg_of X G aRing,(.all (zh5 fun _ _=>rfl))⟩,
  ⟨ysRingring,yoRingring,ytRingring,yhRingring⟩,
  ⟨zaRingring,zbRingring,xbRing,znRingring,yhRingring⟩,
  ⟨_,_,[],zaE lweights_of ccweights_of,PySem.W.mg_of X G aweights_of,kweights_of,(.all (zlT fun _=>rfl)),.nil⟩,
  ⟨_,_,[],zaE lleft_at_points ccleft_at_points,PySem.W.mg_of X G aleft_at_points,kleft_at_points,(.all (zj6 fun _ _ _=>rfl)),.nil⟩,
  ⟨q33q,_,zaE lLayout___init__ ccLayout___init__,⟨mkLayout,aLayout___init__,iLayout___init__,kcLayout⟩,PySem.W.mg_of X G aLayout,(.all (zj6 fun _ _ _=>rfl))⟩,
  ⟨q43q,_,[],zaE lLayout_slack ccLayout_slack,⟨aLayout_slack,iLayout_slack,kLayout_slack⟩,(.all (zh5 fun _ _=>rfl)),.nil⟩,
  ⟨q53q,_,[],zaE lLayout_end_across ccLayout_end_across,⟨aLayout_end_across,iLayout_end_across,kLayout_end_across⟩,(.all (zj6 fun _ _ _=>rfl)),.nil⟩,
  ⟨_,_,[],zaE lfit ccfit,PySem.W.mg_of X G afit,kfit,(.all (zlT fun _=>rfl)),.nil⟩,
  ⟨_,_,[],zaE lpush_once ccpush_once,PySem.W.mg_of X G apush_once,kpush_once,(.all (zh5 fun _ _=>rfl)),.nil⟩,
  ⟨_,_,[],zaE lring_behind ccring_behind,PySem.W.mg_of X G aring_behind,kring_behind,(.all (zj6 fun _ _ _=>rfl)),.nil⟩,
  ⟨_,_,[],zaE lsend_once ccsend_once,PySem.W.mg_of X G asend_once,ksend_once,(.all (zlT fun _=>rfl)),.nil⟩,
  ⟨_,_,[],zaE lsearch ccsearch,PySem.W.mg_of X G asearch,ksearch,(.all (zj6 fun _ _ _=>rfl)),.nil⟩,
  ⟨_,_,[],zaE llook_around cclook_around,PySem.W.mg_of X G alook_around,klook_around,(.all (len5 fun _ _ _ _ _=>rfl)),.nil⟩,
  ⟨_,_,[],zaE lway_back ccway_back,PySem.W.mg_of X G away_back,kway_back,(.all (zj6 fun _ _ _=>rfl)),.nil⟩,
  ⟨_,_,[],zaE lsend_along ccsend_along,PySem.W.mg_of X G asend_along,ksend_along,(.all (zj6 fun _ _ _=>rfl)),.nil⟩,
  ⟨_,_,[],zaE lparts_of ccparts_of,PySem.W.mg_of X G aparts_of,kparts_of,(.all (zh5 fun _ _=>rfl)),.nil⟩,
  ⟨_,_,[],zaE lfrom_nought ccfrom_nought,PySem.W.mg_of X G afrom_nought,kfrom_nought,(.all (zh5 fun _ _=>rfl)),.nil⟩,
  ⟨_,_,[],zaE lfigure_worths ccfigure_worths,PySem.W.mg_of X G afigure_worths,kfigure_worths,(.all (zlT fun _=>rfl)),.nil⟩,
  ⟨_,_,[],zaE llaid cclaid,PySem.W.mg_of X G alaid,klaid,(.all (zh5 fun _ _=>rfl)),.nil⟩,
  ⟨_,_,[],zaE l_law_cell_at cc_law_cell_at,PySem.W.mg_of X G a_law_cell_at,k_law_cell_at,(.all (zh5 fun _ _=>rfl)),.nil⟩,
  ⟨_,_,[],zaE l_law_mix cc_law_mix,PySem.W.mg_of X G a_law_mix,k_law_mix,(.all (zh5 fun _ _=>rfl)),.nil⟩,
  ⟨_,_,[],zaE l_law_wish cc_law_wish,PySem.W.mg_of X G a_law_wish,k_law_wish,(.all (zh5 fun _ _=>rfl)),.nil⟩,
  ⟨_,_,[],zaE l_law_whole cc_law_whole,PySem.W.mg_of X G a_law_whole,k_law_whole,(.all (zlT fun _=>rfl)),.nil⟩,
  ⟨_,_,[],zaE l_law_wholes cc_law_wholes,PySem.W.mg_of X G a_law_wholes,k_law_wholes,(.all (zh5 fun _ _=>rfl)),.nil⟩,
  ⟨_,_,[],zaE l_law_ring cc_law_ring,PySem.W.mg_of X G a_law_ring,k_law_ring,(.all (zh5 fun _ _=>rfl)),.nil⟩,
  ⟨_,_,[],zaE l_law_far cc_law_far,PySem.W.mg_of X G a_law_far,k_law_far,(.all (zj6 fun _ _ _=>rfl)),.nil⟩,
  ⟨_,_,[],zaE l_law_right cc_law_right,PySem.W.mg_of X G a_law_right,k_law_right,(.all (len5 fun _ _ _ _ _=>rfl)),.nil⟩,
  ⟨_,_,[],zaE llaw cclaw,PySem.W.mg_of X G alaw,klaw,(.all (zlT fun _=>rfl)),.nil⟩,
  ⟨tBASE,PySem.W.mg_of X G qBASE⟩,
  ⟨q93q,PySem.W.mg_of X G asearch,⟨cLsearch,zk1 lsearch lcsearch,lhsearch⟩,lnsearch⟩,
  emr_Ring_DrawError,
  ekt_Ring_Ring,
  ekt_Ring_ValueError,
  ekt_Ring_NoFlow,
  ekb_int_int,
  ekb_int_bool,
  ekb_list_list,
  ekb_tuple_tuple,
  PySem.W.mg_none_of X G zValueError,
  PySem.W.mg_none_of X G zabs,
  PySem.W.mg_none_of X G zall,
  PySem.W.mg_none_of X G zany,
  PySem.W.mg_none_of X G zbool,
  PySem.W.mg_none_of X G zenumerate,
  PySem.W.mg_none_of X G zint,
  PySem.W.mg_none_of X G zisinstance,
  PySem.W.mg_none_of X G zlen,
  PySem.W.mg_none_of X G zlist,
  PySem.W.mg_none_of X G zmax,
  PySem.W.mg_none_of X G zmin,
  PySem.W.mg_none_of X G zrange,
  PySem.W.mg_none_of X G zsum,
  PySem.W.mg_none_of X G ztuple,
  PySem.W.mg_none_of X G zzip⟩
 refine⟨_,[(TPsearch,zb7,zb8)],spLaw K ⟨q0q,q1q,CRing,q2q,TPsearch⟩,fun s v=>.of_eq rfl,hnd,?_,?_,fun base _ _=>ok_law T _ _ (zaE (st:=zfK) llaw cclaw)⟩
 ·intro t ht
  simp only[List.mem_cons,List.not_mem_nil,or_false] at ht
  rcases ht with rfl
  ·exact⟨lmsearch,⟨_,lhsearch⟩,lnsearch⟩
 ·exact fun H a ns hl hO hS=>⟨a,ns,rfl,hS,hl,hO.1 (TPsearch,zb7,zb8) (by simp),fun _=>rfl⟩
theorem walk {l:PySem.W.OpenLaw}{q:Program}{loose:List Str}{XP:(Str→Option Value)→Heap→Prop}{YP:World→Heap→Prop}{d:DefRec}{K:Params→PySem.W.Frag}{TS:List Addr} (hn:l.most=some 63) (hdf:d.params.defaults=[])
  (hY:∀ (w:World) (h:Heap),YP w h→(K w.params).In h∧∀ P∈TS,h.get? P=some (PySem.W.tabObj #[]))
  (F:∀ (w:World) (mg:Str→Option Value) (fa:Addr) (h:Heap),(K w.params).In h→h.Ns mainGlobals mg→mg d.name=some (.ref fa)→∃ (fd:FuncData) (ts:List Tab) (sp:Sp),(∀ (s:Shared) (u:Value),BindsTo s fd ⟨[u],[]⟩ [("_law_script",u)])∧(ts.map (·.1)).Nodup∧(∀ t∈ts,t.1∈TS∧(∃ c,PySem.W.codeHdIn (K w.params) c t.1=true)∧(K w.params).lookup t.1=none) ∧
    (∀ (H:Hp) (a:Addr) (ns:List Int),ns.length≤63→zie ts H→SqL (K w.params) H a (ns.map V.int)→sp [.ref a] H (fun v _=>v=.bl true) fun _ _ _=>False) ∧
    ∀ base:Heap,(K w.params).In base→base.Ns mainGlobals mg→zdx l.prog w (K w.params) mg base CX0 12 fa fd ["_law_script"] sp) :
  PySem.W.WalkO q loose XP YP l.row.toRowW d [] (fun f vs=>PySem.call f vs):=
 L2.zjv (n:=63) (k:=12) (x:="_law_script") hn (by decide) hdf ⟨by decide,by decide⟩ hY F
end K21
/-! the names of twins that are not wanted -/
def PySem.W.Fast.tw7892349169567204007 : Unit := ()
def PySem.W.Fast.tw14329365277572704658 : Unit := ()
def PySem.W.Fast.tw9927970805807558232 : Unit := ()
def PySem.W.Fast.tw14683915261426429954 : Unit := ()
def PySem.W.Fast.tw7450231043200067954 : Unit := ()
def PySem.W.Fast.tw231349177581576112 : Unit := ()
def PySem.W.Fast.tw199100441259358860 : Unit := ()
def PySem.W.Fast.tw11030839282072488178 : Unit := ()
def PySem.W.Fast.tw10720493169081643261 : Unit := ()
def PySem.W.Fast.tw16614195645435811630 : Unit := ()
def PySem.W.Fast.tw17195296079454284289 : Unit := ()
def PySem.W.Fast.tw14895224772655404244 : Unit := ()
def PySem.W.Fast.tw7268505442205100070 : Unit := ()
def PySem.W.Fast.tw16931758559694121768 : Unit := ()
def PySem.W.Fast.tw1036735011560188006 : Unit := ()
def PySem.W.Fast.tw16101485969249609743 : Unit := ()
def PySem.W.Fast.tw878156029372316887 : Unit := ()
def PySem.W.Fast.tw14724996246846382941 : Unit := ()
open PySem PySem.W PyProof.Rows
set_option maxRecDepth 100000 in
set_option maxHeartbeats 0 in
theorem PySem.Challenge.cw_layerdraw_k21_two_points_holds : PySem.Challenge.rw_layerdraw_k21_two_points.Holds := by
 w_on;o_law;k_head;(case hw=>w_witness2)
 k_fill
 refine K21.walk (l:=PySem.Challenge.rw_layerdraw_k21_two_points) rfl rfl (fun w h Y=>⟨PySem.W.km_in_of Y,PySem.W.km_tabs_of Y⟩) ?F
 case F=>
  intro w mg fa h KX G hmg
  refine' K21.all_mk KX G hmg ?aDrawError ?xbDrawError ?xtDrawError ?aNoFlow ?xbNoFlow ?xtNoFlow ?aRing ?xbRing ?xtRing ?iaRing ?ibRing ?icRing ?idRing ?ieRing ?aLayout ?pgLayout ?hdLayout ?poLayout ?saLayout ?mkLayout ?kcLayout ?naLayout_coming ?naLayout_flow ?naLayout_going ?naLayout_leasts ?naLayout_needs ?naLayout_ones ?naLayout_others ?naLayout_places ?tg ?tk ?aRing___init__ ?iRing___init__ ?lRing___init__ ?ccRing___init__ ?xaRing ?xkRing ?ysRingring ?yoRingring ?ytRingring ?yhRingring ?zaRingring ?zbRingring ?znRingring ?aweights_of ?lweights_of ?ccweights_of ?kweights_of ?aleft_at_points ?lleft_at_points ?ccleft_at_points ?kleft_at_points ?aLayout___init__ ?iLayout___init__ ?lLayout___init__ ?ccLayout___init__ ?aLayout_slack ?iLayout_slack ?lLayout_slack ?ccLayout_slack ?kLayout_slack ?aLayout_end_across ?iLayout_end_across ?lLayout_end_across ?ccLayout_end_across ?kLayout_end_across ?afit ?lfit ?ccfit ?kfit ?apush_once ?lpush_once ?ccpush_once ?kpush_once ?aring_behind ?lring_behind ?ccring_behind ?kring_behind ?asend_once ?lsend_once ?ccsend_once ?ksend_once ?asearch ?lsearch ?ccsearch ?ksearch ?alook_around ?llook_around ?cclook_around ?klook_around ?away_back ?lway_back ?ccway_back ?kway_back ?asend_along ?lsend_along ?ccsend_along ?ksend_along ?aparts_of ?lparts_of ?ccparts_of ?kparts_of ?afrom_nought ?lfrom_nought ?ccfrom_nought ?kfrom_nought ?afigure_worths ?lfigure_worths ?ccfigure_worths ?kfigure_worths ?alaid ?llaid ?cclaid ?klaid ?a_law_cell_at ?l_law_cell_at ?cc_law_cell_at ?k_law_cell_at ?a_law_mix ?l_law_mix ?cc_law_mix ?k_law_mix ?a_law_wish ?l_law_wish ?cc_law_wish ?k_law_wish ?a_law_whole ?l_law_whole ?cc_law_whole ?k_law_whole ?a_law_wholes ?l_law_wholes ?cc_law_wholes ?k_law_wholes ?a_law_ring ?l_law_ring ?cc_law_ring ?k_law_ring ?a_law_far ?l_law_far ?cc_law_far ?k_law_far ?a_law_right ?l_law_right ?cc_law_right ?k_law_right ?alaw ?llaw ?cclaw ?klaw ?qBASE ?lcsearch ?lksearch ?ltsearch ?lhsearch ?lnsearch ?lmsearch ?emr_Ring_DrawError ?ekt_Ring_Ring ?ekt_Ring_ValueError ?ekt_Ring_NoFlow ?ekb_int_int ?ekb_int_bool ?ekb_list_list ?ekb_tuple_tuple ?zValueError ?zabs ?zall ?zany ?zbool ?zenumerate ?zint ?zisinstance ?zlen ?zlist ?zmax ?zmin ?zrange ?zsum ?ztuple ?zzip ?hnd
  (case aDrawError=>first|k_is|kit_is|kernel_rfl|rfl)
  (case xbDrawError=>first|k_is|kit_is|kernel_rfl|rfl)
  (case xtDrawError=>first|k_is|kit_is|kernel_rfl|rfl)
  (case aNoFlow=>first|k_is|kit_is|kernel_rfl|rfl)
  (case xbNoFlow=>first|k_is|kit_is|kernel_rfl|rfl)
  (case xtNoFlow=>first|k_is|kit_is|kernel_rfl|rfl)
  (case aRing=>first|k_is|kit_is|kernel_rfl|rfl)
  (case xbRing=>first|k_is|kit_is|kernel_rfl|rfl)
  (case xtRing=>first|k_is|kit_is|kernel_rfl|rfl)
  (case iaRing=>first|k_is|kit_is|kernel_rfl|rfl)
  (case ibRing=>first|k_is|kit_is|kernel_rfl|rfl)
  (case icRing=>first|k_is|kit_is|kernel_rfl|rfl)
  (case idRing=>first|k_is|kit_is|kernel_rfl|rfl)
  (case ieRing=>first|k_is|kit_is|kernel_rfl|rfl)
  (case aLayout=>first|k_is|kit_is|kernel_rfl|rfl)
  (case pgLayout=>first|k_is|kit_is|kernel_rfl|rfl)
  (case hdLayout=>first|k_is|kit_is|kernel_rfl|rfl)
  (case poLayout=>first|k_is|kit_is|kernel_rfl|rfl)
  (case saLayout=>first|k_is|kit_is|kernel_rfl|rfl)
  (case mkLayout=>first|k_is|kit_is|kernel_rfl|rfl)
  (case kcLayout=>first|k_is|kit_is|kernel_rfl|rfl)
  (case naLayout_coming=>first|k_is|kit_is|kernel_rfl|rfl)
  (case naLayout_flow=>first|k_is|kit_is|kernel_rfl|rfl)
  (case naLayout_going=>first|k_is|kit_is|kernel_rfl|rfl)
  (case naLayout_leasts=>first|k_is|kit_is|kernel_rfl|rfl)
  (case naLayout_needs=>first|k_is|kit_is|kernel_rfl|rfl)
  (case naLayout_ones=>first|k_is|kit_is|kernel_rfl|rfl)
  (case naLayout_others=>first|k_is|kit_is|kernel_rfl|rfl)
  (case naLayout_places=>first|k_is|kit_is|kernel_rfl|rfl)
  (case tg=>first|k_is|kit_is|kernel_rfl|rfl)
  (case tk=>first|k_is|kit_is|kernel_rfl|rfl)
  (case aRing___init__=>first|k_is|kit_is|kernel_rfl|rfl)
  (case iRing___init__=>first|k_is|kit_is|kernel_rfl|rfl)
  (case lRing___init__=>first|k_is|kit_is|kernel_rfl|rfl)
  (case ccRing___init__=>first|k_is|kit_is|kernel_rfl|rfl)
  (case xaRing=>first|k_is|kit_is|kernel_rfl|rfl)
  (case xkRing=>first|k_is|kit_is|kernel_rfl|rfl)
  (case ysRingring=>first|k_is|kit_is|kernel_rfl|rfl)
  (case yoRingring=>first|k_is|kit_is|kernel_rfl|rfl)
  (case ytRingring=>first|k_is|kit_is|kernel_rfl|rfl)
  (case yhRingring=>first|k_is|kit_is|kernel_rfl|rfl)
  (case zaRingring=>first|k_is|kit_is|kernel_rfl|rfl)
  (case zbRingring=>first|k_is|kit_is|kernel_rfl|rfl)
  (case znRingring=>first|k_is|kit_is|kernel_rfl|rfl)
  (case aweights_of=>first|k_is|kit_is|kernel_rfl|rfl)
  (case lweights_of=>first|k_is|kit_is|kernel_rfl|rfl)
  (case ccweights_of=>first|k_is|kit_is|kernel_rfl|rfl)
  (case kweights_of=>first|k_is|kit_is|kernel_rfl|rfl)
  (case aleft_at_points=>first|k_is|kit_is|kernel_rfl|rfl)
  (case lleft_at_points=>first|k_is|kit_is|kernel_rfl|rfl)
  (case ccleft_at_points=>first|k_is|kit_is|kernel_rfl|rfl)
  (case kleft_at_points=>first|k_is|kit_is|kernel_rfl|rfl)
  (case aLayout___init__=>first|k_is|kit_is|kernel_rfl|rfl)
  (case iLayout___init__=>first|k_is|kit_is|kernel_rfl|rfl)
  (case lLayout___init__=>first|k_is|kit_is|kernel_rfl|rfl)
  (case ccLayout___init__=>first|k_is|kit_is|kernel_rfl|rfl)
  (case aLayout_slack=>first|k_is|kit_is|kernel_rfl|rfl)
  (case iLayout_slack=>first|k_is|kit_is|kernel_rfl|rfl)
  (case lLayout_slack=>first|k_is|kit_is|kernel_rfl|rfl)
  (case ccLayout_slack=>first|k_is|kit_is|kernel_rfl|rfl)
  (case kLayout_slack=>first|k_is|kit_is|kernel_rfl|rfl)
  (case aLayout_end_across=>first|k_is|kit_is|kernel_rfl|rfl)
  (case iLayout_end_across=>first|k_is|kit_is|kernel_rfl|rfl)
  (case lLayout_end_across=>first|k_is|kit_is|kernel_rfl|rfl)
  (case ccLayout_end_across=>first|k_is|kit_is|kernel_rfl|rfl)
  (case kLayout_end_across=>first|k_is|kit_is|kernel_rfl|rfl)
  (case afit=>first|k_is|kit_is|kernel_rfl|rfl)
  (case lfit=>first|k_is|kit_is|kernel_rfl|rfl)
  (case ccfit=>first|k_is|kit_is|kernel_rfl|rfl)
  (case kfit=>first|k_is|kit_is|kernel_rfl|rfl)
  (case apush_once=>first|k_is|kit_is|kernel_rfl|rfl)
  (case lpush_once=>first|k_is|kit_is|kernel_rfl|rfl)
  (case ccpush_once=>first|k_is|kit_is|kernel_rfl|rfl)
  (case kpush_once=>first|k_is|kit_is|kernel_rfl|rfl)
  (case aring_behind=>first|k_is|kit_is|kernel_rfl|rfl)
  (case lring_behind=>first|k_is|kit_is|kernel_rfl|rfl)
  (case ccring_behind=>first|k_is|kit_is|kernel_rfl|rfl)
  (case kring_behind=>first|k_is|kit_is|kernel_rfl|rfl)
  (case asend_once=>first|k_is|kit_is|kernel_rfl|rfl)
  (case lsend_once=>first|k_is|kit_is|kernel_rfl|rfl)
  (case ccsend_once=>first|k_is|kit_is|kernel_rfl|rfl)
  (case ksend_once=>first|k_is|kit_is|kernel_rfl|rfl)
  (case asearch=>first|k_is|kit_is|kernel_rfl|rfl)
  (case lsearch=>first|k_is|kit_is|kernel_rfl|rfl)
  (case ccsearch=>first|k_is|kit_is|kernel_rfl|rfl)
  (case ksearch=>first|k_is|kit_is|kernel_rfl|rfl)
  (case alook_around=>first|k_is|kit_is|kernel_rfl|rfl)
  (case llook_around=>first|k_is|kit_is|kernel_rfl|rfl)
  (case cclook_around=>first|k_is|kit_is|kernel_rfl|rfl)
  (case klook_around=>first|k_is|kit_is|kernel_rfl|rfl)
  (case away_back=>first|k_is|kit_is|kernel_rfl|rfl)
  (case lway_back=>first|k_is|kit_is|kernel_rfl|rfl)
  (case ccway_back=>first|k_is|kit_is|kernel_rfl|rfl)
  (case kway_back=>first|k_is|kit_is|kernel_rfl|rfl)
  (case asend_along=>first|k_is|kit_is|kernel_rfl|rfl)
  (case lsend_along=>first|k_is|kit_is|kernel_rfl|rfl)
  (case ccsend_along=>first|k_is|kit_is|kernel_rfl|rfl)
  (case ksend_along=>first|k_is|kit_is|kernel_rfl|rfl)
  (case aparts_of=>first|k_is|kit_is|kernel_rfl|rfl)
  (case lparts_of=>first|k_is|kit_is|kernel_rfl|rfl)
  (case ccparts_of=>first|k_is|kit_is|kernel_rfl|rfl)
  (case kparts_of=>first|k_is|kit_is|kernel_rfl|rfl)
  (case afrom_nought=>first|k_is|kit_is|kernel_rfl|rfl)
  (case lfrom_nought=>first|k_is|kit_is|kernel_rfl|rfl)
  (case ccfrom_nought=>first|k_is|kit_is|kernel_rfl|rfl)
  (case kfrom_nought=>first|k_is|kit_is|kernel_rfl|rfl)
  (case afigure_worths=>first|k_is|kit_is|kernel_rfl|rfl)
  (case lfigure_worths=>first|k_is|kit_is|kernel_rfl|rfl)
  (case ccfigure_worths=>first|k_is|kit_is|kernel_rfl|rfl)
  (case kfigure_worths=>first|k_is|kit_is|kernel_rfl|rfl)
  (case alaid=>first|k_is|kit_is|kernel_rfl|rfl)
  (case llaid=>first|k_is|kit_is|kernel_rfl|rfl)
  (case cclaid=>first|k_is|kit_is|kernel_rfl|rfl)
  (case klaid=>first|k_is|kit_is|kernel_rfl|rfl)
  (case a_law_cell_at=>first|k_is|kit_is|kernel_rfl|rfl)
  (case l_law_cell_at=>first|k_is|kit_is|kernel_rfl|rfl)
  (case cc_law_cell_at=>first|k_is|kit_is|kernel_rfl|rfl)
  (case k_law_cell_at=>first|k_is|kit_is|kernel_rfl|rfl)
  (case a_law_mix=>first|k_is|kit_is|kernel_rfl|rfl)
  (case l_law_mix=>first|k_is|kit_is|kernel_rfl|rfl)
  (case cc_law_mix=>first|k_is|kit_is|kernel_rfl|rfl)
  (case k_law_mix=>first|k_is|kit_is|kernel_rfl|rfl)
  (case a_law_wish=>first|k_is|kit_is|kernel_rfl|rfl)
  (case l_law_wish=>first|k_is|kit_is|kernel_rfl|rfl)
  (case cc_law_wish=>first|k_is|kit_is|kernel_rfl|rfl)
  (case k_law_wish=>first|k_is|kit_is|kernel_rfl|rfl)
  (case a_law_whole=>first|k_is|kit_is|kernel_rfl|rfl)
  (case l_law_whole=>first|k_is|kit_is|kernel_rfl|rfl)
  (case cc_law_whole=>first|k_is|kit_is|kernel_rfl|rfl)
  (case k_law_whole=>first|k_is|kit_is|kernel_rfl|rfl)
  (case a_law_wholes=>first|k_is|kit_is|kernel_rfl|rfl)
  (case l_law_wholes=>first|k_is|kit_is|kernel_rfl|rfl)
  (case cc_law_wholes=>first|k_is|kit_is|kernel_rfl|rfl)
  (case k_law_wholes=>first|k_is|kit_is|kernel_rfl|rfl)
  (case a_law_ring=>first|k_is|kit_is|kernel_rfl|rfl)
  (case l_law_ring=>first|k_is|kit_is|kernel_rfl|rfl)
  (case cc_law_ring=>first|k_is|kit_is|kernel_rfl|rfl)
  (case k_law_ring=>first|k_is|kit_is|kernel_rfl|rfl)
  (case a_law_far=>first|k_is|kit_is|kernel_rfl|rfl)
  (case l_law_far=>first|k_is|kit_is|kernel_rfl|rfl)
  (case cc_law_far=>first|k_is|kit_is|kernel_rfl|rfl)
  (case k_law_far=>first|k_is|kit_is|kernel_rfl|rfl)
  (case a_law_right=>first|k_is|kit_is|kernel_rfl|rfl)
  (case l_law_right=>first|k_is|kit_is|kernel_rfl|rfl)
  (case cc_law_right=>first|k_is|kit_is|kernel_rfl|rfl)
  (case k_law_right=>first|k_is|kit_is|kernel_rfl|rfl)
  (case alaw=>first|k_is|kit_is|kernel_rfl|rfl)
  (case llaw=>first|k_is|kit_is|kernel_rfl|rfl)
  (case cclaw=>first|k_is|kit_is|kernel_rfl|rfl)
  (case klaw=>first|k_is|kit_is|kernel_rfl|rfl)
  (case qBASE=>first|k_is|kit_is|kernel_rfl|rfl)
  (case lcsearch=>rfl)
  (case lksearch=>first|k_is|kit_is|kernel_rfl|rfl)
  (case ltsearch=>rfl)
  (case lhsearch=>first|k_is|kit_is|kernel_rfl|rfl)
  (case lnsearch=>first|k_is|kit_is|kernel_rfl|rfl)
  (case lmsearch=>first|exact List.mem_cons_self|(simp;done)|k_is|kit_is|kernel_rfl|rfl)
  (case emr_Ring_DrawError=>first|k_is|kit_is|kernel_rfl|rfl)
  (case ekt_Ring_Ring=>first|k_is|kit_is|kernel_rfl|rfl)
  (case ekt_Ring_ValueError=>first|k_is|kit_is|kernel_rfl|rfl)
  (case ekt_Ring_NoFlow=>first|k_is|kit_is|kernel_rfl|rfl)
  (case ekb_int_int=>first|k_is|kit_is|kernel_rfl|rfl)
  (case ekb_int_bool=>first|k_is|kit_is|kernel_rfl|rfl)
  (case ekb_list_list=>first|k_is|kit_is|kernel_rfl|rfl)
  (case ekb_tuple_tuple=>first|k_is|kit_is|kernel_rfl|rfl)
  (case zValueError=>first|k_is|kit_is|kernel_rfl|rfl)
  (case zabs=>first|k_is|kit_is|kernel_rfl|rfl)
  (case zall=>first|k_is|kit_is|kernel_rfl|rfl)
  (case zany=>first|k_is|kit_is|kernel_rfl|rfl)
  (case zbool=>first|k_is|kit_is|kernel_rfl|rfl)
  (case zenumerate=>first|k_is|kit_is|kernel_rfl|rfl)
  (case zint=>first|k_is|kit_is|kernel_rfl|rfl)
  (case zisinstance=>first|k_is|kit_is|kernel_rfl|rfl)
  (case zlen=>first|k_is|kit_is|kernel_rfl|rfl)
  (case zlist=>first|k_is|kit_is|kernel_rfl|rfl)
  (case zmax=>first|k_is|kit_is|kernel_rfl|rfl)
  (case zmin=>first|k_is|kit_is|kernel_rfl|rfl)
  (case zrange=>first|k_is|kit_is|kernel_rfl|rfl)
  (case zsum=>first|k_is|kit_is|kernel_rfl|rfl)
  (case ztuple=>first|k_is|kit_is|kernel_rfl|rfl)
  (case zzip=>first|k_is|kit_is|kernel_rfl|rfl)
  (case hnd=>decide)
