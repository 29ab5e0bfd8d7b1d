import PyProof.Rows.All
import Wide.All
import OpenK.AllK
import Wide.FinOn
import Lean
import PyProof.EqAt
import PyProof.EqKinds
import PyProof.TupleCall
import PyProof.NeKinds
import PySem.Challenge.RW_layerdraw_k71_pictures_and_back
set_option Elab.async false
set_option linter.all false
set_option maxRecDepth 100000
set_option genInjectivity false
set_option genSizeOf false
noncomputable section
namespace L2
theorem ex3 {α:Sort _}{a b:α→Prop}{G:Prop} (k:∀ x,a x→b x→G):(∃ x,a x∧b x)→G:=fun⟨x,h1,h2⟩=>k x h1 h2
theorem ex4 {α β:Sort _}{a b:α→β→Prop}{G:Prop} (k:∀ x y,a x y→b x y→G):(∃ x y,a x y∧b x y)→G:=fun⟨x,y,h1,h2⟩=>k x y h1 h2
theorem ex5 {α β:Sort _}{a b c:α→β→Prop}{G:Prop} (k:∀ x y,a x y→b x y→c x y→G):(∃ x y,a x y∧b x y∧c x y)→G:=fun⟨x,y,h1,h2,h3⟩=>k x y h1 h2 h3
end L2
namespace L2
open PySem PySem.Spec PyProof.Rows
theorem zec:entryFor table "proto.unchain"=some Builtin.«proto.unchain»:=entryFor_of_tree (by kernel_rfl)
def nxt (cs:List Addr) (j:Nat):Value:=match cs[j]? with|none=>Value.none|some b=>Value.ref b
def Chn (h:Heap) (cs:List Addr):Prop:=cs.Nodup∧∀ j a,cs[j]?=some a→∃ o vs,h.get? a=some o∧o.data=.fields vs∧vs[2]?=some (nxt cs (j + 1))
def Hd (A:Around) (h:Heap):Prop:=A.handled=none∨∃ a cs,A.handled=some (.ref a)∧Chn h (a::cs)
theorem Hd.keeps {A:Around}{h h':Heap} (x:Hd A h) (k:∀ b o,h.get? b=some o→h'.get? b=some o):Hd A h':=by
 rcases x with e|⟨a,cs,e,nd,c⟩
 ·exact .inl e
 ·refine .inr ⟨a,cs,e,nd,fun j b hb=>?_⟩
  obtain⟨o,vs,ho,r⟩:=c j b hb
  exact⟨o,vs,k b o ho,r⟩
theorem Hd.but {A:Around}{h h':Heap}{it:Addr}{oi:Obj} (x:Hd A h) (hit:h.get? it=some oi) (hno:∀ vs,oi.data=.fields vs→vs.size<3∨vs[2]?≠some Value.none∧∀ b,vs[2]?≠some (.ref b)) (k:∀ b o,b≠it→h.get? b=some o→h'.get? b=some o):Hd A h':=by
 rcases x with e|⟨a,cs,e,nd,c⟩
 ·exact .inl e
 ·refine .inr ⟨a,cs,e,nd,fun j b hb=>?_⟩
  obtain⟨o,vs,ho,hd,h2⟩:=c j b hb
  refine⟨o,vs,k b o (fun z=>?_) ho,hd,h2⟩
  subst z
  rw[hit] at ho
  cases ho
  rcases hno vs hd with q|⟨q1,q2⟩
  ·have:=(Array.getElem?_eq_some_iff.mp h2).1
   omega
  ·unfold nxt at h2
   cases hz:(a::cs)[j + 1]? with
   | none=>rw[hz] at h2;exact q1 h2
   | some y=>rw[hz] at h2;exact q2 y h2
section
variable {prog:Program}{w:World}{A:Around}{E:Value→Shared→Prop}{s:Shared}
theorem zf1 {cs:List Addr}{e:Addr}{R:Result→Shared→Prop} (c:Chn s.heap cs) (he:e∉cs) (hR:R (.ok (.ret .none)) s):∀ (n j i:Nat) (o sl:Addr) (tg:Bool),cs.length - j=n→cs[j]?=some o→cs[i]?=some sl→i≤j →
  codeAny (model prog w) A (.builtin "proto.unchain" ⟨[.ref e,.ref o,.ref sl,.bool tg],[]⟩) R s:=by
 intro n
 induction n with
 | zero=>
  intro j i o sl tg hn hj _ _
  have:=(List.getElem?_eq_some_iff.mp hj).1
  omega
 | succ n ih=>
  intro j i o sl tg hn hj hi hij
  obtain⟨oo,vs,ho,hd,h2⟩:=c.2 j o hj
  refine codeAny_builtin zec ?_
  unfold Builtin.«proto.unchain»
  refine wpAny_bind (wpAny_field ho hd h2 ?_)
  cases hz:cs[j + 1]? with
  | none=>
   simp only[nxt,hz]
   rw[if_pos (by rfl)]
   refine wpAny_bind (wpAny_pure (wpAny_pure ?_))
   exact hR
  | some b=>
   simp only[nxt,hz]
   have hb:b∈cs:=List.mem_of_getElem? hz
   have hbe:b≠e:=fun z=>he (z ▸ hb)
   have hbs:b≠sl:=fun z=>by
    subst z
    have e1:=List.getElem?_eq_some_iff.mp hz
    have e2:=List.getElem?_eq_some_iff.mp hi
    have lt:i<j + 1:=by omega
    exact(List.pairwise_iff_getElem.mp c.1) i (j + 1) e2.1 e1.1 lt (e2.2.trans e1.2.symm)
   rw[if_neg (by simp),if_neg (by simpa using hbe),if_neg (by simpa using hbs)]
   have hi1:∃ b',cs[i + 1]?=some b':=by
    have e1:=(List.getElem?_eq_some_iff.mp hz).1
    exact⟨_,List.getElem?_eq_getElem (by omega)⟩
   obtain⟨b',hb'⟩:=hi1
   cases tg with
   | false=>
    rw[if_neg (by simp)]
    refine wpAny_bind (wpAny_pure (wpAny_pure ?_))
    exact(⟨Code.quiet_builtin _ (by decide +kernel),ih (j + 1) i b sl true (by omega) hz hi (by omega)⟩)
   | true=>
    rw[if_pos rfl]
    obtain⟨os,ws,hos,hds,hs2⟩:=c.2 i sl hi
    simp only[nxt,hb'] at hs2
    refine wpAny_bind (wpAny_field hos hds hs2 (wpAny_pure ?_))
    exact(⟨Code.quiet_builtin _ (by decide +kernel),ih (j + 1) (i + 1) b b' false (by omega) hz hb' (by omega)⟩)
theorem zed {α:Type}{e:Addr}{oe:Obj}{vs:Array Value}{Q:α→Shared→Prop} (hd:A.handled=none∨∃ a cs,A.handled=some (.ref a)∧Chn s.heap (a::cs)∧e∉a::cs) (he:s.heap.get? e=some oe) (hf:oe.data=.fields vs) (h2:2<vs.size)
  (h:∀ h' o' vs',(∀ b o,b≠e→s.heap.get? b=some o→h'.get? b=some o)→h'.get? e=some o'→o'.cls=oe.cls→o'.dict=oe.dict→o'.data=.fields vs'→vs'.size=vs.size→vs'[1]?=vs[1]?→vs'[2]?=(match A.handled with|none=>vs[2]?|some v=>some v)→E (.ref e) { s with heap:=h' }) :
  wpAny (model prog w) A (raiseNew (.ref e):Sem α) Q E s:=by
 unfold raiseNew
 refine wpAny_bind (wpAny_handled ?_)
 rcases hd with hn|⟨a,cs,ha,c,hin⟩
 ·rw[hn]
  exact wpAny_bind (wpAny_pure (wpAny_throw (h s.heap oe vs (fun _ _ _ q=>q) he rfl rfl hf rfl rfl (by rw[hn]))))
 ·rw[ha]
  have hae:a≠e:=fun z=>hin (by simp[z])
  show wpAny _ _ (if (Value.ref a != Value.ref e)=true then _ else _) _ _ s
  rw[if_pos (by simpa using hae)]
  refine wpAny_bind (wpAny_holding (wpAny_runValue (zf1 c hin ?_ _ 0 0 a a false rfl rfl rfl (Nat.le_refl _))))
  have up:=Obj.data_mapFields hf (·.setIfInBounds 2 (Value.ref a))
  refine wpAny_bind (show wpAny _ _ (setField (.ref e) 2 (.ref a)) _ _ s from wpAny_setField he hf h2 (wpAny_throw (h _ _ _ (fun b q hb hq=>(Heap.get?_update_other _ _ (Ne.symm hb)).trans hq) (Heap.get?_update_self _ he (Obj.isFreed_of_fields up)) (Obj.cls_mapFields _ _) ?_ up (by simp) ?_ ?_)))
  ·obtain⟨c1,d1,dt,sl⟩:=oe
   cases dt <;> rfl
  ·rw[Array.getElem?_setIfInBounds_ne (by decide)]
  ·rw[ha];simp[h2]
theorem Chn.lt {h:Heap}{cs:List Addr} (c:Chn h cs):∀ b∈cs,b<h.objs.size:=fun b hb=>by
 obtain⟨j,hj⟩:=List.mem_iff_getElem?.mp hb
 obtain⟨o,_,ho,_⟩:=c.2 j b hj
 exact Heap.lt_size ho
theorem Chn.mono {h h':Heap}{cs:List Addr} (c:Chn h cs) (k:∀ b o,b∈cs→h.get? b=some o→h'.get? b=some o):Chn h' cs:=⟨c.1,fun j a hj=>by
 obtain⟨o,vs,ho,r⟩:=c.2 j a hj
 exact⟨o,vs,k a o (List.mem_of_getElem? hj) ho,r⟩⟩
theorem zce {α:Type}{Q:α→Shared→Prop} (hd:Hd A s.heap)
  (h:∀ h' e,(∀ b o,s.heap.get? b=some o→h'.get? b=some o)→(∃ o',h'.get? e=some o'∧o'.cls=.type "StopIteration")→E (.ref e) { s with heap:=h' }) :
  wpAny (model prog w) A (newExc (.type "StopIteration") [] >>= fun e=>(raiseNew e:Sem α)) Q E s:=by
 refine wpAny_bind ?_
 unfold newExc newTuple
 refine wpAny_bind (wpAny_newObj_type ?_ (by size_fits))
 refine wpAny_bind (m:=firstArgMember _ _) (wpAny_of_eq (a:=Value.none) (by first|rfl|(simp only[firstArgMember];rfl)) (wpAny_newObj_type ?_ (by size_fits)))
 refine zed ?_ (Heap.get?_push_size _ rfl) rfl (by simp;omega) fun h' o' vs' k' e' c' _ _ _ _ _=>
  h h' _ (fun b o q=>k' b o (Nat.ne_of_lt (by rw[Heap.size_push];exact Nat.lt_succ_of_lt (Heap.lt_size q))) (Heap.get?_push_of_some _ (Heap.get?_push_of_some _ q))) ⟨o',e',c'⟩
 rcases hd with hn|⟨a,cs,ha,c⟩
 ·exact .inl hn
 ·refine .inr ⟨a,cs,ha,c.mono fun b o _ q=>Heap.get?_push_of_some _ (Heap.get?_push_of_some _ q),fun z=>?_⟩
  have:=c.lt _ z
  rw[Heap.size_push] at this
  exact absurd (Nat.lt_of_lt_of_le this (Nat.le_succ _)) (Nat.lt_irrefl _)
theorem zew {it l:Addr}{i:Nat} {items}{Q:Option Value→Shared→Prop} (hd:Hd A s.heap) (hit:s.heap.IsListIter it l i) (hl:s.heap.IsList l items) (hx:items[i]?=none)
  (hQ:∀ h',Heap.ExtBut it s.heap h'→Q none { s with heap:=h' }):wpAny (model prog w) A (pyNext (.ref it)) Q E s:=by
 obtain⟨o,ho,hc,hdat⟩:=id hit
 obtain⟨ol,hol,_,nl,hdl⟩:=hl
 unfold pyNext
 refine wpAny_bind (wpAny_attempt (wpAny_callSpecial?_slot (name:=Str.ofString "__next__") hit.typeIs slot_listiter_next (wpAny_call_entry slot_listiter_next hit.typeIs entry_listiter_next ?_ (args_listiter_next _))))
 refine(show wpAny _ _ (field (.ref it) 0 >>= _) _ _ s from wpAny_bind (wpAny_field ho hdat (x:=.ref l) rfl ?_))
 refine(show wpAny _ _ (if (Value.ref l == Value.none)=true then _ else _) _ _ s from ?_)
 rw[if_neg (by simp)]
 refine(show wpAny _ _ (field (.ref it) 1 >>= _) _ _ s from wpAny_bind (wpAny_field ho hdat (x:=.int i 0) rfl ?_))
 refine(show wpAny _ _ (seqItems? (.ref l) >>= _) _ _ s from wpAny_bind (wpAny_seqItems hol hdl ?_))
 simp only[Int.toNat_natCast,hx]
 refine wpAny_bind (wpAny_rule (wpAny_bind (wpAny_setField ho hdat (by simp) ?_)))
 have sb:Heap.SameBut it s.heap (s.heap.update it (Obj.mapFields (·.setIfInBounds 0 Value.none))):=Heap.SameBut.update ..
 refine zce (A:=A.in1) (hd.but ho (fun vs q=>.inl (by rw[hdat] at q;cases q;simp)) sb.extBut) fun h' e k' ⟨o',e',c'⟩=>?_
 exact wpAny_bind (wpAny_isInstance (T:="StopIteration") (b:=true) ⟨o',e',c'⟩ isSubtype_stop (wpAny_pure (hQ h' fun b q hb hq=>k' b q (sb.extBut b q hb hq))))
theorem zh3 {it t:Addr}{i:Nat} {items}{Q:Option Value→Shared→Prop} (hd:Hd A s.heap) (hit:s.heap.IsTupleIter it t i) (ht:s.heap.IsTuple t items) (hx:items[i]?=none)
  (hQ:∀ h',Heap.ExtBut it s.heap h'→Q none { s with heap:=h' }):wpAny (model prog w) A (pyNext (.ref it)) Q E s:=by
 obtain⟨o,ho,hc,hdat⟩:=id hit
 obtain⟨ol,hol,_,nl,hdl⟩:=ht
 unfold pyNext
 refine wpAny_bind (wpAny_attempt (wpAny_callSpecial?_slot (name:=Str.ofString "__next__") hit.typeIs F.slot_tuple_iterator_next (wpAny_call_entry F.slot_tuple_iterator_next hit.typeIs F.entry_tuple_iterator_next ?_ (F.args_tuple_iterator_next_1 _))))
 refine(show wpAny _ _ (field (.ref it) 0 >>= _) _ _ s from wpAny_bind (wpAny_field ho hdat (x:=.ref t) rfl ?_))
 refine(show wpAny _ _ (if (Value.ref t == Value.none)=true then _ else _) _ _ s from ?_)
 rw[if_neg (by simp)]
 refine(show wpAny _ _ (field (.ref it) 1 >>= _) _ _ s from wpAny_bind (wpAny_field ho hdat (x:=.int i 0) rfl ?_))
 refine(show wpAny _ _ (seqItems? (.ref t) >>= _) _ _ s from wpAny_bind (wpAny_seqItems hol hdl ?_))
 simp only[Int.toNat_natCast,hx]
 refine wpAny_bind (wpAny_rule (wpAny_bind (wpAny_setField ho hdat (by simp) ?_)))
 have sb:Heap.SameBut it s.heap (s.heap.update it (Obj.mapFields (·.setIfInBounds 0 Value.none))):=Heap.SameBut.update ..
 refine zce (A:=A.in1) (hd.but ho (fun vs q=>.inl (by rw[hdat] at q;cases q;simp)) sb.extBut) fun h' e k' ⟨o',e',c'⟩=>?_
 exact wpAny_bind (wpAny_isInstance (T:="StopIteration") (b:=true) ⟨o',e',c'⟩ isSubtype_stop (wpAny_pure (hQ h' fun b q hb hq=>k' b q (sb.extBut b q hb hq))))
theorem zf2 {it:Addr}{x left step:Int}{Q:Option Value→Shared→Prop} (hd:Hd A s.heap) (hit:IsRangeIter s.heap it x left step) (hleft:left≤0)
  (hQ:∀ h',Heap.ExtBut it s.heap h'→Q none { s with heap:=h' }):wpAny (model prog w) A (pyNext (.ref it)) Q E s:=by
 have hT:s.TypeIs (.ref it) "range_iterator":=⟨_,hit,rfl⟩
 unfold pyNext
 refine wpAny_bind (wpAny_attempt (wpAny_callSpecial?_slot (name:=Str.ofString "__next__") hT F.slot_range_iterator_next (wpAny_call_entry F.slot_range_iterator_next hT F.entry_range_iterator_next ?_ (F.args_range_iterator_next_1 _))))
 refine(show wpAny _ _ (field (.ref it) 0 >>= _) _ _ s from wpAny_bind (wpAny_field hit rfl (x:=rawInt x) rfl ?_))
 refine(show wpAny _ _ (field (.ref it) 1 >>= _) _ _ s from wpAny_bind (wpAny_field hit rfl (x:=rawInt left) rfl ?_))
 refine(show wpAny _ _ (field (.ref it) 2 >>= _) _ _ s from wpAny_bind (wpAny_field hit rfl (x:=rawInt step) rfl ?_))
 refine(show wpAny _ _ (if left≤0 then _ else _) _ _ s from ?_)
 rw[if_pos hleft]
 refine wpAny_bind (wpAny_rule (wpAny_bind ?_))
 refine zce (A:=A.in1) hd fun h' e k' ⟨o',e',c'⟩=>?_
 exact wpAny_bind (wpAny_isInstance (T:="StopIteration") (b:=true) ⟨o',e',c'⟩ isSubtype_stop (wpAny_pure (hQ h' fun b q _ hq=>k' b q hq)))
theorem zi9 {t:Addr}{items:Array Value}{Q:List Value→Shared→Prop} (hd:Hd A s.heap) (ht:IsTup s.heap t items)
  (hQ:∀ h',Heap.ExtBut s.heap.objs.size s.heap h'→Q items.toList { s with heap:=h' }):wpAny (model prog w) A (unpackItems (.ref t) items.size none) Q E s:=by
 have hlt:t≠s.heap.objs.size:=by obtain⟨o,ho,_⟩:=ht;exact Nat.ne_of_lt (Heap.lt_size ho)
 unfold unpackItems
 refine wpAny_bind ?_
 unfold notIterableAtAll
 refine wpAny_bind (wpAny_specialOf ht.typeIs slot_tuple_iter.lookup (wpAny_pure ?_))
 simp only[Bool.false_eq_true,if_false]
 refine wpAny_bind (wpAny_holding (iter_tuple ht (wpAny_bind (wpAny_holding (draw_tuple hlt items.size 0 _ _ ⟨_,Heap.get?_push_size _ rfl,rfl,rfl⟩ (ht.push _) (by omega) fun h₁ hit₁ hs₁=>?_)))))
 rw[show List.take items.size (List.drop 0 items.toList)=items.toList by rw[List.drop_zero];exact List.take_of_length_le (by simp)]
 rw[if_neg (by simp)]
 have ht₁:IsTup h₁ t items:=(ht.push _).extBut hs₁.extBut hlt
 have k₁:∀ b o,s.heap.get? b=some o→h₁.get? b=some o:=fun b o e=>hs₁.extBut b o (Nat.ne_of_lt (Heap.lt_size e)) (Heap.get?_push_of_some _ e)
 refine wpAny_bind (wpAny_holding (zh3 (hd.keeps k₁) hit₁ (show Heap.IsTuple h₁ t items from ht₁) (by simp) fun h₂ he₂=>?_))
 simp only[Option.isSome_none,Bool.false_eq_true,if_false]
 exact wpAny_pure (hQ h₂ fun b o hb e=>he₂ b o hb (k₁ b o e))
theorem ze8 {env:Env}{elts:List Expr} {x1}{pos:Pos}{t:Addr}{items:Array Value}{Q:Unit→Shared→Prop} (hd:Hd A s.heap) (ht:IsTup s.heap t items) (hn:(assignEach elts env).length=items.size) (hstar:(assignEach elts env).findIdx? (·.1)=none)
  (h:∀ h',Heap.ExtBut s.heap.objs.size s.heap h'→wpAny (model prog w) A (assignInOrder ((assignEach elts env).map (·.2)) items.toList) Q E { s with heap:=h' }):wpAny (model prog w) A (assign (.Tuple elts x1 pos) env (.ref t)) Q E s:=by
 rw[assign_Tuple]
 refine wpAny_bind (wpAny_standAt ?_)
 unfold unpack
 rw[hn,hstar]
 exact wpAny_bind (wpAny_holding (zi9 hd ht h))
end
end L2
namespace L2
open PySem PySem.Spec PyProof.Rows
abbrev Key:=Sum Int Str
def ze9:Key→Value→Bool
 | .inl k,v=>Value.isInt k v
 | .inr x,v=>Value.isStrOf x v
def keyH (w:World):Key→Int
 | .inl k=>hashInt k
 | .inr x=>hashStr w x
theorem zaB:∀ {k:Key}{v:Value},ze9 k v=true→(∃ i t,k=Sum.inl i∧v=Value.int i t)∨(∃ x t,k=Sum.inr x∧v=Value.str x t)
 | .inl i,v,h=>by
  obtain⟨t,e⟩:=Value.isInt_shape (k:=i) (v:=v) h
  exact .inl ⟨i,t,rfl,e⟩
 | .inr x,v,h=>by
  obtain⟨t,e⟩:=Value.isStrOf_shape (x:=x) (v:=v) h
  exact .inr ⟨x,t,rfl,e⟩
theorem zgw (i:Int) (t:Tok):ze9 (.inl i) (.int i t)=true:=by simp[ze9,Value.isInt]
theorem zgx (x:Str) (t:Tok):ze9 (.inr x) (.str x t)=true:=by simp[ze9,Value.isStrOf]
theorem key_ll (a b:Int):decide ((Sum.inl a:Key)=Sum.inl b)=(a == b):=by
 by_cases e:a=b
 ·subst e;simp
 ·have h:¬ (Sum.inl a:Key)=Sum.inl b:=fun q=>e (Sum.inl.inj q)
  rw[decide_eq_false h]
  exact(beq_eq_false_iff_ne.mpr e).symm
theorem key_rr (a b:Str):decide ((Sum.inr a:Key)=Sum.inr b)=decide (a=b):=by
 by_cases e:a=b
 ·subst e;simp
 ·have h:¬ (Sum.inr a:Key)=Sum.inr b:=fun q=>e (Sum.inr.inj q)
  rw[decide_eq_false h,decide_eq_false e]
theorem key_lr (a:Int) (b:Str):decide ((Sum.inl a:Key)=Sum.inr b)=false:=decide_eq_false (fun q=>nomatch q)
theorem key_rl (a:Str) (b:Int):decide ((Sum.inr a:Key)=Sum.inl b)=false:=decide_eq_false (fun q=>nomatch q)
def zaR (prog:Program) (w:World):PySem.KeyKind prog w Key where
 is:=ze9
 hash:=keyH w
 inj:=fun v a b ha hb=>by
  rcases zaB ha with⟨i,t,rfl,rfl⟩|⟨x,t,rfl,rfl⟩
  ·rcases zaB hb with⟨j,u,rfl,e⟩|⟨y,u,rfl,e⟩
   ·injection e with e1 _;rw[e1]
   ·exact nomatch e
  ·rcases zaB hb with⟨j,u,rfl,e⟩|⟨y,u,rfl,e⟩
   ·exact nomatch e
   ·injection e with e1 _;rw[e1]
 byValue:=fun k v h=>by
  rcases zaB h with⟨i,t,rfl,rfl⟩|⟨x,t,rfl,rfl⟩ <;> rfl
 pyHash:=fun hv h=>by
  rcases zaB hv with⟨i,t,rfl,rfl⟩|⟨x,t,rfl,rfl⟩
  ·exact wpAny_pyHash_int h
  ·exact wpAny_pyHash_str h
 eqBool:=fun hu hv h=>by
  rcases zaB hu with⟨i,t,rfl,rfl⟩|⟨x,t,rfl,rfl⟩
  ·rcases zaB hv with⟨j,u,rfl,rfl⟩|⟨y,u,rfl,rfl⟩
   ·rw[key_ll] at h;exact wpAny_eqBool_int h
   ·rw[key_lr] at h;exact SeqAt.EqAt.int_str i t y u _ _ _ _ h
  ·rcases zaB hv with⟨j,u,rfl,rfl⟩|⟨y,u,rfl,rfl⟩
   ·rw[key_rl] at h;exact SeqAt.EqAt.str_int x t j u _ _ _ _ h
   ·rw[key_rr] at h;exact wpAny_eqBool_str h
 «strs»:=fun k x t v h=>by
  rcases zaB h with⟨i,u,rfl,e⟩|⟨y,u,rfl,e⟩
  ·exact nomatch e
  ·injection e with e1 _
   subst e1
   cases v <;> rfl
theorem zfa (prog:Program) (w:World) (i:Int) (t:Tok):(zaR prog w).is (.inl i) (.int i t)=true:=zgw i t
theorem zfb (prog:Program) (w:World) (x:Str) (t:Tok):(zaR prog w).is (.inr x) (.str x t)=true:=zgx x t
end L2
namespace L2
open PySem PySem.Spec PyProof.Rows
set_option genInjectivity true
inductive V where
 | non | bl (b:Bool) | int (i:Int) | str (x:Str) | byt (b:Array UInt8) | flt (b:UInt64) | ref (a:Addr) | ty (n:String)
 deriving DecidableEq
set_option genInjectivity false
def zaQ:V→Value→Prop
 | .non,u=>u=Value.none
 | .bl b,u=>u=Value.bool b
 | .int i,u=>∃ t,u=Value.int i t
 | .str x,u=>∃ t,u=Value.str x t
 | .byt b,u=>∃ t,u=Value.bytes b t
 | .flt b,u=>∃ t,u=Value.float b t
 | .ref a,u=>u=Value.ref a
 | .ty n,u=>u=Value.type n
abbrev zaK:List V→List Value→Prop:=Paired zaQ
theorem zaK.length {xs:List V}{us:List Value} (r:zaK xs us):xs.length=us.length:=Paired.length r
theorem zaK.get:∀ {xs:List V}{us:List Value}{i:Nat}{x:V},zaK xs us→xs[i]?=some x→∃ u,us[i]?=some u∧zaQ x u
 | _,_,_,_,.nil,e=>by simp at e
 | _,_,0,_,.cons r _,e=>by simp at e;subst e;exact⟨_,rfl,r⟩
 | _,_,i + 1,x,.cons _ t,e=>by
  obtain⟨u,h1,h2⟩:=zaK.get (i:=i) (x:=x) t (by simpa using e)
  exact⟨u,by simpa using h1,h2⟩
theorem zaK.append:∀ {xs ys:List V}{us ws:List Value},zaK xs us→zaK ys ws→zaK (xs++ys) (us++ws)
 | _,_,_,_,.nil,s=>s
 | _,_,_,_,.cons r t,s=>.cons r (zaK.append t s)
theorem zaK.take:∀ {xs:List V}{us:List Value} (n:Nat),zaK xs us→zaK (xs.take n) (us.take n)
 | _,_,0,_=>.nil
 | _,_,_ + 1,.nil=>.nil
 | _,_,n + 1,.cons r t=>.cons r (zaK.take n t)
theorem zaK.drop:∀ {xs:List V}{us:List Value} (n:Nat),zaK xs us→zaK (xs.drop n) (us.drop n)
 | _,_,0,r=>r
 | _,_,_ + 1,.nil=>.nil
 | _,_,n + 1,.cons _ t=>zaK.drop n t
def zex:Option V→Option Value→Prop
 | some v,some u=>zaQ v u
 | none,none=>True
 | _,_=>False
def KV {κ:Type}:List (κ×V)→List (κ×Value)→Prop:=Paired fun(p:κ×V) (q:κ×Value)=>p.1=q.1∧zaQ p.2 q.2
def kV:Key→V
 | .inl i=>.int i
 | .inr x=>.str x
inductive HO where
 | lst (xs:List V)
 | tup (xs:List V)
 | dK (kvs:List (Key×V)) | dT (kvs:List (List Key×V))
 | set (S:Int→Bool) (n:Nat)
 | ins (C dx:Addr) (fs:List (Str×V))
 | own (x:Addr)
 | xd (fs:List (Str×V))
 | met (f x:Addr)
 | rng (lo hi:Int)
 | frz (o:Obj) (u:HO)
 | tbl (pos:Pos) (qual:Str)
 | ext (φ:Heap→Prop)
abbrev Hp:=Addr→Option HO
def upd (H:Hp) (a:Addr) (o:HO):Hp:=fun b=>if b=a then some o else H b
theorem zab {H:Hp}{a:Addr}{o:HO}:upd H a o a=some o:=by unfold upd;rw[if_pos rfl]
theorem zaf {H:Hp}{a b:Addr}{o:HO} (h:b≠a):upd H a o b=H b:=by unfold upd;rw[if_neg h]
theorem zja {H:Hp}{a b:Addr}{o u:HO} (h:H a=some o) (h':H b=some u) (d:o≠u):a≠b:=by
 intro e;subst e;rw[h] at h';exact d (Option.some.inj h')
theorem zai {H:Hp}{a b:Addr}{o:HO} (h:H a=some o) (h':H b=none):a≠b:=by
 intro e;subst e;rw[h] at h';cases h'
section
variable (P:Program) (w:World)
def zbe (H:Hp) (h:Heap) (a:Addr):HO→Prop
 | .lst xs=>xs.length≤sizeLine∧∃ (its:List Value) (n:Nat),zaK xs its∧h.get? a=some { cls:=.type "list",data:=.seq its.toArray n }
 | .tup xs=>xs.length≤sizeLine∧∃ its:List Value,zaK xs its∧IsTup h a its.toArray
 | .dK kvs=>kvs.length≤sizeLine∧(a == sysModules)=false∧∃ vs,KV kvs vs∧h.DictOf (zaR P w) a vs
 | .dT kvs=>kvs.length≤sizeLine∧(a == sysModules)=false∧∃ xs:List (List Key×Addr×Value),
   Paired (fun(p:List Key×V) (q:List Key×Addr×Value)=>p.1=q.1∧H q.2.1=some (.tup (p.1.map kV))∧zaQ p.2 q.2.2) kvs xs ∧
   ∃ o es ep,h.get? a=some o∧o.ExactDict∧o.data=.dict es ep∧es.toList=xs.map (entryOfKey (tupleKind (zaR P w)))∧(xs.map (·.1)).Nodup
 | .set S n=>h.SetOf (intKind P w) a S n
 | .ins C dx fs=>H dx=some (.own a)∧fs.length≤1000∧dx≠a∧h.get? a=some (PySem.W.instObj C dx) ∧
   ∃ mA,h.Ns1 dx mA∧(∀ f,zex (fs.lookup f) (mA f))∧PySem.Within mA (fs.map (·.1))
 | .own _=>∃ o,h.get? a=some o
 | .xd fs=>∃ mA,h.Ns1 a mA∧∀ f,zex (fs.lookup f) (mA f)
 | .rng lo hi=>∃ t u v,h.get? a=some { cls:=.type "range",data:=.fields #[.int lo t,.int hi u,.int 1 v] }
 | .frz o u=>h.get? a=some o∧zbe H h a u
 | .tbl pos qual=>h.get? a=some { cls:=.none,data:=.fields #[] }∨∃ c oc vs t,H c=some (.frz oc (.own a))∧oc.data=.fields vs∧vs[1]?=some (.str qual t)∧h.get? a=some { cls:=.none,data:=.fields #[rawInt pos.line,rawInt pos.col,.ref c] }
 | .met f x=>h.get? a=some (PySem.W.methodObj (.ref f) (.ref x))
 | .ext φ=>φ h∧(∃ o,h.get? a=some o)∧∀ h1 h2:Heap,φ h1→(∀ o,h1.get? a=some o→h2.get? a=some o)→φ h2
def HOk (H:Hp) (h:Heap):Prop:=∀ a o,H a=some o→zbe P w H h a o
end
section
variable {P:Program}{w:World}{H H':Hp}{h h':Heap}{a:Addr}{o:HO}
theorem zbe.lt (x:zbe P w H h a o):a<h.objs.size:=by
 cases o with
 | lst xs=>obtain⟨_,_,_,_,e⟩:=x;exact Heap.lt_size e
 | tup xs=>obtain⟨_,_,_,p⟩:=x;exact p.lt
 | dK kvs=>obtain⟨_,_,_,_,o,_,_,e,_⟩:=x;exact Heap.lt_size e
 | dT kvs=>obtain⟨_,_,_,_,o,_,_,e,_⟩:=x;exact Heap.lt_size e
 | set S n=>obtain⟨o,_,_,_,e,_⟩:=x;exact Heap.lt_size e
 | ins C dx fs=>obtain⟨_,_,_,e,_⟩:=x;exact Heap.lt_size e
 | own y=>obtain⟨_,e⟩:=x;exact Heap.lt_size e
 | xd fs=>obtain⟨_,⟨_,_,_,e,_⟩,_⟩:=x;exact Heap.lt_size e
 | rng lo hi=>obtain⟨_,_,_,e⟩:=x;exact Heap.lt_size e
 | frz ob u=>obtain⟨e,_⟩:=x;exact Heap.lt_size e
 | tbl pos qual=>
  rcases x with e|⟨_,_,_,_,_,_,_,e⟩
  ·exact Heap.lt_size e
  ·exact Heap.lt_size e
 | met f y=>exact Heap.lt_size (show h.get? a=some _ from x)
 | ext φ=>obtain⟨_,⟨_,e⟩,_⟩:=x;exact Heap.lt_size e
theorem Paired.mapP {α β:Type}{F G:α→β→Prop}:∀ {l₁:List α}{l₂:List β},Paired F l₁ l₂→(∀ a b,F a b→G a b)→Paired G l₁ l₂
 | _,_,.nil,_=>.nil
 | _,_,.cons r t,f=>.cons (f _ _ r) (Paired.mapP t f)
theorem zbe.stay (x:zbe P w H h a o) (k:∀ b u,(b=a∨H b=some (.own a))→h.get? b=some u→h'.get? b=some u)
  (ho:∀ b,H b=some (.own a)→H' b=some (.own a)) (ht:∀ b xs,H b=some (.tup xs)→H' b=some (.tup xs)) (hf:∀ b ob,H b=some (.frz ob (.own a))→H' b=some (.frz ob (.own a)):=by exact fun _ _ q=>q):zbe P w H' h' a o:=by
 induction o with
 | lst xs=>obtain⟨z,its,n,r,e⟩:=x;exact⟨z,its,n,r,k _ _ (.inl rfl) e⟩
 | tup xs=>obtain⟨z,its,r,ob,e,c⟩:=x;exact⟨z,its,r,ob,k _ _ (.inl rfl) e,c⟩
 | dK kvs=>obtain⟨z,y,vs,r,ob,es,ep,e,c⟩:=x;exact⟨z,y,vs,r,ob,es,ep,k _ _ (.inl rfl) e,c⟩
 | dT kvs=>
  obtain⟨z,y,xs,r,ob,es,ep,e,c⟩:=x
  exact⟨z,y,xs,Paired.mapP r fun p q z=>⟨z.1,ht _ _ z.2.1,z.2.2⟩,ob,es,ep,k _ _ (.inl rfl) e,c⟩
 | set S n=>obtain⟨ob,es,ep,t,e,c⟩:=x;exact⟨ob,es,ep,t,k _ _ (.inl rfl) e,c⟩
 | ins C dx fs=>
  obtain⟨d,z,ne,e,mA,⟨od,es,ep,e2,c⟩,r⟩:=x
  exact⟨ho _ d,z,ne,k _ _ (.inl rfl) e,mA,⟨od,es,ep,k _ _ (.inr d) e2,c⟩,r⟩
 | own y=>obtain⟨ob,e⟩:=x;exact⟨ob,k _ _ (.inl rfl) e⟩
 | xd fs=>obtain⟨mA,⟨od,es,ep,e,c⟩,r⟩:=x;exact⟨mA,⟨od,es,ep,k _ _ (.inl rfl) e,c⟩,r⟩
 | rng lo hi=>obtain⟨t,u,v,e⟩:=x;exact⟨t,u,v,k _ _ (.inl rfl) e⟩
 | frz ob u ih=>obtain⟨e,q⟩:=x;exact⟨k _ _ (.inl rfl) e,ih q⟩
 | tbl pos qual=>
  rcases x with e|⟨c,oc,vs,t,e1,e2,e3,e⟩
  ·exact .inl (k a _ (.inl rfl) e)
  ·exact .inr ⟨c,oc,vs,t,hf c oc e1,e2,e3,k a _ (.inl rfl) e⟩
 | met f y=>
  have e:h.get? a=some (PySem.W.methodObj (.ref f) (.ref y)):=x
  show h'.get? a=some (PySem.W.methodObj (.ref f) (.ref y))
  exact k a _ (.inl rfl) e
 | ext φ=>obtain⟨p,⟨o,e⟩,st⟩:=x;exact⟨st _ _ p fun o q=>k _ _ (.inl rfl) q,⟨o,k _ _ (.inl rfl) e⟩,st⟩
theorem HOk.lt (x:HOk P w H h) (e:H a=some o):a<h.objs.size:=(x a o e).lt
theorem HOk.fresh (x:HOk P w H h) (e:h.objs.size≤a):H a=none:=by
 cases q:H a with
 | none=>rfl
 | some u=>exact absurd (Nat.lt_of_lt_of_le (x.lt q) e) (Nat.lt_irrefl _)
theorem HOk.kept (x:HOk P w H h) (k:∀ b u,h.get? b=some u→h'.get? b=some u):HOk P w H h':=fun a o e=>
 (x a o e).stay (fun b u _ q=>k b u q) (fun _ q=>q) fun _ _ q=>q
theorem HOk.laid (x:HOk P w H h) (k:∀ b u,h.get? b=some u→h'.get? b=some u) (hp:h.objs.size≤a) (new:zbe P w (upd H a o) h' a o):HOk P w (upd H a o) h':=fun b u e=>by
 have hn:=x.fresh hp
 by_cases hb:b=a
 ·subst hb;rw[zab] at e;cases e;exact new
 ·rw[zaf hb] at e
  exact(x b u e).stay (fun c v _ q=>k c v q) (fun c q=>by rw[zaf (zai q hn)];exact q) (fun c xs q=>by rw[zaf (zai q hn)];exact q) fun c ob q=>by rw[zaf (zai q hn)];exact q
end
def Rd (H:Hp) (a:Addr) (u:HO):Prop:=H a=some u∨∃ o,H a=some (.frz o u)
theorem Rd.ok {P:Program}{w:World}{H:Hp}{h:Heap}{a:Addr}{u:HO} (r:Rd H a u) (x:HOk P w H h):zbe P w H h a u:=by
 rcases r with r|⟨o,r⟩
 ·exact x a u r
 ·obtain⟨_,q⟩:=x a _ r
  exact q
def Mut:Option HO→Prop
 | some (.lst _)=>True
 | some (.dK _)=>True
 | some (.dT _)=>True
 | some (.set _ _)=>True
 | some (.ins _ _ _)=>True
 | some (.ext _)=>True
 | _=>False
section
variable {P:Program}{w:World}{H:Hp}{h h':Heap}{x e:Addr}{o':HO}
theorem HOk.write (ok:HOk P w H h) (mu:Mut (H x)) (he:e=x∨H e=some (.own x)) (k:∀ b u,b≠e→h.get? b=some u→h'.get? b=some u) (heo:∃ u,h'.get? e=some u)
  (new:zbe P w (upd H x o') h' x o'):HOk P w (upd H x o') h':=fun b u q=>by
 have nown:∀ c y,H c=some (.own y)→c≠x:=fun c y r z=>by subst z;rw[r] at mu;exact mu
 have ntup:∀ c xs,H c=some (.tup xs)→c≠x:=fun c xs r z=>by subst z;rw[r] at mu;exact mu
 by_cases hb:b=x
 ·subst hb;rw[zab] at q;cases q;exact new
 ·rw[zaf hb] at q
  by_cases hbe:b=e
  ·have q':H b=some (.own x):=by
    rcases he with z|z
    ·exact absurd (hbe.trans z) hb
    ·rw[hbe];exact z
   rw[q] at q';cases q'
   obtain⟨v,hv⟩:=heo
   exact⟨v,by rw[hbe];exact hv⟩
  ·refine(ok b u q).stay (fun c v hc r=>k c v ?_ r) (fun c r=>by rw[zaf (nown c b r)];exact r) (fun c xs r=>by rw[zaf (ntup c xs r)];exact r) fun c ob r=>by rw[zaf (fun z=>by subst z;rw[r] at mu;exact mu)];exact r
   rcases hc with rfl|hc
   ·exact hbe
   ·rintro rfl
    rcases he with z|z
    ·exact nown c b hc z
    ·rw[hc] at z;cases z;exact hb rfl
end
structure Un (fs ex:List Addr) (H H':Hp) (h h':Heap):Prop where
 keep:∀ b o,h.get? b=some o→H b=none→b∉fs→b∉ex→h'.get? b=some o
 slot:∀ b o,h.get? b=some o→H b=none→b∈fs→b∉ex→∃ sl,h'.get? b=some { o with slots:=sl }
 free:∀ b o,h.get? b=some o→H b=none→b∉ex→H' b=none
 there:∀ b o,h.get? b=some o→b∉ex→∃ o',h'.get? b=some o'
 tups:∀ b xs,H b=some (.tup xs)→H' b=some (.tup xs)
 frzs:∀ b o u,H b=some (.frz o u)→H' b=some (.frz o u)
 tbls:∀ b p q,H b=some (.tbl p q)→H' b=some (.tbl p q)
section
variable {fs fs' ex ex':List Addr}{H H1 H2:Hp}{h h1 h2 h':Heap}{a x e:Addr}{o:HO}
theorem Un.any (u:Un fs ex H H1 h h1){b:Addr}{ob:Obj} (q:h.get? b=some ob) (n:H b=none) (hx:b∉ex):∃ sl,h1.get? b=some { ob with slots:=sl }:=by
 by_cases hb:b∈fs
 ·exact u.slot b ob q n hb hx
 ·exact⟨ob.slots,u.keep b ob q n hb hx⟩
theorem Un.trans (a:Un fs ex H H1 h h1) (b:Un fs ex H1 H2 h1 h2):Un fs ex H H2 h h2 where
 keep:=fun c ob q n hc hx=>b.keep c ob (a.keep c ob q n hc hx) (a.free c ob q n hx) hc hx
 slot:=fun c ob q n hc hx=>by
  obtain⟨sl,e1⟩:=a.slot c ob q n hc hx
  obtain⟨sl',e2⟩:=b.slot c _ e1 (a.free c ob q n hx) hc hx
  exact⟨sl',e2⟩
 free:=fun c ob q n hx=>by
  obtain⟨o',e1⟩:=a.there c ob q hx
  exact b.free c o' e1 (a.free c ob q n hx) hx
 there:=fun c ob q hx=>by
  obtain⟨o',e1⟩:=a.there c ob q hx
  exact b.there c o' e1 hx
 tups:=fun c xs q=>b.tups c xs (a.tups c xs q)
 frzs:=fun c ob xs q=>b.frzs c ob xs (a.frzs c ob xs q)
 tbls:=fun c p q z=>b.tbls c p q (a.tbls c p q z)
theorem Un.kept (k:∀ b u,h.get? b=some u→h'.get? b=some u):Un fs ex H H h h':=
 ⟨fun b ob q _ _ _=>k b ob q,fun b ob q _ _ _=>⟨ob.slots,k b ob q⟩,fun _ _ _ n _=>n,fun b ob q _=>⟨ob,k b ob q⟩,fun _ _ q=>q,fun _ _ _ q=>q,fun _ _ _ q=>q⟩
theorem Un.refl:Un fs ex H H h h:=Un.kept fun _ _ q=>q
theorem Un.laid (k:∀ b u,h.get? b=some u→h'.get? b=some u) (hp:h.objs.size≤a) (hn:H a=none):Un fs ex H (upd H a o) h h' where
 keep:=fun b u q _ _ _=>k b u q
 slot:=fun b u q _ _ _=>⟨u.slots,k b u q⟩
 free:=fun b u q n _=>by rw[zaf (Nat.ne_of_lt (Nat.lt_of_lt_of_le (Heap.lt_size q) hp))];exact n
 there:=fun b u q _=>⟨u,k b u q⟩
 tups:=fun b xs q=>by rw[zaf (zai q hn)];exact q
 frzs:=fun b u xs q=>by rw[zaf (zai q hn)];exact q
 tbls:=fun b p r q=>by rw[zaf (zai q hn)];exact q
theorem Un.write (mu:Mut (H x)) (he:e=x∨H e=some (.own x)) (k:∀ b u,b≠e→h.get? b=some u→h'.get? b=some u) (heo:∃ u,h'.get? e=some u):Un fs ex H (upd H x o) h h':=by
 have hx:∀ b,H b=none→b≠x:=fun b n z=>by subst z;rw[n] at mu;exact mu
 have hb:∀ b,H b=none→b≠e:=fun b n z=>by
  subst z
  rcases he with r|r
  ·exact hx b n r
  ·rw[n] at r;cases r
 have hm:∀ b u,H b=some u→¬ Mut (some u)→b≠x:=fun b u q nm z=>by subst z;rw[q] at mu;exact nm mu
 refine⟨fun b u q n _ _=>k b u (hb b n) q,fun b u q n _ _=>⟨u.slots,k b u (hb b n) q⟩,fun b u q n _=>by rw[zaf (hx b n)];exact n,fun b u q _=>?_,
  fun b xs q=>by rw[zaf (hm b _ q fun z=>z)];exact q,fun b u xs q=>by rw[zaf (hm b _ q fun z=>z)];exact q,fun b p r q=>by rw[zaf (hm b _ q fun z=>z)];exact q⟩
 by_cases hbe:b=e
 ·subst hbe;exact heo
 ·exact⟨u,k b u hbe q⟩
end
def trk (h:Heap) (H:Hp):List Addr:=(List.range h.objs.size).filter fun a=>(H a).isSome
def ziL (h:Heap) (H:Hp):Heap:=PySem.W.hideAll h (trk h H)
theorem zgy (h:Heap) (H:Hp):(ziL h H).objs.size=h.objs.size:=PySem.W.hideAll_size _ _
theorem zee {h:Heap}{H:Hp}{b:Addr}{o:Obj} (e:h.get? b=some o) (n:H b=none):(ziL h H).get? b=some o:=
 PySem.W.hideAll_get _ e fun hm=>by
  have q:(H b).isSome=true:=(List.mem_filter.mp hm).2
  rw[n] at q;simp at q
theorem zjb {h:Heap}{H:Hp}{b:Addr}{o:Obj} (e:(ziL h H).get? b=some o):h.get? b=some o∧H b=none:=by
 have e':h.get? b=some o:=PySem.W.of_hideAll (trk h H) e
 refine⟨e',?_⟩
 cases q:H b with
 | none=>rfl
 | some x=>
  have hm:b∈trk h H:=List.mem_filter.mpr ⟨List.mem_range.mpr (Heap.lt_size e'),by simp[q]⟩
  have z:(ziL h H).get? b=none:=PySem.W.hideAll_none (trk h H) hm
  rw[z] at e;cases e
def zjc (g h:Heap) (L:Addr):List (Addr×Obj):=(List.range h.objs.size).filterMap fun a=>if a=L∨(g.get? a).isSome=true then none else(h.get? a).map fun o=>(a,o)
def zbt (g h:Heap) (L d:Addr):List (Addr×Obj):=(zjc g h L).filter fun p=>decide (p.1≠d)
end L2
namespace L2
open PySem PySem.Spec PyProof.Rows
structure Mod (K:PySem.W.Frag) (mg:Str→Option Value) (base:Heap):Prop where
 kin:K.In base
 glob:base.Ns mainGlobals mg
 blt:∃ mb,base.Ns builtinsNs mb∧∀ x:Str,x≠"__name__"→mb x=bootBuiltins x
 nolimit:base.NoLimit
 bmain:∃ bm ob,mg "__builtins__"=some (.ref bm)∧bm≠builtinsNs∧base.get? bm=some ob∧ob.cls=.type "module"∧ob.dict=some builtinsNs∧ob.data=.plain
structure Cx where
 prog:Program
 w:World
 K:PySem.W.Frag
 mg:Str→Option Value
 base:Heap
 A:Around
 N:List Str
 s₀:Shared
 H₀:Hp
 env:Env
 outer:List Env
 stack:List Env
 ex:List Addr
 fn:Str→Bool
 calm:Bool
 pn:List (Addr×Obj)
 xe:Value→Shared→Prop
def frs (l:List Env):List Addr:=l.filterMap (·.frame)
abbrev Cx.fs (X:Cx):List Addr:=frs X.outer
def Vis (sc:Scope) (x:Str):Prop:=sc.names.lookup x=some .local∨sc.names.lookup x=some .cell∨sc.names.lookup x=some .free
def Loc (sc:Scope) (x:Str):Prop:=sc.names.lookup x=some .local∨sc.names.lookup x=some .cell
def Look (env:Env) (h:Heap) (m:Str→Option Value) (x:Str) (u:Value):Prop:=
 (env.kindOf x=some .local∧m x=some u)∨((env.kindOf x=some .cell∨env.kindOf x=some .free)∧∃ c,env.cells.lookup x=some c∧h.IsCell c (some u))
def zgz (H:Hp) (cs:List Addr):Prop:=cs.Nodup∧∀ j a,cs[j]?=some a→∃ o u vs,H a=some (.frz o u)∧o.data=.fields vs∧vs[2]?=some (nxt cs (j + 1))
def zgA (A:Around) (H:Hp):Prop:=A.handled=none∨∃ a cs,A.handled=some (.ref a)∧zgz H (a::cs)
structure Cx.Ok (X:Cx):Prop where
 mod:Mod X.K X.mg X.base
 kind:X.env.scope.kind=.function
 glob:X.env.globals=mainGlobals
 blt:X.env.builtins=builtinsNs
 above:X.s₀.heap.objs.size≤X.env.locals
 inj:∀ x y c,X.env.cells.lookup x=some c→X.env.cells.lookup y=some c→x=y
 has:∀ x,(X.env.kindOf x=some .cell∨X.env.kindOf x=some .free)→∃ c,X.env.cells.lookup x=some c
 cab:∀ x c,X.fn x=true→X.env.cells.lookup x=some c→X.s₀.heap.objs.size≤c
 hd:zgA X.A X.H₀
 frames:X.A.frames=some X.stack
 stk:X.stack=X.outer∨(X.stack=X.env::X.outer∧X.env.frame=some X.env.locals)
 exf:∀ b∈X.ex,b≠X.env.locals∧∀ x c,X.env.cells.lookup x=some c→c≠b
 bs:∀ b o,X.base.get? b=some o→X.s₀.heap.get? b=some o∧X.H₀ b=none
 bsz:X.base.objs.size≤X.s₀.heap.objs.size
 noex:∀ b o,X.base.get? b=some o→b∉X.ex
 exfs:∀ b∈X.ex,b∉X.fs
 funs:X.s₀.heap.FunFrames X.base X.outer
 frf:∀ b∈X.fs,X.H₀ b=none
structure Inv (X:Cx) (pins:List (Addr×Obj)) (σ:List (Option V)) (H:Hp) (s:Shared):Prop where
 ok:X.Ok
 os:s.os=X.s₀.os
 bare:AllBare s.gens
 base:Un X.fs X.ex X.H₀ H X.s₀.heap s.heap
 loc:∃ m,s.heap.Ns X.env.locals m∧∀ (i:Nat) (x:Str) (v:V),X.N[i]?=some x→σ[i]?=some (some v)→Vis X.env.scope x→∃ u,zaQ v u∧Look X.env s.heap m x u
 cell:∀ x c,X.env.cells.lookup x=some c→∃ v,s.heap.IsCell c v
 free:H X.env.locals=none
 freeC:∀ x c,X.env.cells.lookup x=some c→H c=none
 pin:∀ p∈X.pn++pins,s.heap.get? p.1=some p.2∧H p.1=none∧p.1≠X.env.locals∧p.1∉X.fs∧∀ v,p.2.data≠.cell v
 hok:HOk X.prog X.w H s.heap
 len:σ.length=X.N.length
section
variable {X:Cx}{pins:List (Addr×Obj)}{σ:List (Option V)}{H H':Hp}{s:Shared}{h':Heap}
theorem Cx.Ok.nofr (ok:X.Ok){b:Addr}{o:Obj} (e:X.base.get? b=some o):b∉X.fs:=fun hb=>by
 have:=(ok.funs.mem hb).1
 rw[e] at this;cases this
theorem Inv.bs (I:Inv X pins σ H s):∀ b o,X.base.get? b=some o→s.heap.get? b=some o∧H b=none:=fun b o e=>
 ⟨I.base.keep b o (I.ok.bs b o e).1 (I.ok.bs b o e).2 (I.ok.nofr e) (I.ok.noex b o e),I.base.free b o (I.ok.bs b o e).1 (I.ok.bs b o e).2 (I.ok.noex b o e)⟩
theorem Inv.bk (I:Inv X pins σ H s):∀ b o,X.base.get? b=some o→s.heap.get? b=some o:=fun b o e=>(I.bs b o e).1
theorem Inv.mod (I:Inv X pins σ H s):Mod X.K X.mg X.base:=I.ok.mod
theorem Inv.kIn (I:Inv X pins σ H s):X.K.In s.heap:=I.ok.mod.kin.keeps I.bk
theorem zgz.mono {cs:List Addr} (c:zgz H cs) (k:∀ b o u,H b=some (.frz o u)→H' b=some (.frz o u)):zgz H' cs:=⟨c.1,fun j a hj=>by
 obtain⟨o,u,vs,h,r⟩:=c.2 j a hj
 exact⟨o,u,vs,k a o u h,r⟩⟩
theorem zgz.chn {cs:List Addr}{P:Program}{w:World}{h:Heap} (c:zgz H cs) (k:HOk P w H h):Chn h cs:=⟨c.1,fun j a hj=>by
 obtain⟨o,u,vs,q,r⟩:=c.2 j a hj
 obtain⟨z,_⟩:=k a _ q
 exact⟨o,vs,z,r⟩⟩
theorem zgz.not_mem {cs:List Addr}{b:Addr} (c:zgz H cs) (hb:H b=none):b∉cs:=fun z=>by
 obtain⟨j,hj⟩:=List.mem_iff_getElem?.mp z
 obtain⟨o,u,vs,q,_⟩:=c.2 j b hj
 rw[hb] at q;cases q
theorem zgA.mono {A:Around} (x:zgA A H) (k:∀ b o u,H b=some (.frz o u)→H' b=some (.frz o u)):zgA A H':=by
 rcases x with e|⟨a,cs,e,c⟩
 ·exact .inl e
 ·exact .inr ⟨a,cs,e,c.mono k⟩
theorem Inv.hdAt (I:Inv X pins σ H s):zgA X.A H:=I.ok.hd.mono I.base.frzs
theorem zgA.hd {A:Around}{P:Program}{w:World}{h:Heap} (x:zgA A H) (k:HOk P w H h):Hd A h:=by
 rcases x with e|⟨a,cs,e,c⟩
 ·exact .inl e
 ·exact .inr ⟨a,cs,e,c.chn k⟩
theorem zgA.new {A:Around}{p:Addr}{u:HO} (x:zgA A H) (hn:H p=none):zgA A (upd H p u):=x.mono fun b o v q=>by rw[zaf (zai q hn)];exact q
theorem Inv.hd (I:Inv X pins σ H s):Hd X.A s.heap:=I.hdAt.hd I.hok
theorem Inv.lt (I:Inv X pins σ H s):X.env.locals<s.heap.objs.size:=let ⟨_,hn,_⟩:=I.loc;hn.lt
theorem Inv.sz (I:Inv X pins σ H s):X.s₀.heap.objs.size≤s.heap.objs.size:=Nat.le_trans I.ok.above (Nat.le_of_lt I.lt)
theorem Inv.nofs (I:Inv X pins σ H s){a:Addr} (h:s.heap.objs.size≤a):a∉X.fs:=fun hb=>by
 obtain⟨_,o,ho,_⟩:=I.ok.funs.mem hb
 exact absurd (Nat.lt_of_lt_of_le (Heap.lt_size ho) (Nat.le_trans I.sz h)) (Nat.lt_irrefl _)
theorem Inv.cne (I:Inv X pins σ H s):∀ x c,X.env.cells.lookup x=some c→c≠X.env.locals:=fun x c e z=>by
 obtain⟨v,o,ho,hd⟩:=I.cell x c e
 obtain⟨m,⟨o',es,ep,ho',hd',_⟩,_⟩:=I.loc
 rw[z,ho'] at ho;cases ho;rw[hd'] at hd;cases hd
theorem Inv.funs (I:Inv X pins σ H s):s.heap.FunFrames X.base X.outer:=by
 have all:∀ (l:List Env),(∀ b∈frs l,b∈X.fs)→X.s₀.heap.FunFrames X.base l→s.heap.FunFrames X.base l:=by
  intro l
  induction l with
  | nil=>intro _ _;trivial
  | cons env r ih=>
   intro hs hl
   obtain⟨hk,⟨L,o,hf,hn,ho,hd⟩,hr⟩:=hl
   have hL:L∈X.fs:=hs L (by unfold frs;rw[List.filterMap_cons,hf];exact List.mem_cons_self)
   obtain⟨sl,e⟩:=I.base.slot L o ho (I.ok.frf L hL) hL fun z=>I.ok.exfs L z hL
   exact⟨hk,⟨L,_,hf,hn,e,hd⟩,ih (fun b hb=>hs b (by unfold frs;rw[List.filterMap_cons,hf];exact List.mem_cons_of_mem _ hb)) hr⟩
 exact all X.outer (fun _ hb=>hb) I.ok.funs
theorem Inv.stack (I:Inv X pins σ H s):s.heap.FunFrames X.base X.stack:=by
 rcases I.ok.stk with e|⟨e,hf⟩
 ·rw[e];exact I.funs
 ·rw[e]
  obtain⟨m,hn,_⟩:=I.loc
  refine .cons (by rw[I.ok.kind];decide) hf hn ?_ I.funs
  exact Heap.get?_none_of_le (Nat.le_trans I.ok.bsz I.ok.above)
theorem Inv.stkSub (I:Inv X pins σ H s):∀ b∈frs X.stack,b∈X.env.locals::X.fs:=fun b hb=>by
 rcases I.ok.stk with e|⟨e,hf⟩
 ·rw[e] at hb;exact List.mem_cons_of_mem _ hb
 ·rw[e] at hb
  unfold frs at hb
  rw[List.filterMap_cons,hf] at hb
  exact hb
theorem Inv.stkFree (I:Inv X pins σ H s):∀ b∈frs X.stack,H b=none:=fun b hb=>by
 rcases List.mem_cons.mp (I.stkSub b hb) with e|hb
 ·rw[e];exact I.free
 ·obtain⟨_,o,ho,_⟩:=I.ok.funs.mem hb
  exact I.base.free b o ho (I.ok.frf b hb) fun z=>I.ok.exfs b z hb
theorem Inv.step {g':Array GenState}{t':Nat}{d':Drawn}{ch:List Addr} (I:Inv X pins σ H s)
  (hch:∀ b∈ch,(b∈X.ex∨X.s₀.heap.objs.size≤b)∧b≠X.env.locals∧(∀ x c,X.env.cells.lookup x=some c→c≠b)∧∀ p∈X.pn++pins,p.1≠b)
  (keep:∀ b o,b≠X.env.locals→b∉X.fs→b∉ch→s.heap.get? b=some o→H b=none→h'.get? b=some o)
  (slot:∀ b o,b≠X.env.locals→b∈X.fs→b∉ch→s.heap.get? b=some o→H b=none→∃ sl,h'.get? b=some { o with slots:=sl }) (free:∀ b o,b∉ch→s.heap.get? b=some o→H b=none→H' b=none)
  (there:∀ b o,b∉ch→s.heap.get? b=some o→∃ o',h'.get? b=some o')
  (tups:∀ b xs,H b=some (.tup xs)→H' b=some (.tup xs)) (frzs:∀ b o u,H b=some (.frz o u)→H' b=some (.frz o u)) (tbls:∀ b p q,H b=some (.tbl p q)→H' b=some (.tbl p q))
  (ns:∀ m,s.heap.Ns X.env.locals m→h'.Ns X.env.locals m) (hok:HOk X.prog X.w H' h') (hg:AllBare g') :
  Inv X pins σ H' { s with heap:=h',gens:=g',drawn:=d',toks:=t' }:=by
 have neL:∀ b o,X.s₀.heap.get? b=some o→b≠X.env.locals:=fun b o e=>Nat.ne_of_lt (Nat.lt_of_lt_of_le (Heap.lt_size e) I.ok.above)
 have neC:∀ b o,X.s₀.heap.get? b=some o→b∉X.ex→b∉ch:=fun b o e hx hb=>by
  rcases(hch b hb).1 with z|z
  ·exact hx z
  ·exact absurd (Nat.lt_of_lt_of_le (Heap.lt_size e) z) (Nat.lt_irrefl _)
 have cellK:∀ x c,X.env.cells.lookup x=some c→∀ v,s.heap.IsCell c v→h'.IsCell c v:=fun x c e v ⟨o,ho,hd⟩=>by
  have nch:c∉ch:=fun z=>(hch c z).2.2.1 x c e rfl
  by_cases hc:c∈X.fs
  ·obtain⟨sl,q⟩:=slot c o (I.cne x c e) hc nch ho (I.freeC x c e)
   exact⟨_,q,hd⟩
  ·exact⟨o,keep c o (I.cne x c e) hc nch ho (I.freeC x c e),hd⟩
 refine⟨I.ok,I.os,hg,⟨fun b o e n hb hx=>?_,fun b o e n hb hx=>?_,fun b o e n hx=>?_,fun b o e hx=>?_,fun b xs e=>tups b xs (I.base.tups b xs e),fun b o xs e=>frzs b o xs (I.base.frzs b o xs e),fun b p q e=>tbls b p q (I.base.tbls b p q e)⟩,?_,fun x c e=>?_,?_,fun x c e=>?_,fun p hp=>?_,hok,I.len⟩
 ·exact keep b o (neL b o e) hb (neC b o e hx) (I.base.keep b o e n hb hx) (I.base.free b o e n hx)
 ·obtain⟨sl,e1⟩:=I.base.slot b o e n hb hx
  obtain⟨sl',e2⟩:=slot b _ (neL b o e) hb (neC b o e hx) e1 (I.base.free b o e n hx)
  exact⟨sl',e2⟩
 ·obtain⟨o',e1⟩:=I.base.there b o e hx
  exact free b o' (neC b o e hx) e1 (I.base.free b o e n hx)
 ·obtain⟨o',e1⟩:=I.base.there b o e hx
  exact there b o' (neC b o e hx) e1
 ·obtain⟨m,hn,hl⟩:=I.loc
  refine⟨m,ns m hn,fun i x v e1 e2 e3=>?_⟩
  obtain⟨u,r,l⟩:=hl i x v e1 e2 e3
  refine⟨u,r,?_⟩
  rcases l with l|⟨k,c,e,z⟩
  ·exact .inl l
  ·exact .inr ⟨k,c,e,cellK x c e _ z⟩
 ·obtain⟨v,z⟩:=I.cell x c e
  exact⟨v,cellK x c e v z⟩
 ·obtain⟨m,⟨o,_,_,ho,_⟩,_⟩:=I.loc
  exact free _ o (fun z=>(hch _ z).2.1 rfl) ho I.free
 ·obtain⟨v,o,ho,hd⟩:=I.cell x c e
  exact free c o (fun z=>(hch c z).2.2.1 x c e rfl) ho (I.freeC x c e)
 ·obtain⟨e,n,ne,nf,d⟩:=I.pin p hp
  have nch:p.1∉ch:=fun z=>(hch p.1 z).2.2.2 p hp rfl
  exact⟨keep p.1 p.2 ne nf nch e n,free p.1 p.2 nch e n,ne,nf,d⟩
theorem Inv.un {t':Nat} (I:Inv X pins σ H s) (u:Un X.fs [] H H' s.heap h') (hok:HOk X.prog X.w H' h'):Inv X pins σ H' { s with heap:=h',toks:=t' }:=by
 obtain⟨m,⟨o,es,ep,ho,r⟩,_⟩:=id I.loc
 obtain⟨sl,hL⟩:=u.any ho I.free (by simp)
 exact I.step (g':=s.gens) (d':=s.drawn) (ch:=[]) (fun _ z=>nomatch z) (fun b o _ hb _ e n=>u.keep b o e n hb (by simp)) (fun b o _ hb _ e n=>u.slot b o e n hb (by simp)) (fun b o _ e n=>u.free b o e n (by simp)) (fun b o _ e=>u.there b o e (by simp)) u.tups u.frzs u.tbls (fun m' hm=>by
  obtain⟨o',es',ep',ho',r'⟩:=hm
  rw[ho] at ho';cases ho'
  exact⟨_,es',ep',hL,r'⟩) hok I.bare
theorem Inv.call {g':Array GenState}{t':Nat}{d':Drawn}{ch:List Addr} (I:Inv X pins σ H s) (u:Un (frs X.stack) ch H H' s.heap h') (hok:HOk X.prog X.w H' h') (hg:AllBare g')
  (hch:∀ b∈ch,(b∈X.ex∨X.s₀.heap.objs.size≤b)∧b≠X.env.locals∧(∀ x c,X.env.cells.lookup x=some c→c≠b)∧∀ p∈X.pn++pins,p.1≠b) :
  Inv X pins σ H' { s with heap:=h',gens:=g',drawn:=d',toks:=t' }:=by
 obtain⟨m,⟨o,es,ep,ho,r⟩,_⟩:=id I.loc
 obtain⟨sl,hL⟩:=u.any ho I.free fun z=>(hch _ z).2.1 rfl
 exact I.step (ch:=ch) hch (fun b o hL hb hc e n=>u.keep b o e n (fun z=>(List.mem_cons.mp (I.stkSub b z)).elim hL hb) hc) (fun b o _ _ hc e n=>u.any e n hc) (fun b o hc e n=>u.free b o e n hc) (fun b o hc e=>u.there b o e hc) u.tups u.frzs u.tbls (fun m' hm=>by
  obtain⟨o',es',ep',ho',r'⟩:=hm
  rw[ho] at ho';cases ho'
  exact⟨_,es',ep',hL,r'⟩) hok hg
theorem Inv.turned {t':Nat}{it:Addr} (I:Inv X pins σ H s) (k:∀ b o,b≠it→s.heap.get? b=some o→h'.get? b=some o) (hn:H it=none) (hL:it≠X.env.locals)
  (h1:it∈X.ex∨X.s₀.heap.objs.size≤it) (h2:∀ x c,X.env.cells.lookup x=some c→c≠it) (h3:∀ p∈X.pn++pins,p.1≠it):Inv X pins σ H { s with heap:=h',toks:=t' }:=by
 have nit:∀ b u,H b=some u→b≠it:=fun b u e z=>by rw[z,hn] at e;cases e
 refine I.step (g':=s.gens) (d':=s.drawn) (ch:=[it]) (fun b hb=>?_) (fun b o _ _ hc e _=>k b o (fun z=>hc (by simp[z])) e) (fun b o _ _ hc e _=>⟨o.slots,k b o (fun z=>hc (by simp[z])) e⟩) (fun _ _ _ _ n=>n)
  (fun b o hc e=>⟨o,k b o (fun z=>hc (by simp[z])) e⟩) (fun _ _ e=>e) (fun _ _ _ e=>e) (fun _ _ _ e=>e) (fun m hm=>?_) (fun b u e=>?_) I.bare
 ·have e:b=it:=by simpa using hb
  subst e
  exact⟨h1,hL,h2,h3⟩
 ·obtain⟨o,es,ep,ho,r⟩:=hm
  exact⟨o,es,ep,k _ o (Ne.symm hL) ho,r⟩
 ·refine(I.hok b u e).stay (fun c v hc q=>k c v ?_ q) (fun _ q=>q) fun _ _ q=>q
  rcases hc with z|z
  ·rw[z];exact nit b u e
  ·exact nit c _ z
theorem Inv.tok (I:Inv X pins σ H s) (t:Nat):Inv X pins σ H { s with toks:=t }:=I.un (h':=s.heap) (t':=t) Un.refl I.hok
theorem Inv.kept {t':Nat} (I:Inv X pins σ H s) (k:∀ b u,s.heap.get? b=some u→h'.get? b=some u):Inv X pins σ H { s with heap:=h',toks:=t' }:=I.un (Un.kept k) (I.hok.kept k)
theorem Inv.laid {a:Addr}{o:HO}{t':Nat} (I:Inv X pins σ H s) (k:∀ b u,s.heap.get? b=some u→h'.get? b=some u) (hp:s.heap.objs.size≤a) (new:zbe X.prog X.w (upd H a o) h' a o) :
  Inv X pins σ (upd H a o) { s with heap:=h',toks:=t' }:=I.un (Un.laid k hp (I.hok.fresh hp)) (I.hok.laid k hp new)
theorem Inv.write {x e:Addr}{o:HO}{t':Nat} (I:Inv X pins σ H s) (mu:Mut (H x)) (he:e=x∨H e=some (.own x)) (k:∀ b u,b≠e→s.heap.get? b=some u→h'.get? b=some u) (heo:∃ u,h'.get? e=some u)
  (new:zbe X.prog X.w (upd H x o) h' x o):Inv X pins σ (upd H x o) { s with heap:=h',toks:=t' }:=I.un (Un.write mu he k heo) (I.hok.write mu he k heo new)
theorem Inv.pins_of {pins':List (Addr×Obj)} (I:Inv X pins σ H s) (h:∀ p∈pins',s.heap.get? p.1=some p.2∧H p.1=none∧p.1≠X.env.locals∧p.1∉X.fs∧∀ v,p.2.data≠.cell v):Inv X pins' σ H s:=
 ⟨I.ok,I.os,I.bare,I.base,I.loc,I.cell,I.free,I.freeC,fun p hp=>(List.mem_append.mp hp).elim (fun z=>I.pin p (List.mem_append_left _ z)) (h p),I.hok,I.len⟩
theorem zef {N:List Str} (hN:N.Nodup){i j:Nat}{x:Str} (a:N[i]?=some x) (b:N[j]?=some x):i=j:=by
 obtain⟨h1,e1⟩:=List.getElem?_eq_some_iff.mp a
 obtain⟨h2,e2⟩:=List.getElem?_eq_some_iff.mp b
 exact(List.getElem_inj hN).mp (e1.trans e2.symm)
theorem zey {M:Model}{A:Around}{E:Value→Shared→Prop}{i:Nat}{x:Str}{v:V}{u:Value}{Q:Unit→Shared→Prop} (I:Inv X pins σ H s) (hN:X.N.Nodup) (hi:X.N[i]?=some x) (hx:Loc X.env.scope x) (r:zaQ v u)
  (h:∀ s',Inv X pins (σ.set i (some v)) H s'→(∃ a,Heap.SameBut a s.heap s'.heap∧(a=X.env.locals∨X.env.cells.lookup x=some a))→Q () s') (hf:X.fn x=true∨X.env.scope.names.lookup x=some .local:=by first|exact .inl rfl|exact .inr rfl|assumption):wpAny M A (storeName X.env x u) Q E s:=by
 obtain⟨m,hn,hl⟩:=id I.loc
 have hcls:(X.env.scope.kind == .class || (X.env.scope.kind == .module && X.env.locals != X.env.globals))=false:=by rw[I.ok.kind];rfl
 have hiσ:i<σ.length:=by rw[I.len];exact(List.getElem?_eq_some_iff.mp hi).1
 have cne:=I.cne
 have tracked:∀ {a:Addr}{h':Heap},(∃ o,s.heap.get? a=some o∧H a=none)→Heap.SameBut a s.heap h'→HOk X.prog X.w H h':=fun {a h'} ha hs b ob e=>by
  obtain⟨_,_,hfree⟩:=ha
  refine(I.hok b ob e).stay (fun c w' hc q=>(hs.2 c ?_).trans q) (fun _ q=>q) fun _ _ q=>q
  rintro rfl
  rcases hc with rfl|hc
  ·rw[hfree] at e;cases e
  ·rw[hfree] at hc;cases hc
 rcases hx with hk|hk
 ·refine wpAny_storeName_local hk hn (fun h' hn' hs=>?_) hcls
  obtain⟨oL,_,_,hoL,_⟩:=id hn
  refine h _ ⟨I.ok,I.os,I.bare,⟨fun b o e n hb hx=>?_,fun b o e n hb hx=>?_,I.base.free,fun b o e hx=>?_,I.base.tups,I.base.frzs,I.base.tbls⟩,⟨_,hn',fun j y v' e1 e2 e3=>?_⟩,fun y c e=>?_,I.free,I.freeC,fun p hp=>?_,tracked ⟨oL,hoL,I.free⟩ hs,by simpa using I.len⟩ ⟨_,hs,.inl rfl⟩
  ·exact(hs.2 b (Nat.ne_of_lt (Nat.lt_of_lt_of_le (Heap.lt_size e) I.ok.above))).trans (I.base.keep b o e n hb hx)
  ·obtain⟨sl,e1⟩:=I.base.slot b o e n hb hx
   exact⟨sl,(hs.2 b (Nat.ne_of_lt (Nat.lt_of_lt_of_le (Heap.lt_size e) I.ok.above))).trans e1⟩
  ·obtain⟨o',e1⟩:=I.base.there b o e hx
   exact⟨o',(hs.2 b (Nat.ne_of_lt (Nat.lt_of_lt_of_le (Heap.lt_size e) I.ok.above))).trans e1⟩
  ·by_cases hj:j=i
   ·subst hj
    rw[hi] at e1;cases e1
    rw[List.getElem?_set_self hiσ] at e2
    cases e2
    exact⟨u,r,.inl ⟨hk,by simp⟩⟩
   ·rw[List.getElem?_set_ne (Ne.symm hj)] at e2
    obtain⟨u',r',q⟩:=hl j y v' e1 e2 e3
    refine⟨u',r',?_⟩
    rcases q with⟨k,e⟩|⟨k,c,e,z⟩
    ·refine .inl ⟨k,?_⟩
     have:y≠x:=fun e=>hj (zef hN e1 (e ▸ hi))
     simp[this,e]
    ·exact .inr ⟨k,c,e,z.sameBut hs (cne y c e)⟩
  ·obtain⟨w',z⟩:=I.cell y c e
   exact⟨w',z.sameBut hs (cne y c e)⟩
  ·obtain⟨e,n,ne,nf,d⟩:=I.pin p hp
   exact⟨(hs.2 p.1 ne).trans e,n,ne,nf,d⟩
 ·have hfn:X.fn x=true:=by
   rcases hf with z|z
   ·exact z
   ·rw[z] at hk;cases hk
  obtain⟨c,hc⟩:=I.ok.has x (.inl hk)
  obtain⟨w',z⟩:=I.cell x c hc
  refine wpAny_storeName_cell I.ok.kind hk hc z (fun h' hc' hs=>?_)
  obtain⟨oc,hoc,hocd⟩:=id z
  refine h { s with heap:=h' } ⟨I.ok,I.os,I.bare,⟨fun b o e n hb hx=>?_,fun b o e n hb hx=>?_,I.base.free,fun b o e hx=>?_,I.base.tups,I.base.frzs,I.base.tbls⟩,⟨m,hn.sameBut hs (Ne.symm (cne x c hc)),fun j y v' e1 e2 e3=>?_⟩,fun y c' e=>?_,I.free,I.freeC,fun p hp=>?_,tracked ⟨oc,hoc,I.freeC x c hc⟩ hs,by simpa using I.len⟩ ⟨c,hs,.inr hc⟩
  ·exact(hs.2 b (Nat.ne_of_lt (Nat.lt_of_lt_of_le (Heap.lt_size e) (I.ok.cab x c hfn hc)))).trans (I.base.keep b o e n hb hx)
  ·obtain⟨sl,e1⟩:=I.base.slot b o e n hb hx
   exact⟨sl,(hs.2 b (Nat.ne_of_lt (Nat.lt_of_lt_of_le (Heap.lt_size e) (I.ok.cab x c hfn hc)))).trans e1⟩
  ·obtain⟨o',e1⟩:=I.base.there b o e hx
   exact⟨o',(hs.2 b (Nat.ne_of_lt (Nat.lt_of_lt_of_le (Heap.lt_size e) (I.ok.cab x c hfn hc)))).trans e1⟩
  ·by_cases hj:j=i
   ·subst hj
    rw[hi] at e1;cases e1
    rw[List.getElem?_set_self hiσ] at e2
    cases e2
    exact⟨u,r,.inr ⟨.inl hk,c,hc,hc'⟩⟩
   ·rw[List.getElem?_set_ne (Ne.symm hj)] at e2
    obtain⟨u',r',q⟩:=hl j y v' e1 e2 e3
    refine⟨u',r',?_⟩
    rcases q with q|⟨k,c',e,z'⟩
    ·exact .inl q
    ·refine .inr ⟨k,c',e,z'.sameBut hs ?_⟩
     rintro rfl
     exact hj (zef hN e1 (I.ok.inj _ _ _ e hc ▸ hi))
  ·by_cases hcc:c'=c
   ·subst hcc;exact⟨_,hc'⟩
   ·obtain⟨w2,z2⟩:=I.cell y c' e
    exact⟨w2,z2.sameBut hs hcc⟩
  ·obtain⟨e,n,ne,nf,d⟩:=I.pin p hp
   refine⟨(hs.2 p.1 ?_).trans e,n,ne,nf,d⟩
   intro q
   rw[q,hoc] at e
   have q':oc=p.2:=Option.some.inj e
   exact d w' (by rw[← q'];exact hocd)
theorem zc4 {M:Model}{A:Around}{E:Value→Shared→Prop}{i:Nat}{x:Str}{v:V}{u:Value}{Q:Unit→Shared→Prop} (I:Inv X pins σ H s) (hN:X.N.Nodup) (hi:X.N[i]?=some x) (hx:Loc X.env.scope x) (r:zaQ v u)
  (h:∀ s',Inv X pins (σ.set i (some v)) H s'→Q () s') (hf:X.fn x=true∨X.env.scope.names.lookup x=some .local:=by first|exact .inl rfl|exact .inr rfl|assumption):wpAny M A (storeName X.env x u) Q E s:=
 zey I hN hi hx r (fun s' I' _=>h s' I') hf
theorem Inv.call' {s':Shared}{ch:List Addr} (I:Inv X pins σ H s) (ho:s'.os=s.os) (u:Un (frs X.stack) ch H H' s.heap s'.heap) (hok:HOk X.prog X.w H' s'.heap) (hg:AllBare s'.gens)
  (hch:∀ b∈ch,(b∈X.ex∨X.s₀.heap.objs.size≤b)∧b≠X.env.locals∧(∀ x c,X.env.cells.lookup x=some c→c≠b)∧∀ p∈X.pn++pins,p.1≠b):Inv X pins σ H' s':=by
 obtain⟨h',g',d',t',o'⟩:=s'
 have e:o'=s.os:=ho
 subst e
 exact I.call (g':=g') (t':=t') (d':=d') u hok hg hch
end
abbrev XK:=Value→Option Addr→Hp→Prop
abbrev St:=List (Option V)
abbrev VK:=V→Hp→Prop
abbrev TE:=St→Hp→VK→Prop
abbrev TT:=St→Hp→(Bool→Hp→Prop)→Prop
abbrev TA:=St→Hp→(List V→Hp→Prop)→Prop
structure ze7 where
 nx:St→Hp→Prop
 rt:VK
 bk:St→Hp→Prop:=fun _ _=>False
 ct:St→Hp→Prop:=fun _ _=>False
abbrev TS:=ze7→St→Hp→Prop
def EP (X:Cx) (pins:List (Addr×Obj)) (σ:St) (Q:VK) (u:Value) (s':Shared):Prop:=∃ v H',Inv X pins σ H' s'∧zaQ v u∧Q v H'
def TP (X:Cx) (pins:List (Addr×Obj)) (σ:St) (Q:Bool→Hp→Prop) (b:Bool) (s':Shared):Prop:=∃ H',Inv X pins σ H' s'∧Q b H'
def AP (X:Cx) (pins:List (Addr×Obj)) (σ:St) (Q:List V→Hp→Prop) (us:List Value) (s':Shared):Prop:=∃ vs H',Inv X pins σ H' s'∧zaK vs us∧Q vs H'
def SP (X:Cx) (pins:List (Addr×Obj)) (D:ze7) (f:Flow) (s':Shared):Prop:=
 match f with
 | .next=>∃ σ' H',Inv X pins σ' H' s'∧D.nx σ' H'
 | .brk=>∃ σ' H',Inv X pins σ' H' s'∧D.bk σ' H'
 | .cont=>∃ σ' H',Inv X pins σ' H' s'∧D.ct σ' H'
 | .ret u=>∃ v σ' H',Inv X pins σ' H' s'∧zaQ v u∧D.rt v H'
def PE (X:Cx) (e:Expr) (t:TE):Prop:=
 ∀ (pins:List (Addr×Obj)) (s:Shared) (σ:St) (H:Hp) (Q:VK),Inv X pins σ H s→t σ H Q→wpAny (model X.prog X.w) X.A (eval e X.env) (EP X pins σ Q) X.xe s
def PT (X:Cx) (e:Expr) (t:TT):Prop:=
 ∀ (pins:List (Addr×Obj)) (s:Shared) (σ:St) (H:Hp) (Q:Bool→Hp→Prop),Inv X pins σ H s→t σ H Q→wpAny (model X.prog X.w) X.A (isTrue e X.env (eval e X.env)) (TP X pins σ Q) X.xe s
def PW (X:Cx) (e:Expr) (t:TT):Prop:=
 ∀ (whole:Sem Value) (pins:List (Addr×Obj)) (s:Shared) (σ:St) (H:Hp) (Q:Bool→Hp→Prop),Inv X pins σ H s→t σ H Q→wpAny (model X.prog X.w) X.A (isTrue e X.env whole) (TP X pins σ Q) X.xe s
theorem PW.pt {X:Cx}{e:Expr}{t:TT} (h:PW X e t):PT X e t:=h _
def PA (X:Cx) (es:List Expr) (t:TA):Prop:=
 ∀ (pos:Pos) (pins:List (Addr×Obj)) (s:Shared) (σ:St) (H:Hp) (Q:List V→Hp→Prop),Inv X pins σ H s→t σ H Q→wpAny (model X.prog X.w) X.A (spliced (backTo pos (starEach es X.env))) (AP X pins σ Q) X.xe s
def PS (X:Cx) (st:Stmt) (t:TS):Prop:=
 ∀ (pins:List (Addr×Obj)) (s:Shared) (σ:St) (H:Hp) (D:ze7),Inv X pins σ H s→t D σ H→wpAny (model X.prog X.w) X.A (exec st X.env) (SP X pins D) X.xe s
def PSs (X:Cx) (st:List Stmt) (t:TS):Prop:=
 ∀ (pins:List (Addr×Obj)) (s:Shared) (σ:St) (H:Hp) (D:ze7),Inv X pins σ H s→t D σ H→wpAny (model X.prog X.w) X.A (execs st X.env) (SP X pins D) X.xe s
theorem thn {α:Type}{t:Sem α}{Q Q':α→Shared→Prop}{M:Model}{A:Around}{E:Value→Shared→Prop}{s:Shared} (h:wpAny M A t Q E s) (hQ:∀ a s,Q a s→Q' a s):wpAny M A t Q' E s:=wpAny_mono h hQ fun _ _ x=>x
end L2
namespace L2
open PySem PySem.Spec PyProof.Rows
section
variable {X:Cx}
def tVar (i:Nat):TE:=fun σ H Q=>∃ v,σ[i]?=some (some v)∧Q v H
def tC (v:V):TE:=fun _ H Q=>Q v H
theorem pe_var {i:Nat}{x:Str}{pos:Pos} (hN:X.N[i]?=some x) (hv:Vis X.env.scope x) (hd:(x == ("__debug__":Str))=false:=by decide) (hcd:(x == ("__classdict__":Str))=false:=by decide):PE X (.Name x pos) (tVar i):=by
 intro pins s σ H Q I h
 obtain⟨v,e,h⟩:=h
 obtain⟨m,hn,hl⟩:=I.loc
 obtain⟨u,r,l⟩:=hl i x v hN e hv
 have fin:EP X pins σ Q u s:=⟨v,H,I,r,h⟩
 rcases l with⟨hk,hm⟩|⟨hk,c,hc,hcell⟩
 ·exact wpAny_Name (wpAny_loadName_local I.ok.kind hk hn hm fin) hd
 ·rcases hk with hk|hk
  ·exact wpAny_Name (wpAny_loadName_cell I.ok.kind hk hc hcell fin) hd
  ·exact wpAny_Name (wpAny_loadName_free I.ok.kind hk hc hcell fin hcd) hd
theorem zah {i j pos}:PE X (.Constant (.int i) j pos) (tC (.int i)):=fun _ _ _ H _ I h=>wpAny_Constant_int ⟨.int i,H,I.tok _,⟨_,rfl⟩,h⟩
theorem zgB {b j pos}:PE X (.Constant (.bool b) j pos) (tC (.bl b)):=fun _ _ _ H _ I h=>Constant_bool ⟨.bl b,H,I,rfl,h⟩
theorem ziM {j pos}:PE X (.Constant .none j pos) (tC .non):=fun _ _ _ H _ I h=>Constant_none ⟨.non,H,I,rfl,h⟩
theorem zaX {x j pos}:PE X (.Constant (.str x) j pos) (tC (.str x)):=fun _ _ _ H _ I h=>Calls.Constant_str ⟨.str x,H,I.tok _,⟨_,rfl⟩,h⟩
def Gl (X:Cx) (x:Str):Prop:=X.env.kindOf x=some .globalImplicit
theorem zcL {E:Value→Shared→Prop}{pins:List (Addr×Obj)}{s:Shared}{σ:St}{H:Hp}{x:Str}{u:Value}{pos:Pos}{Q:Value→Shared→Prop} (I:Inv X pins σ H s) (hg:Gl X x) (hm:X.mg x=some u) (h:Q u s)
  (hd:(x == ("__debug__":Str))=false:=by decide):wpAny (model X.prog X.w) X.A (eval (.Name x pos) X.env) Q E s:=
 Calls.Name_function_global I.ok.kind hg (Calls.loadGlobal_global (by rw[I.ok.glob];exact I.mod.glob.keeps I.bk) hm h) hd
theorem zez {E:Value→Shared→Prop}{pins:List (Addr×Obj)}{s:Shared}{σ:St}{H:Hp}{x:Str}{u:Value}{pos:Pos}{Q:Value→Shared→Prop} (I:Inv X pins σ H s) (hg:Gl X x) (hm:X.mg x=none) (hv:bootBuiltins x=some u) (h:Q u s)
  (hn:x≠"__name__":=by decide) (hd:(x == ("__debug__":Str))=false:=by decide):wpAny (model X.prog X.w) X.A (eval (.Name x pos) X.env) Q E s:=by
 obtain⟨mb,h1,h2⟩:=I.mod.blt
 exact Calls.Name_function_global I.ok.kind hg (Calls.loadGlobal_builtin (by rw[I.ok.glob];exact I.mod.glob.keeps I.bk) hm (by rw[I.ok.blt];exact h1.keeps I.bk) ((h2 x hn).trans hv) h) hd
theorem zfc {x:Str}{v:V}{u:Value}{pos:Pos} (hg:Gl X x) (hm:X.mg x=some u) (r:zaQ v u) (hd:(x == ("__debug__":Str))=false:=by decide):PE X (.Name x pos) (tC v):=
 fun _ _ _ H _ I h=>zcL I hg hm ⟨v,H,I,r,h⟩ hd
theorem zjd {x:Str}{v:V}{u:Value}{pos:Pos} (hg:Gl X x) (hm:X.mg x=none) (hv:bootBuiltins x=some u) (r:zaQ v u) (hn:x≠"__name__":=by decide) (hd:(x == ("__debug__":Str))=false:=by decide):PE X (.Name x pos) (tC v):=
 fun _ _ _ H _ I h=>zez I hg hm hv ⟨v,H,I,r,h⟩ hn hd
variable {a b:Expr}{ta tb:TE}{pos:Pos}
def PC (X:Cx) (op:CmpOp) (a b:Expr) (t:TE):Prop:=
 ∀ (pins:List (Addr×Obj)) (s:Shared) (σ:St) (H:Hp) (Q:VK),Inv X pins σ H s→t σ H Q →
  wpAny (model X.prog X.w) X.A (eval a X.env) (fun v s₁=>wpAny (model X.prog X.w) X.A (eval b X.env) (fun u s₂=>wpAny (model X.prog X.w) X.A (compareOp op v u) (EP X pins σ Q) X.xe s₂) X.xe s₁) X.xe s
theorem zh4 (b:Expr){op:CmpOp} (h:op≠.In) (h2:op≠.NotIn):behindInMarks op b=false:=by
 have e1:(op == CmpOp.In)=false:=by cases op <;> first|rfl|exact absurd rfl h
 have e2:(op == CmpOp.NotIn)=false:=by cases op <;> first|rfl|exact absurd rfl h2
 cases b <;> simp[behindInMarks,e1,e2]
def tIsN (ta:TE):TE:=fun σ H Q=>ta σ H fun x H1=>Q (.bl (decide (x=.non))) H1
theorem zaQ.none_iff {x:V}{v:Value} (r:zaQ x v):(v == Value.none)=decide (x=.non):=by
 cases x with
 | non=>cases r;rfl
 | bl _=>cases r;rfl
 | int _=>obtain⟨t,rfl⟩:=r;rfl
 | str _=>obtain⟨t,rfl⟩:=r;rfl
 | byt _=>obtain⟨t,rfl⟩:=r;rfl
 | flt _=>obtain⟨t,rfl⟩:=r;rfl
 | ref _=>cases r;rfl
 | ty _=>cases r;rfl
theorem pc_isN {j pos'} (ha:PE X a ta):PC X .Is a (.Constant .none j pos') (tIsN ta):=by
 intro pins s σ H Q I h
 refine thn (ha pins s σ H _ I h) fun v s1=>L2.ex5 fun x H1 I1 r1 q1=>?_
 exact Constant_none (is_none_gen ⟨.bl _,H1,I1,by rw[r1.none_iff];rfl,q1⟩)
def tB (t:TE):TT:=fun σ H Q=>t σ H fun x H1=>∃ c,x=.bl c∧Q c H1
theorem pe_cmp {op:CmpOp}{t:TE} (h:PC X op a b t) (h1:behindInMarks op b=false:=by first|exact zh4 _ (by decide) (by decide)|rfl):PE X (.Compare a [op] [b] pos) t:=fun pins s σ H Q I hw=>wpAny_Compare1 (h pins s σ H Q I hw) h1
theorem zdW {e:Expr}{t:TE} (h:PE X e t) (he:∀ whole,isTrue e X.env whole=(do let v ← whole;standAt e.pos;holding [v] (truthy v)):=by intro _;rfl):PT X e (tB t):=by
 intro pins s σ H Q I hw
 refine isTrue_plain (thn (h pins s σ H _ I hw) fun v s1=>L2.ex5 fun x H1 I1 r1 q1=>?_) (he _)
 obtain⟨d,rfl,q⟩:=q1
 cases r1
 exact wpAny_truthy_bool ⟨H1,I1,q⟩
variable {tA tB':TT}{zbt:List Expr}
def tAnd (t u:TT):TT:=fun σ H Q=>t σ H fun c H1=>if c=true then u σ H1 Q else Q false H1
def tOr (t u:TT):TT:=fun σ H Q=>t σ H fun c H1=>if c=true then Q true H1 else u σ H1 Q
def tNot (t:TT):TT:=fun σ H Q=>t σ H fun c H1=>Q (!c) H1
theorem zfd (ha:PT X a tA):PW X (.BoolOp .And [a] pos) tA:=by
 intro wh pins s σ H Q I h
 refine isTrue_and (thn (ha pins s σ H Q I h) fun c s1 e=>?_)
 cases c with
 | true=>exact isTrue_and_nil e
 | false=>exact e
theorem zde (ha:PT X a tA):PW X (.BoolOp .Or [a] pos) tA:=by
 intro wh pins s σ H Q I h
 refine isTrue_or (thn (ha pins s σ H Q I h) fun c s1 e=>?_)
 cases c with
 | false=>exact isTrue_or_nil e
 | true=>exact e
theorem zgC (ha:PT X a tA) (hb:PW X (.BoolOp .And (b::zbt) pos) tB'):PW X (.BoolOp .And (a::b::zbt) pos) (tAnd tA tB'):=by
 intro wh pins s σ H Q I h
 refine isTrue_and (thn (ha pins s σ H _ I h) fun c s1=>L2.ex3 fun H1 I1 q1=>?_)
 cases c with
 | true=>exact hb wh pins s1 σ H1 Q I1 q1
 | false=>exact⟨H1,I1,q1⟩
theorem zeA (ha:PT X a tA) (hb:PW X (.BoolOp .Or (b::zbt) pos) tB'):PW X (.BoolOp .Or (a::b::zbt) pos) (tOr tA tB'):=by
 intro wh pins s σ H Q I h
 refine isTrue_or (thn (ha pins s σ H _ I h) fun c s1=>L2.ex3 fun H1 I1 q1=>?_)
 cases c with
 | true=>exact⟨H1,I1,q1⟩
 | false=>exact hb wh pins s1 σ H1 Q I1 q1
theorem zfy (ha:PT X a tA):PT X (.UnaryOp .Not a pos) (tNot tA):=by
 intro pins s σ H Q I h
 exact isTrue_not (ha pins s σ H (fun c H1=>Q (!c) H1) I h)
def tAndV (ta tb:TE):TE:=fun σ H Q=>ta σ H fun x H1=>∃ c,x=.bl c∧if c=true then tb σ H1 Q else Q (.bl false) H1
def tOrV (ta tb:TE):TE:=fun σ H Q=>ta σ H fun x H1=>∃ c,x=.bl c∧if c=true then Q (.bl true) H1 else tb σ H1 Q
def tNotV (ta:TE):TE:=fun σ H Q=>ta σ H fun x H1=>∃ c,x=.bl c∧Q (.bl (!c)) H1
theorem zfz {op}{t:TE} (h:PE X a t):PE X (.BoolOp op [a] pos) t:=fun pins s σ H Q I hw=>BoolOp_one (h pins s σ H Q I hw)
theorem zfA (ha:PE X a ta) (hb:PE X (.BoolOp .And (b::zbt) pos) tb):PE X (.BoolOp .And (a::b::zbt) pos) (tAndV ta tb):=by
 intro pins s σ H Q I h
 refine BoolOp_and (thn (ha pins s σ H _ I h) fun v s1=>L2.ex5 fun x H1 I1 r1 q1=>?_)
 obtain⟨c,rfl,q1⟩:=q1
 cases r1
 refine wpAny_truthy_bool ?_
 cases c with
 | true=>exact hb pins s1 σ H1 Q I1 q1
 | false=>exact⟨.bl false,H1,I1,rfl,q1⟩
theorem pe_or (ha:PE X a ta) (hb:PE X (.BoolOp .Or (b::zbt) pos) tb):PE X (.BoolOp .Or (a::b::zbt) pos) (tOrV ta tb):=by
 intro pins s σ H Q I h
 refine BoolOp_or (thn (ha pins s σ H _ I h) fun v s1=>L2.ex5 fun x H1 I1 r1 q1=>?_)
 obtain⟨c,rfl,q1⟩:=q1
 cases r1
 refine wpAny_truthy_bool ?_
 cases c with
 | false=>exact hb pins s1 σ H1 Q I1 q1
 | true=>exact⟨.bl true,H1,I1,rfl,q1⟩
theorem pe_not (ha:PE X a ta):PE X (.UnaryOp .Not a pos) (tNotV ta):=by
 intro pins s σ H Q I h
 refine UnaryOp_ (thn (ha pins s σ H _ I h) fun v s1=>L2.ex5 fun x H1 I1 r1 q1=>?_)
 obtain⟨c,rfl,q1⟩:=q1
 cases r1
 exact not_of (wpAny_truthy_bool ⟨.bl (!c),H1,I1,rfl,q1⟩)
end
end L2
namespace L2
open PySem PySem.Spec PyProof.Rows
def SqL (K:PySem.W.Frag) (H:Hp) (a:Addr) (xs:List V):Prop:=
 Rd H a (.lst xs) ∨
  ∃ (o:Obj) (its:Array Value) (n:Nat),K.lookup a=some o∧o.cls=.type "list"∧o.dict=none∧o.data=.seq its n∧its.size≤sizeLine∧zaK xs its.toList
def SqT (K:PySem.W.Frag) (H:Hp) (a:Addr) (xs:List V):Prop:=
 Rd H a (.tup xs) ∨
  ∃ (o:Obj) (its:Array Value) (n:Nat),K.lookup a=some o∧o.cls=.type "tuple"∧o.data=.seq its n∧its.size≤sizeLine∧zaK xs its.toList
def absV:Value→Option V
 | .none=>some .non
 | .bool b=>some (.bl b)
 | .int i _=>some (.int i)
 | .str x _=>some (.str x)
 | .bytes b _=>some (.byt b)
 | .float b _=>some (.flt b)
 | .ref a=>some (.ref a)
 | .type n=>some (.ty n)
 | _=>none
theorem zaQ.abs {x:V}{u:Value} (r:zaQ x u):absV u=some x:=by
 cases x with
 | non=>cases r;rfl
 | bl _=>cases r;rfl
 | int _=>obtain⟨t,rfl⟩:=r;rfl
 | str _=>obtain⟨t,rfl⟩:=r;rfl
 | byt _=>obtain⟨t,rfl⟩:=r;rfl
 | flt _=>obtain⟨t,rfl⟩:=r;rfl
 | ref _=>cases r;rfl
 | ty _=>cases r;rfl
theorem zaQ.inj {x y:V}{u:Value} (r:zaQ x u) (q:zaQ y u):x=y:=Option.some.inj (r.abs.symm.trans q.abs)
theorem zaK.inj:∀ {xs ys:List V}{us:List Value},zaK xs us→zaK ys us→xs=ys
 | _,_,_,.nil,.nil=>rfl
 | _,_,_,.cons r t,.cons r' t'=>by rw[r.inj r',zaK.inj t t']
section
variable {X:Cx}{pins:List (Addr×Obj)}{σ:St}{H:Hp}{s:Shared}{a:Addr}{xs ys:List V}
theorem SqL.of {K:PySem.W.Frag} (h:H a=some (.lst xs)):SqL K H a xs:=.inl (.inl h)
theorem SqT.of {K:PySem.W.Frag} (h:H a=some (.tup xs)):SqT K H a xs:=.inl (.inl h)
theorem Inv.list (I:Inv X pins σ H s) (h:SqL X.K H a xs):∃ its:List Value,zaK xs its∧PlainL s.heap a its.toArray∧xs.length≤sizeLine:=by
 rcases h with h|⟨o,its,n,hk,hc,hd,hs,hz,r⟩
 ·obtain⟨z,its,n,r,e⟩:=h.ok I.hok
  exact⟨its,r,⟨_,n,e,rfl,rfl,rfl⟩,z⟩
 ·refine⟨its.toList,r,⟨o,n,I.kIn a o hk,hc,hd,by simpa using hs⟩,?_⟩
  have e:=r.length
  simp only[Array.length_toList] at e
  omega
theorem Inv.tuple (I:Inv X pins σ H s) (h:SqT X.K H a xs):∃ its:List Value,zaK xs its∧IsTup s.heap a its.toArray∧xs.length≤sizeLine:=by
 rcases h with h|⟨o,its,n,hk,hc,hs,hz,r⟩
 ·obtain⟨z,its,r,p⟩:=h.ok I.hok
  exact⟨its,r,p,z⟩
 ·refine⟨its.toList,r,⟨o,I.kIn a o hk,hc,n,by simpa using hs⟩,?_⟩
  have e:=r.length
  simp only[Array.length_toList] at e
  omega
theorem Inv.list_inj (I:Inv X pins σ H s) (h:SqL X.K H a xs) (h':SqL X.K H a ys):xs=ys:=by
 obtain⟨its,r,⟨o,n,e,_,_,d⟩,_⟩:=I.list h
 obtain⟨its',r',⟨o',n',e',_,_,d'⟩,_⟩:=I.list h'
 rw[e] at e';cases e'
 rw[d] at d'
 injection d' with d1 _
 have:its=its':=by simpa using congrArg Array.toList d1
 subst this
 exact r.inj r'
theorem Inv.tuple_inj (I:Inv X pins σ H s) (h:SqT X.K H a xs) (h':SqT X.K H a ys):xs=ys:=by
 obtain⟨its,r,⟨o,e,_,n,d⟩,_⟩:=I.tuple h
 obtain⟨its',r',⟨o',e',_,n',d'⟩,_⟩:=I.tuple h'
 rw[e] at e';cases e'
 rw[d] at d'
 injection d' with d1 _
 have:its=its':=by simpa using congrArg Array.toList d1
 subst this
 exact r.inj r'
end
abbrev Cx.wish (X:Cx) (E:Value→Shared→Prop):Cx:={ X with xe:=E }
abbrev Cx.nox (X:Cx):Cx:=X.wish fun _ _=>False
theorem Cx.Ok.wish {X:Cx} (ok:X.Ok) (E:Value→Shared→Prop):(X.wish E).Ok:=
 ⟨ok.mod,ok.kind,ok.glob,ok.blt,ok.above,ok.inj,ok.has,ok.cab,ok.hd,ok.frames,ok.stk,ok.exf,ok.bs,ok.bsz,ok.noex,ok.exfs,ok.funs,ok.frf⟩
theorem Cx.Ok.unwish {X:Cx}{E:Value→Shared→Prop} (ok:(X.wish E).Ok):X.Ok:=
 ⟨ok.mod,ok.kind,ok.glob,ok.blt,ok.above,ok.inj,ok.has,ok.cab,ok.hd,ok.frames,ok.stk,ok.exf,ok.bs,ok.bsz,ok.noex,ok.exfs,ok.funs,ok.frf⟩
section
variable {X:Cx}{pins:List (Addr×Obj)}{σ:St}{H:Hp}{s:Shared}{E:Value→Shared→Prop}
theorem Inv.wish (I:Inv X pins σ H s) (E:Value→Shared→Prop):Inv (X.wish E) pins σ H s:=⟨I.ok.wish E,I.os,I.bare,I.base,I.loc,I.cell,I.free,I.freeC,I.pin,I.hok,I.len⟩
theorem Inv.unwish (I:Inv (X.wish E) pins σ H s):Inv X pins σ H s:=⟨I.ok.unwish,I.os,I.bare,I.base,I.loc,I.cell,I.free,I.freeC,I.pin,I.hok,I.len⟩
theorem SP.unwish {D:ze7}{f:Flow}{s':Shared} (h:SP (X.wish E) pins D f s'):SP X pins D f s':=by
 cases f with
 | next=>obtain⟨σ',H',I,q⟩:=h;exact⟨σ',H',I.unwish,q⟩
 | brk=>obtain⟨σ',H',I,q⟩:=h;exact⟨σ',H',I.unwish,q⟩
 | cont=>obtain⟨σ',H',I,q⟩:=h;exact⟨σ',H',I.unwish,q⟩
 | ret u=>obtain⟨v,σ',H',I,r,q⟩:=h;exact⟨v,σ',H',I.unwish,r,q⟩
theorem PSs.nox {st:List Stmt}{t:TS} (h:PSs X.nox st t):PSs X st t:=fun pins s σ H D I hw=>
 wpAny_mono (h pins s σ H D (I.wish _) hw) (fun _ _ q=>q.unwish) fun _ _ z=>False.elim z
end
section
variable {X:Cx}{st:Stmt}{zbt:List Stmt}{t u:TS}{e:Expr}{te:TE}{pos:Pos}
def tNext:TS:=fun D σ H=>D.nx σ H
def tSeq (t u:TS):TS:=fun D σ H=>t { D with nx:=u D } σ H
theorem zaC:PSs X [] tNext:=fun _ _ σ H _ I h=>wpAny_execs_nil ⟨σ,H,I,h⟩
theorem zac (h1:PS X st t) (h2:PSs X zbt u):PSs X (st::zbt) (tSeq t u):=by
 intro pins s σ H D I h
 refine wpAny_execs_cons (thn (h1 pins s σ H { D with nx:=u D } I h) fun f s1 q=>?_)
 cases f with
 | next=>
  obtain⟨σ',H',I',q⟩:=q
  exact h2 pins s1 σ' H' D I' q
 | ret v=>exact q
 | brk=>exact q
 | cont=>exact q
theorem zae (h1:PS X st t):PSs X [st] t:=by
 intro pins s σ H D I h
 refine wpAny_execs_cons (thn (h1 pins s σ H D I h) fun f s1 q=>?_)
 cases f with
 | next=>exact wpAny_execs_nil q
 | ret v=>exact q
 | brk=>exact q
 | cont=>exact q
theorem Inv.quiet {pins:List (Addr×Obj)}{σ:St}{H:Hp}{s:Shared} (I:Inv X pins σ H s):interactive X.env=false:=by simp[interactive,I.ok.kind]
def tDrop (te:TE):TS:=fun D σ H=>te σ H fun _ H1=>D.nx σ H1
theorem za3 (he:PE X e te) (hs:swapsWith e none pos.line X.env=pure false:=by rfl):PS X (.Expr e pos) (tDrop te):=by
 intro pins s σ H D I h
 exact wpAny_Expr_any (thn (he pins s σ H _ I h) fun v s1=>L2.ex5 fun x H1 I1 r1 q1=>⟨σ,H1,I1,q1⟩) I.quiet hs
def tRet (te:TE):TS:=fun D σ H=>te σ H D.rt
theorem zap (he:PE X e te):PS X (.Return (some e) pos) (tRet te):=by
 intro pins s σ H D I h
 exact wpAny_Return_some (thn (he pins s σ H _ I h) fun v s1=>L2.ex5 fun x H1 I1 r1 q1=>⟨x,σ,H1,I1,r1,q1⟩)
def tIfS (c:TT) (t u:TS):TS:=fun D σ H=>c σ H fun b H1=>if b=true then t D σ H1 else u D σ H1
theorem zbJ {c:Expr}{a b:List Stmt}{tc:TT} (hc:PT X c tc) (ha:PSs X a t) (hb:PSs X b u):PS X (.If c a b pos) (tIfS tc t u):=by
 intro pins s σ H D I h
 refine wpAny_If (thn (hc pins s σ H _ I h) fun d s1=>L2.ex3 fun H1 I1 q1=>?_)
 cases d with
 | true=>exact ha pins s1 σ H1 D I1 q1
 | false=>exact hb pins s1 σ H1 D I1 q1
end
abbrev TG:=V→St→Hp→(St→Hp→Prop)→Prop
abbrev TGs:=List V→St→Hp→(St→Hp→Prop)→Prop
def PG (X:Cx) (target:Expr) (t:TG):Prop:=
 ∀ (pins:List (Addr×Obj)) (s:Shared) (σ:St) (H:Hp) (v:V) (u:Value) (Q:St→Hp→Prop),Inv X pins σ H s→zaQ v u→t v σ H Q →
  wpAny (model X.prog X.w) X.A (assign target X.env u) (fun _ s'=>∃ σ' H',Inv X pins σ' H' s'∧Q σ' H') X.xe s
def PGs (X:Cx) (ts:List Expr) (t:TGs):Prop:=
 ∀ (pins:List (Addr×Obj)) (s:Shared) (σ:St) (H:Hp) (vs:List V) (us:List Value) (Q:St→Hp→Prop),Inv X pins σ H s→zaK vs us→t vs σ H Q →
  wpAny (model X.prog X.w) X.A (assignInOrder ((assignEach ts X.env).map (·.2)) us) (fun _ s'=>∃ σ' H',Inv X pins σ' H' s'∧Q σ' H') X.xe s
abbrev TIp:=V→V→Hp→VK→Prop
def PIp (X:Cx) (op:Operator) (t:TIp):Prop:=
 ∀ (pins:List (Addr×Obj)) (s:Shared) (σ:St) (H:Hp) (x y:V) (v u:Value) (Q:VK),Inv X pins σ H s→zaQ x v→zaQ y u→t x y H Q →
  wpAny (model X.prog X.w) X.A (inplaceOp op v u) (EP X pins σ Q) X.xe s
section
variable {X:Cx}{pos:Pos}
def zaI (i:Nat):TG:=fun v σ H Q=>Q (σ.set i (some v)) H
theorem zal {i:Nat}{x:Str} (hN:X.N.Nodup) (hi:X.N[i]?=some x) (hx:Loc X.env.scope x) (hf:X.fn x=true∨X.env.scope.names.lookup x=some .local:=by first|exact .inl rfl|exact .inr rfl|assumption):PG X (.Name x pos) (zaI i):=by
 intro pins s σ H v u Q I r h
 exact wpAny_assign_Name (zc4 I hN hi hx r (fun s' I'=>⟨_,H,I',h⟩) hf)
def gNil:TGs:=fun vs σ H Q=>vs=[]∧Q σ H
def gCons (t:TG) (u:TGs):TGs:=fun vs σ H Q=>∃ v r,vs=v::r∧t v σ H fun σ' H'=>u r σ' H' Q
theorem zbm:PGs X [] gNil:=by
 intro pins s σ H vs us Q I r h
 obtain⟨e,h⟩:=h
 subst e
 cases r
 exact assignInOrder_nil ⟨σ,H,I,h⟩
theorem zar {e:Expr}{es:List Expr}{t:TG}{u:TGs} (h1:PG X e t) (h2:PGs X es u)
  (hs:(assignEach (e::es) X.env).map (·.2)=assign e X.env::(assignEach es X.env).map (·.2):=by rfl):PGs X (e::es) (gCons t u):=by
 intro pins s σ H vs us Q I r h
 obtain⟨v,vr,e1,h⟩:=h
 subst e1
 cases r with
 | cons r rr=>
  rw[hs]
  refine assignInOrder_cons (thn (h1 pins s σ H _ _ _ I r h) fun _ s1=>L2.ex4 fun σ1 H1 I1 q1=>?_)
  exact h2 pins s1 σ1 H1 _ _ Q I1 rr q1
def gTup (K:PySem.W.Frag) (n:Nat) (t:TGs):TG:=fun v σ H Q=>∃ a xs,v=.ref a∧SqT K H a xs∧xs.length=n∧t xs σ H Q
theorem zcq {es:List Expr}{k:Nat}{t:TGs}{n:Nat} (hc:X.calm=true) (h:PGs X es t)
  (hn:(assignEach es X.env).length=n:=by rfl) (hst:(assignEach es X.env).findIdx? (·.1)=none:=by rfl):PG X (.Tuple es k pos) (gTup X.K n t):=by
 intro pins s σ H v u Q I r hw
 obtain⟨a,xs,e1,hq,hl,hw⟩:=hw
 subst e1
 cases r
 obtain⟨its,rv,ht,hz⟩:=I.tuple hq
 refine ze8 I.hd ht (by simp[hn,← hl,rv.length]) hst fun h' hx=>?_
 have I1:Inv X pins σ H { s with heap:=h' }:=I.kept (t':=s.toks) fun b o e=>hx b o (Nat.ne_of_lt (Heap.lt_size e)) e
 exact h pins _ σ H xs _ Q I1 (by simpa using rv) hw
def tAsg (te:TE) (g:TG):TS:=fun D σ H=>te σ H fun x H1=>g x σ H1 D.nx
theorem ps_asg {tg e:Expr}{te:TE}{g:TG} (he:PE X e te) (hg:PG X tg g) (hs:swapsWithSole [tg] e pos.line X.env=pure false:=by rfl) (hw:swappedStores [tg] e X.env=pure none:=by rfl)
  (h1:(assignEach [tg] X.env).map (·.2)=[assign tg X.env]:=by rfl):PS X (.Assign [tg] e pos) (tAsg te g):=by
 intro pins s σ H D I h
 refine wpAny_Assign_stores (thn (he pins s σ H _ I h) fun v s1=>L2.ex5 fun x H1 I1 r1 q1=>?_) hs hw
 rw[h1]
 exact thn (hg pins s1 σ H1 x v _ I1 r1 q1) fun _ s2 q=>q
theorem zao {i:Nat}{x:Str}{e:Expr}{te:TE}{pos':Pos} (hN:X.N.Nodup) (hi:X.N[i]?=some x) (hx:Loc X.env.scope x) (he:PE X e te) (hs:swapsWith e (some (.Name x pos')) pos.line X.env=pure false:=by rfl) (hf:X.fn x=true∨X.env.scope.names.lookup x=some .local:=by first|exact .inl rfl|exact .inr rfl|assumption) :
  PS X (.Assign [.Name x pos'] e pos) (tAsg te (zaI i)):=by
 intro pins s σ H D I h
 refine wpAny_Assign_Name (thn (he pins s σ H _ I h) fun v s1=>L2.ex5 fun y H1 I1 r1 q1=>?_) hs
 exact zc4 I1 hN hi hx r1 (fun s2 I2=>⟨_,H1,I2,q1⟩) hf
def tAug (i:Nat) (te:TE) (ti:TIp):TS:=fun D σ H=>∃ x,σ[i]?=some (some x)∧te σ H fun y H1=>ti x y H1 fun z H2=>D.nx (σ.set i (some z)) H2
theorem ps_aug {i:Nat}{x:Str}{e:Expr}{te:TE}{op:Operator}{ti:TIp}{pos':Pos} (hN:X.N.Nodup) (hi:X.N[i]?=some x) (hx:Loc X.env.scope x) (he:PE X e te) (ho:PIp X op ti) (hf:X.fn x=true∨X.env.scope.names.lookup x=some .local:=by first|exact .inl rfl|exact .inr rfl|assumption) :
  PS X (.AugAssign (.Name x pos') op e pos) (tAug i te ti):=by
 intro pins s σ H D I h
 obtain⟨v,e1,h⟩:=h
 obtain⟨m,hn,hl⟩:=I.loc
 have vis:Vis X.env.scope x:=by rcases hx with k|k;exact .inl k;exact .inr (.inl k)
 obtain⟨u,r,l⟩:=hl i x v hi e1 vis
 refine wpAny_AugAssign_Name ?_
 have go:wpAny (model X.prog X.w) X.A (eval e X.env) (fun w s₂=>wpAny (model X.prog X.w) X.A (inplaceOp op u w) (fun r s₃=>wpAny (model X.prog X.w) X.A (storeName X.env x r) (fun _=>SP X pins D .next) X.xe s₃) X.xe s₂) X.xe s:=by
  refine thn (he pins s σ H _ I h) fun w s1=>L2.ex5 fun y H1 I1 r1 q1=>?_
  refine thn (ho pins s1 σ H1 v y u w _ I1 r r1 q1) fun z s2 ⟨zv,H2,I2,r2,q2⟩=>?_
  exact zc4 I2 hN hi hx r2 (fun s3 I3=>⟨_,H2,I3,q2⟩) hf
 rcases l with⟨hk,hm⟩|⟨hk,c,hc,hcell⟩
 ·exact wpAny_loadName_local I.ok.kind hk hn hm go
 ·rcases hk with hk|hk
  ·exact wpAny_loadName_cell I.ok.kind hk hc hcell go
  ·rcases hx with k|k
   ·have:X.env.scope.names.lookup x=some .free:=hk
    rw[k] at this;cases this
   ·have:X.env.scope.names.lookup x=some .free:=hk
    rw[k] at this;cases this
def ipI (f:Int→Int→Int):TIp:=fun x y H Q=>∃ i j,x=.int i∧y=.int j∧Q (.int (f i j)) H
theorem ip_add:PIp X .Add (ipI fun i j=>i + j):=by
 intro pins s σ H x y v u Q I r1 r2 h
 obtain⟨i,j,e1,e2,q⟩:=h
 subst e1;subst e2
 obtain⟨t,rfl⟩:=r1
 obtain⟨t',rfl⟩:=r2
 exact iadd_int ⟨.int _,H,I.tok _,⟨_,rfl⟩,q⟩
end
section
variable {X:Cx}{pos:Pos}
end
structure It where
 go:Nat→Hp→Prop
 yld:Nat→Hp→V→Hp→Prop
 stop:Nat→Hp→Prop
def zdf (X:Cx) (pins:List (Addr×Obj)) (H:Hp) (b:Addr):Prop:=
 H b=none∧b≠X.env.locals∧b∉X.fs∧(b∈X.ex∨X.s₀.heap.objs.size≤b)∧(∀ x c,X.env.cells.lookup x=some c→c≠b)∧∀ p∈X.pn++pins,p.1≠b
theorem Inv.fpOk {X:Cx}{pins:List (Addr×Obj)}{σ:St}{H H':Hp}{s:Shared}{b:Addr} (I:Inv X pins σ H s) (hb:s.heap.objs.size≤b) (hn:H' b=none):zdf X pins H' b:=by
 refine⟨hn,Nat.ne_of_gt (Nat.lt_of_lt_of_le I.lt hb),I.nofs hb,.inr (Nat.le_trans I.sz hb),fun x c e z=>?_,fun p hp z=>?_⟩
 ·obtain⟨v,q⟩:=I.cell x c e
  exact absurd (Nat.lt_of_lt_of_le q.lt (by rw[z];exact hb)) (Nat.lt_irrefl _)
 ·exact absurd (Nat.lt_of_lt_of_le (Heap.lt_size (I.pin p hp).1) (by rw[z];exact hb)) (Nat.lt_irrefl _)
structure zkh (P:Program) (w:World) (K:PySem.W.Frag) (tg:Expr) (J:It) (fp:List Addr) (it:Addr) (tn:Nat→Heap→Prop):Prop where
 mem:it∈fp
 obj:∀ i h,tn i h→∀ b∈fp,∃ o,h.get? b=some o∧∀ v,o.data≠.cell v
 keep:∀ i h h',tn i h→(∀ b∈fp,∀ o,h.get? b=some o→h'.get? b=some o)→tn i h'
 item:∀ (X:Cx),X.prog=P→X.w=w→X.K=K→X.calm=true→∀ (i:Nat) (pins:List (Addr×Obj)) (s:Shared) (σ:St) (H:Hp) (E:Value→Shared→Prop),Inv X pins σ H s→(∀ b∈fp,zdf X pins H b)→tn i s.heap→J.go i H →
  wpAny (model P w) X.A (pyNext (.ref it)) (fun r s1=>∃ u,r=some u ∧
   wpAny (model P w) X.A (letOwnedTupleGo tg (.ref it) u) (fun _ s2=>∃ x H',Inv X pins σ H' s2∧zaQ x u∧J.yld i H x H'∧tn (i + 1) s2.heap∧∀ b∈fp,H' b=none) E s1) E s
 done:∀ (X:Cx),X.prog=P→X.w=w→X.K=K→X.calm=true→∀ (i:Nat) (pins:List (Addr×Obj)) (s:Shared) (σ:St) (H:Hp) (E:Value→Shared→Prop),Inv X pins σ H s→(∀ b∈fp,zdf X pins H b)→tn i s.heap→J.stop i H →
  wpAny (model P w) X.A (pyNext (.ref it)) (fun r s1=>r=none∧Inv X pins σ H s1) E s
 self:∀ (A:Around) (i:Nat) (s:Shared) (Q:Value→Shared→Prop) (E:Value→Shared→Prop),tn i s.heap→Q (.ref it) s→wpAny (model P w) A (pyIter (.ref it)) Q E s
abbrev TI:=St→Hp→(It→Hp→Prop)→Prop
def PIE (X:Cx) (pins:List (Addr×Obj)) (σ:St) (tg:Expr) (R:It→Hp→Prop) (itv:Value) (s2:Shared):Prop:=
 ∃ (it:Addr) (fp:List Addr) (tn:Nat→Heap→Prop) (J:It) (H':Hp),itv=.ref it∧Inv X pins σ H' s2∧zkh X.prog X.w X.K tg J fp it tn∧tn 0 s2.heap∧(∀ b∈fp,zdf X pins H' b)∧R J H'
def PI (X:Cx) (tg iter:Expr) (wi:TI):Prop:=
 ∀ (pins:List (Addr×Obj)) (s:Shared) (σ:St) (H:Hp) (R:It→Hp→Prop),Inv X pins σ H s→wi σ H R →
  wpAny (model X.prog X.w) X.A (eval iter X.env) (fun v s1=>wpAny (model X.prog X.w) X.A (pyIter v) (PIE X pins σ tg R) X.xe s1) X.xe s
theorem zh5 {M:Model}{A:Around}{E:Value→Shared→Prop}{s:Shared}{tg:Expr}{it:Addr}{u:Value}{o:Obj}{n:String}{vs:Array Value}{Q:Unit→Shared→Prop} (ho:s.heap.get? it=some o) (hc:o.cls=.type n) (hd:o.data=.fields vs)
    (hn:["enumerate","zip","dict_itemiterator","dict_reverseitemiterator","odict_iterator","itertools.zip_longest","itertools.pairwise"].contains n=false) (hQ:Q () s):wpAny M A (letOwnedTupleGo tg (.ref it) u) Q E s:=by
  unfold letOwnedTupleGo
  cases tg <;> first
    | exact wpAny_pure hQ
    | (cases u <;> first
        | exact wpAny_pure hQ
        | (refine wpAny_bind (wpAny_load ho ?_)
           rw[hc,hd]
           show wpAny M A (if (["enumerate","zip","dict_itemiterator","dict_reverseitemiterator","odict_iterator","itertools.zip_longest","itertools.pairwise"].contains n && vs[0]? == some (rawInt _))=true then _ else _) Q E s
           rw[if_neg (by intro h;rw[hn,Bool.false_and] at h;cases h)]
           exact wpAny_pure hQ))
def Itl (K:PySem.W.Frag) (a:Addr):It:=
 ⟨fun i H=>∃ xs x,SqL K H a xs∧xs[i]?=some x,fun i H x H'=>H'=H∧∀ xs,SqL K H a xs→xs[i]?=some x,fun i H=>∃ xs,SqL K H a xs∧xs.length≤i⟩
def Itr (lo:Int) (n:Nat):It:=⟨fun i _=>i<n,fun i H x H'=>H'=H∧x=.int (lo + i),fun i _=>n≤i⟩
theorem zgD {P:Program}{w:World}{K:PySem.W.Frag}{tg:Expr} (a it:Addr):zkh P w K tg (Itl K a) [it] it (fun i h=>h.IsListIter it a i) where
 mem:=by simp
 obj:=fun i h st b hb=>by
  have e:b=it:=by simpa using hb
  subst e
  obtain⟨o,e,c,d⟩:=st
  exact⟨o,e,fun v z=>by rw[d] at z;cases z⟩
 keep:=fun i h h' st k=>st.at fun o e=>k it (by simp) o e
 item:=by
  intro X hP hw hK hc i pins s σ H E I hf st hg
  subst hP hw hK
  obtain⟨xs,x,hq,hx⟩:=hg
  obtain⟨its,rv,p,hz⟩:=I.list hq
  obtain⟨u,hu,ru⟩:=rv.get hx
  obtain⟨f0,f1,f2,f3,f4,f5⟩:=hf it (by simp)
  refine wpAny_pyNext_list_item st p.isList (x:=u) (by simpa using hu) fun h' st' sb=>?_
  have I1:Inv X pins σ H { s with heap:=h' }:=I.turned (t':=s.toks) (fun b o hb e=>(sb.2 b hb).trans e) f0 f1 f3 f4 f5
  obtain⟨o,e,c,d⟩:=id st'
  exact⟨u,rfl,zh5 (s:={ s with heap:=h' }) e c d (by decide) ⟨x,H,I1,ru,⟨rfl,fun ys hy=>by rw[I.list_inj hy hq];exact hx⟩,st',fun b hb=>(hf b hb).1⟩⟩
 done:=by
  intro X hP hw hK hc i pins s σ H E I hf st hg
  subst hP hw hK
  obtain⟨xs,hq,hx⟩:=hg
  obtain⟨its,rv,p,hz⟩:=I.list hq
  obtain⟨f0,f1,f2,f3,f4,f5⟩:=hf it (by simp)
  have hl:=rv.length
  exact zew I.hd st p.isList (by simp;omega) fun h' eb=>⟨rfl,I.turned (t':=s.toks) (fun b o hb e=>eb b o hb e) f0 f1 f3 f4 f5⟩
 self:=fun _ _ _ _ _ st h=>wpAny_pyIter_listiter st h
theorem zf3 {P:Program}{w:World}{K:PySem.W.Frag}{tg:Expr} (it:Addr) (lo:Int) (n:Nat):zkh P w K tg (Itr lo n) [it] it (fun i h=>IsRangeIter h it (lo + (i:Nat) * 1) ((n:Int) - (i:Nat)) 1) where
 mem:=by simp
 obj:=fun i h st b hb=>by
  have e:b=it:=by simpa using hb
  subst e
  exact⟨_,st,fun v z=>by
   have z':Data.fields _=Data.cell v:=z
   cases z'⟩
 keep:=fun i h h' st k=>k it (by simp) _ st
 item:=by
  intro X hP hw hK hc i pins s σ H E I hf st hg
  subst hP hw hK
  obtain⟨f0,f1,f2,f3,f4,f5⟩:=hf it (by simp)
  refine wpAny_pyNext_range_item st (by have:i<n:=hg;omega) fun h' st0 sb=>?_
  have st':IsRangeIter h' it (lo + ((i + 1:Nat):Int) * 1) ((n:Int) - ((i + 1:Nat):Int)) 1:=by
   rw[show lo + ((i + 1:Nat):Int) * 1=lo + (i:Int) * 1 + 1 by omega,show(n:Int) - ((i + 1:Nat):Int)=(n:Int) - (i:Int) - 1 by omega]
   exact st0
  have I1:Inv X pins σ H { s with heap:=h',toks:=s.toks + 1 }:=I.turned (fun b o hb e=>sb.extBut b o hb e) f0 f1 f3 f4 f5
  exact⟨_,rfl,zh5 (s:={ s with heap:=h',toks:=s.toks + 1 }) (n:="range_iterator") st' rfl rfl (by decide) ⟨.int (lo + i),H,I1,⟨_,by rw[Int.mul_one]⟩,⟨rfl,rfl⟩,st',fun b hb=>(hf b hb).1⟩⟩
 done:=by
  intro X hP hw hK hc i pins s σ H E I hf st hg
  subst hP hw hK
  obtain⟨f0,f1,f2,f3,f4,f5⟩:=hf it (by simp)
  exact zf2 I.hd st (by have:n≤i:=hg;omega) fun h' eb=>⟨rfl,I.turned (t':=s.toks) (fun b o hb e=>eb b o hb e) f0 f1 f3 f4 f5⟩
 self:=fun _ _ _ _ _ st h=>wpAny_pyIter_rangeiter st h
end L2
namespace L2
open PySem PySem.Spec PyProof.Rows
section
variable {X:Cx}{tg:Expr}
def iList (K:PySem.W.Frag) (tl:TE):TI:=fun σ H R=>tl σ H fun x H1=>∃ a,x=.ref a∧(∃ xs,SqL K H1 a xs)∧R (Itl K a) H1
theorem zaF {l:Expr}{tl:TE} (hl:PE X l tl):PI X tg l (iList X.K tl):=by
 intro pins s σ H R I h
 refine thn (hl pins s σ H _ I h) fun v s1=>L2.ex5 fun x H1 I1 r1 q1=>?_
 obtain⟨a,e,⟨xs,hq⟩,q⟩:=q1
 subst e
 cases r1
 obtain⟨its,rv,p,hz⟩:=I1.list hq
 refine wpAny_pyIter_list p.isList ?_
 refine⟨s1.heap.objs.size,[s1.heap.objs.size],_,_,H1,rfl,I1.kept (t':=s1.toks) fun b o e=>Heap.get?_push_of_some _ e,zgD a _,⟨_,Heap.get?_push_size _ rfl,rfl,rfl⟩,fun b hb=>?_,q⟩
 have e:b=s1.heap.objs.size:=by simpa using hb
 subst e
 exact I1.fpOk (Nat.le_refl _) (I1.hok.fresh (Nat.le_refl _))
theorem zh6 {pins:List (Addr×Obj)}{σ:St}{H:Hp}{s:Shared}{R:It→Hp→Prop}{E:Value→Shared→Prop}{lo hi:Int}{t u v:Tok}{tk:Nat} (I:Inv X pins σ H s) (h1:-(2 ^ 62)≤lo) (h2:lo<2 ^ 62) (h3:-(2 ^ 62)≤hi) (h4:hi<2 ^ 62)
  (q:R (Itr lo (hi - lo).toNat) H):wpAny (model X.prog X.w) X.A (pyIter (.ref s.heap.objs.size)) (PIE X pins σ tg R) E { s with heap:=s.heap.push { cls:=.type "range",data:=.fields #[.int lo t,.int hi u,.int 1 v] },toks:=tk }:=by
 refine wpAny_pyIter_range (IsRange.new ..) (small_one h1 h2 h3 h4) ?_
 have I1:Inv X pins σ H { s with heap:=s.heap.push { cls:=.type "range",data:=.fields #[.int lo t,.int hi u,.int 1 v] },toks:=tk }:=I.kept fun b o e=>Heap.get?_push_of_some _ e
 refine⟨(s.heap.push { cls:=.type "range",data:=.fields #[.int lo t,.int hi u,.int 1 v] }).objs.size,[(s.heap.push { cls:=.type "range",data:=.fields #[.int lo t,.int hi u,.int 1 v] }).objs.size],_,_,H,rfl,
  I1.kept (t':=tk) fun b o e=>Heap.get?_push_of_some _ e,zf3 _ lo (hi - lo).toNat,?_,fun b hb=>?_,q⟩
 ·have e1:lo + ((0:Nat):Int) * 1=lo:=by simp
  have e2:(((hi - lo).toNat:Nat):Int) - ((0:Nat):Int)=Builtin.Range.rangeSize lo hi 1:=by rw[rangeSize_one];split <;> omega
  show IsRangeIter _ _ (lo + ((0:Nat):Int) * 1) ((((hi - lo).toNat:Nat):Int) - ((0:Nat):Int)) 1
  rw[e1,e2]
  exact Heap.get?_push_size _ rfl
 ·have e:b=(s.heap.push { cls:=.type "range",data:=.fields #[.int lo t,.int hi u,.int 1 v] }).objs.size:=by simpa using hb
  subst e
  exact I1.fpOk (Nat.le_refl _) (I1.hok.fresh (Nat.le_refl _))
def iRng1 (ta:TA):TI:=fun σ H R=>ta σ H fun vs H1=>∃ j:Int,vs=[.int j]∧-(2 ^ 62)≤j∧j<2 ^ 62∧R (Itr 0 j.toNat) H1
theorem zcr {a:Expr}{ta:TA}{p pos:Pos} (hg:Gl X "range") (hm:X.mg "range"=none) (ha:PA X [a] ta) (hs:starEach [a] X.env=[(false,eval a X.env)]:=by rfl):PI X tg (.Call (.Name "range" p) [a] [] pos) (iRng1 ta):=by
 intro pins s σ H R I h
 refine Call_ (zez I hg hm boot_range (PyProof.Rows.callWith_type1 (thn (ha pos pins s σ H _ I h) fun us s1=>L2.ex5 fun vs H1 I1 r1 q1=>?_) hs rfl))
 obtain⟨j,e,q1,q2,q⟩:=q1
 subst e
 cases r1 with
 | cons r rr=>
  cases rr
  obtain⟨t,rfl⟩:=r
  exact call_range_1 (zh6 I1 (by omega) (by omega) q1 q2 (by simpa using q))
def tFor (wi:TI) (g:TG) (tb:TS):TS:=fun D σ H=>wi σ H fun J H1=>∃ W:Nat→Nat→St→Hp→Prop,(∃ m,W 0 m σ H1)∧∀ i m σ H,W i m σ H →
 (J.stop i H∧D.nx σ H)∨(J.go i H∧∃ N:St→Hp→Prop,(∀ σ' H',N σ' H'→∃ m',m'<m∧W (i + 1) m' σ' H')∧∀ x H',J.yld i H x H'→g x σ H' fun σ2 H2=>tb { D with nx:=N,ct:=N,bk:=D.nx } σ2 H2)
def zeB (fp:List Addr) (h:Heap):List (Addr×Obj):=fp.filterMap fun b=>(h.get? b).map fun o=>(b,o)
theorem zb2 {fp:List Addr}{h:Heap}{b:Addr}{o:Obj} (hb:b∈fp) (e:h.get? b=some o):(b,o)∈zeB fp h:=List.mem_filterMap.mpr ⟨b,hb,by rw[e];rfl⟩
theorem zgE {fp:List Addr}{h:Heap}{p:Addr×Obj} (hp:p∈zeB fp h):p.1∈fp∧h.get? p.1=some p.2:=by
 obtain⟨b,hb,e⟩:=List.mem_filterMap.mp hp
 cases q:h.get? b with
 | none=>rw[q] at e;cases e
 | some o=>
  rw[q] at e
  have e':(b,o)=p:=Option.some.inj e
  subst e'
  exact⟨hb,q⟩
theorem Inv.pinned {pins:List (Addr×Obj)}{σ:St}{H:Hp}{s:Shared}{fp:List Addr} (I:Inv X pins σ H s) (hf:∀ b∈fp,zdf X pins H b) (ho:∀ b∈fp,∃ o,s.heap.get? b=some o∧∀ v,o.data≠.cell v):Inv X (pins++zeB fp s.heap) σ H s:=
 I.pins_of fun p hp=>(List.mem_append.mp hp).elim (fun z=>I.pin p (List.mem_append_right _ z)) fun z=>by
  obtain⟨hb,e⟩:=zgE z
  obtain⟨f0,f1,f2,_⟩:=hf p.1 hb
  obtain⟨o,e',d⟩:=ho p.1 hb
  rw[e] at e';cases e'
  exact⟨e,f0,f1,f2,d⟩
theorem Inv.unpinned {pins pl:List (Addr×Obj)}{σ:St}{H:Hp}{s:Shared} (I:Inv X (pins++pl) σ H s):Inv X pins σ H s:=I.pins_of fun p hp=>I.pin p (List.mem_append_right _ (List.mem_append_left _ hp))
theorem za4 {iter:Expr}{body:List Stmt}{wi:TI}{g:TG}{tb:TS}{pos:Pos} (hp:PassesOwn (model X.prog X.w) X.A X.env X.xe) (hc:X.calm=true) (hi:PI X tg iter wi) (hg:PG X tg g) (hb:PSs X body tb)
  (hs:∀ x,foldedSetIterable iter X.env x=pure x:=by intro _;rfl):PS X (.For tg iter body [] pos) (tFor wi g tb):=by
 intro pins s σ H D I h
 refine wpAny_For (thn (hi pins s σ H _ I h) fun v s1 h1=>thn h1 fun itv s2 h2=>?_) hs
 obtain⟨it,fp,tn,J,H2,e,I2,T,st2,f2,W,⟨m0,w0⟩,turn⟩:=h2
 subst e
 have stat:∀ {H':Hp},(∀ b∈fp,H' b=none)→∀ b∈fp,zdf X pins H' b:=fun hn b hb=>⟨hn b hb,(f2 b hb).2⟩
 refine codeAny_forLoop_any (fun n s'=>∃ i σ' H',Inv X pins σ' H' s'∧tn i s'.heap∧(∀ b∈fp,H' b=none)∧W i n σ' H') ?_ m0 ⟨0,σ,H2,I2,st2,fun b hb=>(f2 b hb).1,w0⟩
 rintro n s3 ⟨i,σ3,H3,I3,st3,fr3,w3⟩
 rcases turn i n σ3 H3 w3 with⟨stop,qn⟩|⟨go,N,hN,step⟩
 ·refine wpAny_passesOwn hp (thn (T.done X rfl rfl rfl hc i pins s3 σ3 H3 X.xe I3 (stat fr3) st3 stop) fun r s4 ⟨hr,I4⟩=>?_)
  subst hr
  exact wpAny_execs_nil ⟨σ3,H3,I4,qn⟩
 ·refine wpAny_passesOwn hp (thn (T.item X rfl rfl rfl hc i pins s3 σ3 H3 X.xe I3 (stat fr3) st3 go) fun r s4 ⟨u,hr,h4⟩=>?_)
  subst hr
  refine wpAny_passesOwn hp (thn h4 fun _ s5=>L2.ex5 fun x H5 I5 r5 hq_=>?_)
  obtain⟨y5,st5,fr5⟩:=hq_
  have I5':=I5.pinned (stat fr5) (T.obj _ _ st5)
  refine wpAny_passesOwn hp (thn (hg _ s5 σ3 H5 x u _ I5' r5 (step x H5 y5)) fun _ s6=>L2.ex4 fun σ6 H6 I6 q6=>?_)
  refine wpAny_passesOwn hp (thn (hb _ s6 σ6 H6 _ I6 q6) fun f s7 q7=>?_)
  have again:∀ {σ7:St}{H7:Hp},Inv X (pins++zeB fp s5.heap) σ7 H7 s7→N σ7 H7→∃ m,m<n∧∃ i σ' H',Inv X pins σ' H' s7∧tn i s7.heap∧(∀ b∈fp,H' b=none)∧W i m σ' H':=fun {σ7 H7} I7 n7=>by
   obtain⟨m',hm,w7⟩:=hN σ7 H7 n7
   refine⟨m',hm,i + 1,σ7,H7,I7.unpinned,T.keep _ _ _ st5 fun b hb o e=>(I7.pin (b,o) (List.mem_append_right _ (List.mem_append_right _ (zb2 hb e)))).1,fun b hb=>?_,w7⟩
   obtain⟨o,e,d⟩:=T.obj _ _ st5 b hb
   exact(I7.pin (b,o) (List.mem_append_right _ (List.mem_append_right _ (zb2 hb e)))).2.1
  cases f with
  | next=>obtain⟨σ7,H7,I7,n7⟩:=q7;exact again I7 n7
  | cont=>obtain⟨σ7,H7,I7,n7⟩:=q7;exact again I7 n7
  | brk=>obtain⟨σ7,H7,I7,q7⟩:=q7;exact⟨σ7,H7,I7.unpinned,q7⟩
  | ret v=>obtain⟨x7,σ7,H7,I7,r7,q7⟩:=q7;exact⟨x7,σ7,H7,I7.unpinned,r7,q7⟩
end
def WkW (J:It) (E:St→Hp→Prop) (B:(St→Hp→Prop)→V→St→Hp→Prop) (σ:St) (H:Hp):Prop:=∃ W:Nat→Nat→St→Hp→Prop,(∃ m,W 0 m σ H)∧∀ i m σ H,W i m σ H→(J.stop i H∧E σ H)∨(J.go i H∧∃ N:St→Hp→Prop,(∀ σ' H',N σ' H'→∃ m',m'<m∧W (i + 1) m' σ' H')∧∀ x H',J.yld i H x H'→B N x σ H')
theorem wk_ {J:It}{E:St→Hp→Prop}{B:(St→Hp→Prop)→V→St→Hp→Prop}{σ:St}{H:Hp}{n:Nat} (Pv:Nat→St→Hp→Prop) (h0:Pv 0 σ H) (hg:∀ i σ H,i≤n→Pv i σ H→(i<n→J.go i H)∧(n≤i→J.stop i H)) (hs:∀ i x σ H H',i<n→Pv i σ H→J.yld i H x H'→B (Pv (i + 1)) x σ H') (hd:∀ σ H,Pv n σ H→E σ H):WkW J E B σ H:=by
 refine⟨fun i m σ H=>m=n - i∧i≤n∧Pv i σ H,⟨n,by simp,Nat.zero_le _,h0⟩,?_⟩
 rintro i m σ H ⟨rfl,hi,p⟩
 obtain⟨q1,q2⟩:=hg i σ H hi p
 by_cases hlt:i<n
 ·exact .inr ⟨q1 hlt,Pv (i + 1),fun σ' H' p'=>⟨n - (i + 1),by omega,rfl,hlt,p'⟩,fun x H' y=>hs i x σ H H' hlt p y⟩
 ·have e:i=n:=by omega
  subst e
  exact .inl ⟨q2 (Nat.le_refl _),hd σ H p⟩
def ForW (J:It) (D:ze7) (g:TG) (tb:TS) (σ:St) (H:Hp):Prop:=WkW J D.nx (fun N x σ H'=>g x σ H' fun σ2 H2=>tb { D with nx:=N,ct:=N,bk:=D.nx } σ2 H2) σ H
theorem zbd {K:PySem.W.Frag}{a:Addr}{xs:List V}{g:TG}{tb:TS}{D:ze7}{σ:St}{H:Hp} (Pv:Nat→St→Hp→Prop) (h0:Pv 0 σ H) (hl:∀ i σ H,i≤xs.length→Pv i σ H→SqL K H a xs)
  (hs:∀ i x σ H,xs[i]?=some x→Pv i σ H→g x σ H fun σ2 H2=>tb { D with nx:=Pv (i + 1),ct:=Pv (i + 1),bk:=D.nx } σ2 H2) (hd:∀ σ H,Pv xs.length σ H→D.nx σ H):ForW (Itl K a) D g tb σ H:=
 wk_ (n:=xs.length) Pv h0 (fun i σ H hi p=>⟨fun h=>⟨xs,xs[i],hl i σ H hi p,by simp[h]⟩,fun h=>⟨xs,hl i σ H hi p,h⟩⟩) (fun i x σ H H' hi p y=>by
 obtain⟨rfl,y⟩:=y
 exact hs i x σ _ (y xs (hl i σ _ (Nat.le_of_lt hi) p)) p) hd
theorem zdg {lo:Int}{n:Nat}{g:TG}{tb:TS}{D:ze7}{σ:St}{H:Hp} (Pv:Nat→St→Hp→Prop) (h0:Pv 0 σ H)
  (hs:∀ i σ H,i<n→Pv i σ H→g (.int (lo + i)) σ H fun σ2 H2=>tb { D with nx:=Pv (i + 1),ct:=Pv (i + 1),bk:=D.nx } σ2 H2) (hd:∀ σ H,Pv n σ H→D.nx σ H):ForW (Itr lo n) D g tb σ H:=
 wk_ (n:=n) Pv h0 (fun _ _ _ _ _=>⟨id,id⟩) (fun i x σ H H' hi p y=>by
 obtain⟨rfl,rfl⟩:=y
 exact hs i σ _ hi p) hd
end L2
namespace L2
open PySem PySem.Spec PyProof.Rows
abbrev R2:=V→V→Hp→VK→Prop
def OpR (X:Cx) (f:Value→Value→Sem Value) (r:R2):Prop:=
 ∀ (pins:List (Addr×Obj)) (s:Shared) (σ:St) (H:Hp) (x y:V) (v u:Value) (Q:VK),Inv X pins σ H s→zaQ x v→zaQ y u→r x y H Q →
  wpAny (model X.prog X.w) X.A (f v u) (EP X pins σ Q) X.xe s
def UnR (X:Cx) (f:Value→Sem Value) (r:V→Hp→VK→Prop):Prop:=
 ∀ (pins:List (Addr×Obj)) (s:Shared) (σ:St) (H:Hp) (x:V) (v:Value) (Q:VK),Inv X pins σ H s→zaQ x v→r x H Q →
  wpAny (model X.prog X.w) X.A (f v) (EP X pins σ Q) X.xe s
def zdh (X:Cx) (f:Value) (r:List V→Hp→VK→Prop):Prop:=
 ∀ (pins:List (Addr×Obj)) (s:Shared) (σ:St) (H:Hp) (xs:List V) (us:List Value) (Q:VK),Inv X pins σ H s→zaK xs us→r xs H Q →
  wpAny (model X.prog X.w) X.A (call f us) (EP X pins σ Q) X.xe s
def tOp (r:R2) (ta tb:TE):TE:=fun σ H Q=>ta σ H fun x H1=>tb σ H1 fun y H2=>r x y H2 Q
def tUn (r:V→Hp→VK→Prop) (ta:TE):TE:=fun σ H Q=>ta σ H fun x H1=>r x H1 Q
def rI (C:Int→Int→Prop) (g:Int→Int→V):R2:=fun x y H Q=>∃ i j,x=.int i∧y=.int j∧C i j∧Q (g i j) H
def rI0 (g:Int→Int→V):R2:=fun x y H Q=>∃ i j,x=.int i∧y=.int j∧Q (g i j) H
def rU (g:Int→V):V→Hp→VK→Prop:=fun x H Q=>∃ i,x=.int i∧Q (g i) H
section
variable {X:Cx}{a b c:Expr}{ta tb tc:TE}{pos:Pos}
theorem binT (ha:PE X a ta) (hb:PE X b tb){pins:List (Addr×Obj)}{s:Shared}{σ:St}{H:Hp}{R:V→V→Hp→Prop} (I:Inv X pins σ H s)
  (h:ta σ H fun x H1=>tb σ H1 fun y H2=>R x y H2){Q:Value→Shared→Prop}{f:Value→Value→Sem Value}
  (hf:∀ v u s2 x y H2,Inv X pins σ H2 s2→zaQ x v→zaQ y u→R x y H2→wpAny (model X.prog X.w) X.A (f v u) Q X.xe s2) :
  wpAny (model X.prog X.w) X.A (eval a X.env) (fun v s₁=>wpAny (model X.prog X.w) X.A (eval b X.env) (fun u s₂=>wpAny (model X.prog X.w) X.A (f v u) Q X.xe s₂) X.xe s₁) X.xe s:=by
 refine thn (ha pins s σ H _ I h) fun v s1=>L2.ex5 fun x H1 I1 r1 q1=>?_
 refine thn (hb pins s1 σ H1 _ I1 q1) fun u s2=>L2.ex5 fun y H2 I2 r2 q2=>?_
 exact hf v u s2 x y H2 I2 r1 r2 q2
theorem zam {op:Operator}{r:R2} (ho:OpR X (binaryOp op) r) (ha:PE X a ta) (hb:PE X b tb):PE X (.BinOp a op b pos) (tOp r ta tb):=by
 intro pins s σ H Q I h
 exact wpAny_BinOp (binT ha hb I h fun v u s2 x y H2 I2 rx ry q=>ho pins s2 σ H2 x y v u Q I2 rx ry q)
theorem zje {op:UnaryOp}{r:V→Hp→VK→Prop} (ho:UnR X (unaryOp op) r) (ha:PE X a ta):PE X (.UnaryOp op a pos) (tUn r ta):=by
 intro pins s σ H Q I h
 exact UnaryOp_ (thn (ha pins s σ H _ I h) fun v s1=>L2.ex5 fun x H1 I1 r1 q1=>ho pins s1 σ H1 x v Q I1 r1 q1)
theorem opI {f:Value→Value→Sem Value}{C:Int→Int→Prop}{g:Int→Int→Int}
  (rule:∀ (i j:Int) (t u:Tok) (s:Shared) (Q:Value→Shared→Prop) (E:Value→Shared→Prop),C i j→Q (.int (g i j) s.toks) { s with toks:=s.toks + 1 }→wpAny (model X.prog X.w) X.A (f (.int i t) (.int j u)) Q E s) :
  OpR X f (rI C fun i j=>.int (g i j)):=by
 intro pins s σ H x y v u Q I rx ry h
 obtain⟨i,j,rfl,rfl,hc,q⟩:=h
 obtain⟨t,rfl⟩:=rx
 obtain⟨t',rfl⟩:=ry
 exact rule i j t t' s _ _ hc ⟨.int (g i j),H,I.tok _,⟨_,rfl⟩,q⟩
theorem opI0 {f:Value→Value→Sem Value}{g:Int→Int→Int}
  (rule:∀ (i j:Int) (t u:Tok) (s:Shared) (Q:Value→Shared→Prop) (E:Value→Shared→Prop),Q (.int (g i j) s.toks) { s with toks:=s.toks + 1 }→wpAny (model X.prog X.w) X.A (f (.int i t) (.int j u)) Q E s) :
  OpR X f (rI0 fun i j=>.int (g i j)):=by
 intro pins s σ H x y v u Q I rx ry h
 obtain⟨i,j,rfl,rfl,q⟩:=h
 obtain⟨t,rfl⟩:=rx
 obtain⟨t',rfl⟩:=ry
 exact rule i j t t' s _ _ ⟨.int (g i j),H,I.tok _,⟨_,rfl⟩,q⟩
theorem opB0 {f:Value→Value→Sem Value}{g:Int→Int→Bool}
  (rule:∀ (i j:Int) (t u:Tok) (s:Shared) (Q:Value→Shared→Prop) (E:Value→Shared→Prop),Q (.bool (g i j)) s→wpAny (model X.prog X.w) X.A (f (.int i t) (.int j u)) Q E s) :
  OpR X f (rI0 fun i j=>.bl (g i j)):=by
 intro pins s σ H x y v u Q I rx ry h
 obtain⟨i,j,rfl,rfl,q⟩:=h
 obtain⟨t,rfl⟩:=rx
 obtain⟨t',rfl⟩:=ry
 exact rule i j t t' s _ _ ⟨.bl (g i j),H,I,rfl,q⟩
def CDiv (i j:Int):Prop:=0<j∧j<1073741824
def CPow (i j:Int):Prop:=0≤j∧j≤1000000∧i.natAbs<2 ^ 64
def CMul (i j:Int):Prop:=(-(2 ^ 64)<i∧i<2 ^ 64)∨(-(2 ^ 64)<j∧j<2 ^ 64)
theorem CMul.ok {i j:Int} (h:CMul i j):IntMulOk i j:=by
 rcases h with⟨h1,h2⟩|⟨h1,h2⟩
 ·exact .of_left (intBits_le_64 h1 h2)
 ·exact .of_right (intBits_le_64 h1 h2)
theorem za0:OpR X (binaryOp .Add) (rI0 fun i j=>.int (i + j)):=opI0 fun _ _ _ _ _ _ _ q=>add_int q
theorem ziN:OpR X (binaryOp .Sub) (rI0 fun i j=>.int (i - j)):=opI0 fun _ _ _ _ _ _ _ q=>sub_int q
theorem zdX:OpR X (binaryOp .Mult) (rI CMul fun i j=>.int (i * j)):=opI fun _ _ _ _ _ _ _ hc q=>mul_int q hc.ok
theorem zbK:OpR X (binaryOp .FloorDiv) (rI CDiv fun i j=>.int (i / j)):=opI fun i j _ _ _ _ _ hc q=>by
 have h1:(0:Int)<j:=hc.1
 have h2:j<1073741824:=hc.2
 exact floordiv_int (by omega) (by rw[Int.fdiv_eq_ediv_of_nonneg i (by omega)];exact q) (.inl (PyProof.noPylong_small (by omega)))
theorem zaL:OpR X (binaryOp .Mod) (rI (fun _ j=>0<j) fun i j=>.int (i % j)):=opI fun i j _ _ _ _ _ hc q=>by
 have h1:(0:Int)<j:=hc
 exact mod_int' (by omega) (by rw[Int.fmod_eq_emod_of_nonneg i (by omega)];exact q)
theorem ziO:OpR X (binaryOp .Pow) (rI CPow fun i j=>.int (i ^ j.toNat)):=opI fun _ _ _ _ _ _ _ hc q=>pow_int_small hc.1 hc.2.1 hc.2.2 q
theorem unI {f:Value→Sem Value}{g:Int→Int}
  (rule:∀ (i:Int) (t:Tok) (s:Shared) (Q:Value→Shared→Prop) (E:Value→Shared→Prop),Q (.int (g i) s.toks) { s with toks:=s.toks + 1 }→wpAny (model X.prog X.w) X.A (f (.int i t)) Q E s) :
  UnR X f (rU fun i=>.int (g i)):=by
 intro pins s σ H x v Q I rx h
 obtain⟨i,rfl,q⟩:=h
 obtain⟨t,rfl⟩:=rx
 exact rule i t s _ _ ⟨.int (g i),H,I.tok _,⟨_,rfl⟩,q⟩
theorem zgF:UnR X (unaryOp .USub) (rU fun i=>.int (-i)):=unI fun _ _ _ _ _ q=>neg_int q
end
def scal:V→V→Bool
 | .non,.non=>true | .non,.int _=>true | .int _,.non=>true | .non,.bl _=>true | .bl _,.non=>true | .non,.str _=>true | .str _,.non=>true
 | .int _,.int _=>true | .bl _,.bl _=>true | .str _,.str _=>true | .byt _,.byt _=>true
 | .int _,.str _=>true | .str _,.int _=>true | .bl _,.str _=>true | .str _,.bl _=>true
 | _,_=>false
def rEq:R2:=fun x y H Q=>scal x y=true∧Q (.bl (decide (x=y))) H
def rNe:R2:=fun x y H Q=>scal x y=true∧Q (.bl (!decide (x=y))) H
theorem zgG {i j:Int}:decide (V.int i=V.int j)=(i == j):=by
 rw[Bool.eq_iff_iff]
 simp
theorem ziP {i j:Bool}:decide (V.bl i=V.bl j)=(i == j):=by
 rw[Bool.eq_iff_iff]
 simp
theorem zgH {i j:Str}:decide (V.str i=V.str j)=(i == j):=by
 rw[Bool.eq_iff_iff]
 simp
theorem zgI {i j:Array UInt8}:decide (V.byt i=V.byt j)=(i.toList == j.toList):=by
 rw[Bool.eq_iff_iff]
 cases i
 cases j
 simp
section
variable {X:Cx}{a b c:Expr}{ta tb tc:TE}{pos:Pos}
theorem zax {pins:List (Addr×Obj)}{σ:St}{H:Hp}{s:Shared}{Q:VK}{k k':Bool} (I:Inv X pins σ H s) (q:Q (.bl k) H) (e:k=k'):EP X pins σ Q (.bool k') s:=by
 subst e
 exact⟨.bl k,H,I,rfl,q⟩
theorem zeC:OpR X (compareOp .Eq) rEq:=by
 intro pins s σ H x y v u Q I rx ry h
 obtain⟨hs,q⟩:=h
 cases x with
 | non=>
  cases rx
  cases y with
  | non=>cases ry;exact PySem.EqNone.eq_none_none (zax I q (by simp))
  | bl j=>cases ry;exact PySem.EqNone.eq_none_bool (zax I q (by simp))
  | int j=>obtain⟨t',rfl⟩:=ry;exact PySem.EqNone.eq_none_int (zax I q (by simp))
  | str j=>obtain⟨t',rfl⟩:=ry;exact PySem.EqNone.eq_none_str (zax I q (by simp))
  | _=>exact absurd (show false=true from hs) Bool.false_ne_true
 | bl i=>
  cases rx
  cases y with
  | non=>cases ry;exact PySem.EqNone.eq_bool_none (zax I q (by simp))
  | bl j=>cases ry;exact eq_bool (zax I q ziP)
  | str j=>obtain⟨t',rfl⟩:=ry;exact PySem.EqMixed.eq_bool_str (zax I q (by simp))
  | _=>exact absurd (show false=true from hs) Bool.false_ne_true
 | int i=>
  obtain⟨t,rfl⟩:=rx
  cases y with
  | non=>cases ry;exact PySem.EqNone.eq_int_none (zax I q (by simp))
  | int j=>obtain⟨t',rfl⟩:=ry;exact eq_int (zax I q zgG)
  | str j=>obtain⟨t',rfl⟩:=ry;exact PySem.EqMixed.eq_int_str (zax I q (by simp))
  | _=>exact absurd (show false=true from hs) Bool.false_ne_true
 | str i=>
  obtain⟨t,rfl⟩:=rx
  cases y with
  | non=>cases ry;exact PySem.EqNone.eq_str_none (zax I q (by simp))
  | bl j=>cases ry;exact PySem.EqMixed.eq_str_bool (zax I q (by simp))
  | int j=>obtain⟨t',rfl⟩:=ry;exact PySem.EqMixed.eq_str_int (zax I q (by simp))
  | str j=>obtain⟨t',rfl⟩:=ry;exact eq_str (zax I q zgH)
  | _=>exact absurd (show false=true from hs) Bool.false_ne_true
 | byt i=>
  obtain⟨t,rfl⟩:=rx
  cases y with
  | byt j=>obtain⟨t',rfl⟩:=ry;exact PySem.W.eq_bytes (zax I q zgI)
  | _=>exact absurd (show false=true from hs) Bool.false_ne_true
 | _=>cases y <;> exact absurd (show false=true from hs) Bool.false_ne_true
theorem zf4:OpR X (compareOp .NotEq) rNe:=by
 intro pins s σ H x y v u Q I rx ry h
 obtain⟨hs,q⟩:=h
 cases x with
 | non=>
  cases rx
  cases y with
  | non=>cases ry;exact PySem.EqNone.ne_none_none (zax I q (by simp))
  | bl j=>cases ry;exact PySem.EqNone.ne_none_bool (zax I q (by simp))
  | int j=>obtain⟨t',rfl⟩:=ry;exact PySem.EqNone.ne_none_int (zax I q (by simp))
  | str j=>obtain⟨t',rfl⟩:=ry;exact PySem.EqNone.ne_none_str (zax I q (by simp))
  | _=>exact absurd (show false=true from hs) Bool.false_ne_true
 | bl i=>
  cases rx
  cases y with
  | non=>cases ry;exact PySem.EqNone.ne_bool_none (zax I q (by simp))
  | bl j=>cases ry;exact ne_bool (zax I q (congrArg not ziP))
  | str j=>obtain⟨t',rfl⟩:=ry;exact PySem.EqMixed.ne_bool_str (zax I q (by simp))
  | _=>exact absurd (show false=true from hs) Bool.false_ne_true
 | int i=>
  obtain⟨t,rfl⟩:=rx
  cases y with
  | non=>cases ry;exact PySem.EqNone.ne_int_none (zax I q (by simp))
  | int j=>obtain⟨t',rfl⟩:=ry;exact ne_int (zax I q (congrArg not zgG))
  | str j=>obtain⟨t',rfl⟩:=ry;exact PySem.EqMixed.ne_int_str (zax I q (by simp))
  | _=>exact absurd (show false=true from hs) Bool.false_ne_true
 | str i=>
  obtain⟨t,rfl⟩:=rx
  cases y with
  | non=>cases ry;exact PySem.EqNone.ne_str_none (zax I q (by simp))
  | bl j=>cases ry;exact PySem.EqMixed.ne_str_bool (zax I q (by simp))
  | int j=>obtain⟨t',rfl⟩:=ry;exact PySem.EqMixed.ne_str_int (zax I q (by simp))
  | str j=>obtain⟨t',rfl⟩:=ry;exact ne_str (zax I q (congrArg not zgH))
  | _=>exact absurd (show false=true from hs) Bool.false_ne_true
 | byt i=>
  obtain⟨t,rfl⟩:=rx
  cases y with
  | byt j=>obtain⟨t',rfl⟩:=ry;exact PySem.W.ne_bytes (zax I q (congrArg not zgI))
  | _=>exact absurd (show false=true from hs) Bool.false_ne_true
 | _=>cases y <;> exact absurd (show false=true from hs) Bool.false_ne_true
theorem zjf:OpR X (compareOp .Lt) (rI0 fun i j=>.bl (decide (i<j))):=opB0 fun _ _ _ _ _ _ _ q=>lt_int q
theorem op_le:OpR X (compareOp .LtE) (rI0 fun i j=>.bl (decide (i≤j))):=opB0 fun _ _ _ _ _ _ _ q=>le_int q
theorem zjg:OpR X (compareOp .Gt) (rI0 fun i j=>.bl (decide (j<i))):=opB0 fun _ _ _ _ _ _ _ q=>gt_int q
theorem op_ge:OpR X (compareOp .GtE) (rI0 fun i j=>.bl (decide (j≤i))):=opB0 fun _ _ _ _ _ _ _ q=>ge_int q
theorem zgJ:OpR X (compareOp .In) (fun x y H Q=>∃ i j,x=.str i∧y=.str j∧Q (.bl (!(Builtin.Str.occurrences j i 0 j.length 1).isEmpty)) H):=by
 intro pins s σ H x y v u Q I rx ry h
 obtain⟨i,j,rfl,rfl,q⟩:=h
 obtain⟨t,rfl⟩:=rx
 obtain⟨t',rfl⟩:=ry
 exact in_str (zax I q rfl)
theorem OpR.or {f:Value→Value→Sem Value}{r r':R2} (h:OpR X f r) (h':OpR X f r'):OpR X f (fun x y H Q=>r x y H Q∨r' x y H Q):=by
 intro pins s σ H x y v u Q I rx ry q
 rcases q with q|q
 ·exact h pins s σ H x y v u Q I rx ry q
 ·exact h' pins s σ H x y v u Q I rx ry q
theorem zaz (b:Expr){op:CmpOp} (h:op≠.In:=by decide) (h2:op≠.NotIn:=by decide):behindInMarks op b=false:=by
 have e1:(op == CmpOp.In)=false:=by cases op <;> first|rfl|exact absurd rfl h
 have e2:(op == CmpOp.NotIn)=false:=by cases op <;> first|rfl|exact absurd rfl h2
 cases b <;> simp[behindInMarks,e1,e2]
theorem zcM {op:CmpOp}{r:R2} (ho:OpR X (compareOp op) r) (ha:PE X a ta) (hb:PE X b tb) (hm:behindInMarks op b=false):PE X (.Compare a [op] [b] pos) (tOp r ta tb):=by
 intro pins s σ H Q I h
 exact wpAny_Compare1 (binT ha hb I h fun v u s2 x y H2 I2 rx ry q=>ho pins s2 σ H2 x y v u Q I2 rx ry q) hm
def tTest (t:TE):TT:=fun σ H Q=>t σ H fun x H'=>∃ k,x=.bl k∧Q k H'
theorem zat {op:CmpOp}{r:R2} (ho:OpR X (compareOp op) r) (ha:PE X a ta) (hb:PE X b tb) (hm:behindInMarks op b=false):PT X (.Compare a [op] [b] pos) (tTest (tOp r ta tb)):=by
 intro pins s σ H Q I h
 refine wpAny_isTrue_Compare1 (thn (ha pins s σ H _ I h) fun v s1=>L2.ex5 fun x H1 I1 r1 q1=>thn (hb pins s1 σ H1 _ I1 q1) fun u s2=>L2.ex5 fun y H2 I2 r2 q2=>
  thn (ho pins s2 σ H2 x y v u _ I2 r1 r2 q2) fun c s3 ⟨z,H3,I3,r3,k,e,q3⟩=>?_) hm
 subst e
 cases r3
 exact wpAny_truthy_bool ⟨H3,I3,q3⟩
theorem zfB:(sizeLine:Nat)<2 ^ 63:=by rw[sizeLine_eq];decide
theorem zaG:OpR X (binaryOp .Add) (fun x y H Q=>∃ i j,x=.str i∧y=.str j∧i.length + j.length≤sizeLine∧Q (.str (i++j)) H):=by
 intro pins s σ H x y v u Q I rx ry h
 obtain⟨i,j,rfl,rfl,hz,q⟩:=h
 obtain⟨t,rfl⟩:=rx
 obtain⟨t',rfl⟩:=ry
 exact add_str (fun t' tk=>⟨.str (i++j),H,I.tok _,⟨_,rfl⟩,q⟩) hz
theorem zc1 {x:V}{us:List Value} (r:zaK [x] us):∃ u,us=[u]∧zaQ x u:=by
 cases r with
 | cons r1 r2=>cases r2;exact⟨_,rfl,r1⟩
theorem zjh {x y:V}{us:List Value} (r:zaK [x,y] us):∃ u w',us=[u,w']∧zaQ x u∧zaQ y w':=by
 cases r with
 | cons r1 r2=>
  cases r2 with
  | cons r3 r4=>cases r4;exact⟨_,_,rfl,r1,r3⟩
theorem zcV:zdh X (.type "str") (fun xs H Q=>∃ i,xs=[.int i]∧i.natAbs.log2<1920∧Q (.str (toString i)) H):=by
 intro pins s σ H xs us Q I r h
 obtain⟨i,rfl,hz,q⟩:=h
 obtain⟨u,rfl,t,rfl⟩:=zc1 r
 exact PySem.P.str_of_int hz ⟨.str _,H,I.tok _,⟨_,rfl⟩,q⟩
end
end L2
namespace L2
open PySem PySem.Spec PyProof.Rows
structure zji (h:Heap) (x dx C:Addr) (mA:Str→Option Value):Prop where
 obj:h.get? x=some (PySem.W.instObj C dx)
 ns:h.Ns1 dx mA
 ne:dx≠x
theorem zdi {h:Heap}{dx:Addr}{mA:Str→Option Value} (n:h.Ns1 dx mA):∃ od,h.get? dx=some od∧∀ name,PySem.W.lookIn name od=some (mA name):=by
 obtain⟨o,es,ep,ho,hd,hk,_,hm⟩:=n
 refine⟨o,ho,fun name=>?_⟩
 have e:=hm name
 unfold nsFind findBy at e
 rw[← Array.find?_toList] at e
 unfold PySem.W.lookIn
 rw[hd]
 dsimp only
 split
 ·rename_i y q
  rw[q] at e
  exact congrArg some e
 ·rename_i q
  rw[q] at e
  have a:es.toList.any (·.refKey)=false:=by
   rw[List.any_eq_false]
   intro y hy
   obtain⟨z,t,hkey⟩:=hk y (Array.mem_toList_iff.mp hy)
   simp[DictEntry.refKey,hkey]
  have a':¬ es.toList.any (·.refKey)=true:=by rw[a];exact Bool.false_ne_true
  rw[if_neg a']
  exact congrArg some e
theorem zji.look {h:Heap}{x dx C:Addr}{mA:Str→Option Value} (I:zji h x dx C mA):∃ od,PySem.W.InstAt h x (PySem.W.instObj C dx) C (some od)∧∀ name,PySem.W.lookIn name od=some (mA name):=
 let ⟨od,ho,hl⟩:=zdi I.ns
 ⟨od,⟨I.obj,rfl,rfl,ho⟩,hl⟩
section
variable {prog:Program}{w:World}{A:Around}{E:Value→Shared→Prop}{s:Shared}{K:PySem.W.Frag}{x dx C f:Addr}{mA:Str→Option Value}{name:Str}{v:Value}
theorem zjj {expr:Bool}{Q:Value→Shared→Prop} (X:K.In s.heap) (I:zji s.heap x dx C mA) (hg:PySem.W.plainGet K C name=true) (hh:PySem.W.hasDictIn K C=true)
  (ha:PySem.W.findIn K (.ref C) name=some none) (hv:mA name=some v) (hv':PySem.W.handedIn v=true) (h:Q v { s with toks:=s.toks + 1 }) :
  wpAny (model prog w) A (getAttr (.ref x) name expr) Q E s:=by
 obtain⟨od,J,hl⟩:=I.look
 exact PySem.W.get_value X J (PySem.W.plainGet_of hg).1 (PySem.W.findObj_own hh ha rfl (by rw[hl,hv])) hv' h
theorem zh7 {pl:Sem Bool}{Q:Value×List Value→Shared→Prop} (X:K.In s.heap) (I:zji s.heap x dx C mA) (hg:PySem.W.plainGet K C name=true)
  (hf:PySem.W.findIn K (.ref C) name=some (some (.ref f))) (ht:PySem.W.isFn K (.ref f)=true) (hv:mA name=none) (h:Q (.ref f,[.ref x]) s) :
  wpAny (model prog w) A (getMethod (.ref x) name pl) Q E s:=by
 obtain⟨od,J,hl⟩:=I.look
 exact PySem.W.method_fn X J (PySem.W.plainGet_of hg).1 (PySem.W.plainGet_of hg).2 hf (beq_iff_eq.mp ht) (by show(PySem.W.lookIn name od).map (·.isSome)=some false;rw[hl,hv];rfl) h
theorem zjk {ns:List Str}{Q:Unit→Shared→Prop} (X:K.In s.heap) (I:zji s.heap x dx C mA)
  (hs:PySem.W.findIn K (.ref C) "__setattr__"=some (some (.builtin "object.__setattr__"))) (hp:PySem.W.plainOver K C=true) (ht:PySem.W.takerIn K C name=some none) (hh:PySem.W.hasDictIn K C=true)
  (hw:PySem.Within mA ns) (hsz:ns.length≤sizeLine)
  (h:∀ h',zji h' x dx C (fun y=>if y=name then some v else mA y)→Heap.SameBut dx s.heap h'→Q () { s with heap:=h',toks:=s.toks + 2 }) :
  wpAny (model prog w) A (setAttr (.ref x) name v) Q E s:=by
 obtain⟨od,J,hl⟩:=I.look
 refine PySem.W.set_plain X J hs (PySem.W.osa_open (s:={ s with toks:=s.toks + 1 }) (r:=none) X J hp ht fun b=>?_)
 obtain⟨cd,hc,hd'⟩:=PySem.W.any_some hh
 have hx:s.heap.get? x=some ⟨.ref C,some dx,.plain,#[]⟩:=I.obj
 refine wpAny_bind (wpAny_pure (wpAny_bind (wpAny_bind (wpAny_loadPart hx (wpAny_bind (PySem.W.Looks.here (s:={ s with toks:=s.toks + 1 }) (PySem.W.looks_clsIn X hc) ?_))))))
 rw[hd']
 refine wpAny_pure (a:=some dx) (wpAny_bind (wpAny_pure (wpAny_bind ?_)))
 refine wpAny_nsSet1 (s:={ s with toks:=s.toks + 1 }) I.ns fun h' hn2 hs2=>?_
 obtain⟨oD,esD,epD,hoD,hdD,hcD⟩:=hn2.count (PySem.Within.cons name v hw)
 refine wpAny_bind (wpAny_lookBehind hoD (by rw[hdD];exact pastItsLine_dict (Nat.le_trans hcD (by rw[List.length_cons];omega))) ?_)
 exact wpAny_pure (h _ ⟨(hs2.2 _ (Ne.symm I.ne)).trans I.obj,hn2,I.ne⟩ hs2)
theorem zh8 {R:Result→Shared→Prop}{vs:List Value}{kw:List (Str×Value)} (X:K.In s.heap) (hm:PySem.W.makesIn K C=true)
  (hi:PySem.W.findIn K (.ref C) "__init__"=some (some (.ref f))) (hf:PySem.W.typeIn K (.ref f)=some (.type "function"))
  (h:codeAny (model prog w) (A.under (.builtin "type.__call__" ⟨.ref C::vs,kw⟩)) (.call (.ref f) ⟨.ref (s.heap.objs.size + 1)::vs,kw⟩) (PySem.W.InitBack (s.heap.objs.size + 1) R)
   { s with heap:=(s.heap.push PySem.W.emptyDict).push (PySem.W.instObj C s.heap.objs.size) }) :
  codeAny (model prog w) A (.call (.ref C) ⟨vs,kw⟩) R s:=by
 obtain⟨hh,g,d,t,os⟩:=s
 exact PySem.W.make_core (PySem.W.makes_of X hm) (PySem.W.looks_findIn X hi) (fun self=>PySem.W.bind_fn X self hf) (.inl rfl) h
end
def zev (f:Str) (v:V):List (Str×V)→List (Str×V)
 | []=>[(f,v)]
 | (g,x)::r=>if g=f then(g,v)::r else(g,x)::zev f v r
theorem zdj (f g:Str) (v:V):∀ fs:List (Str×V),(zev f v fs).lookup g=if g=f then some v else fs.lookup g
 | []=>by
  show List.lookup g [(f,v)]=_
  by_cases h:g=f
  ·have hb:(g == f)=true:=beq_iff_eq.mpr h
   simp only[List.lookup,hb,if_pos h]
  ·have hb:(g == f)=false:=beq_eq_false_iff_ne.mpr h
   simp only[List.lookup,hb,if_neg h]
 | (k,x)::r=>by
  have ih:=zdj f g v r
  rw[show zev f v ((k,x)::r)=(if k=f then(k,v)::r else(k,x)::zev f v r) from rfl]
  by_cases hk:k=f
  ·rw[if_pos hk]
   by_cases h:g=k
   ·have hb:(g == k)=true:=beq_iff_eq.mpr h
    simp only[List.lookup,hb,if_pos (h.trans hk)]
   ·have hb:(g == k)=false:=beq_eq_false_iff_ne.mpr h
    simp only[List.lookup,hb,if_neg (fun e:g=f=>h (e.trans hk.symm))]
  ·rw[if_neg hk]
   by_cases h:g=k
   ·have hb:(g == k)=true:=beq_iff_eq.mpr h
    simp only[List.lookup,hb,if_neg (fun e:g=f=>hk (h.symm.trans e))]
   ·have hb:(g == k)=false:=beq_eq_false_iff_ne.mpr h
    simp only[List.lookup,hb]
    exact ih
theorem zdk (f:Str) (v:V):∀ fs:List (Str×V),f∈(zev f v fs).map (·.1)∧∀ g,g∈fs.map (·.1)→g∈(zev f v fs).map (·.1)
 | []=>⟨by simp[zev],fun g h=>by simp at h⟩
 | (k,x)::r=>by
  obtain⟨i1,i2⟩:=zdk f v r
  rw[show zev f v ((k,x)::r)=(if k=f then(k,v)::r else(k,x)::zev f v r) from rfl]
  by_cases hk:k=f
  ·rw[if_pos hk]
   subst hk
   exact⟨by simp,fun g h=>by simpa using h⟩
  ·rw[if_neg hk]
   refine⟨?_,fun g h=>?_⟩
   ·rw[List.map_cons]
    exact List.mem_cons_of_mem _ i1
   ·rw[List.map_cons] at h ⊢
    rcases List.mem_cons.mp h with e|e
    ·exact List.mem_cons.mpr (.inl e)
    ·exact List.mem_cons_of_mem _ (i2 g e)
theorem zdl (f:Str) (v:V):∀ fs:List (Str×V),(zev f v fs).length≤fs.length + 1
 | []=>by simp[zev]
 | (k,x)::r=>by
  have ih:=zdl f v r
  rw[show zev f v ((k,x)::r)=(if k=f then(k,v)::r else(k,x)::zev f v r) from rfl]
  by_cases hk:k=f
  ·rw[if_pos hk,List.length_cons,List.length_cons];omega
  ·rw[if_neg hk,List.length_cons,List.length_cons];omega
theorem zex.some_of {v:V}{o:Option Value} (r:zex (some v) o):∃ u,o=some u∧zaQ v u:=by
 cases o with
 | none=>exact(show False from r).elim
 | some u=>exact⟨u,rfl,r⟩
theorem zex.none_of {o:Option Value} (r:zex none o):o=none:=by
 cases o with
 | none=>rfl
 | some u=>exact(show False from r).elim
theorem zeD {v:V}{u:Value} (r:zaQ v u):PySem.W.handedIn u=true:=by
 cases v with
 | non=>cases (show u=Value.none from r);rfl
 | bl b=>cases (show u=Value.bool b from r);rfl
 | int i=>obtain⟨t,e⟩:=(show ∃ t,u=Value.int i t from r);cases e;rfl
 | str x=>obtain⟨t,e⟩:=(show ∃ t,u=Value.str x t from r);cases e;rfl
 | byt b=>obtain⟨t,e⟩:=(show ∃ t,u=Value.bytes b t from r);cases e;rfl
 | flt b=>obtain⟨t,e⟩:=(show ∃ t,u=Value.float b t from r);cases e;rfl
 | ref a=>cases (show u=Value.ref a from r);rfl
 | ty n=>cases (show u=Value.type n from r);rfl
section
variable {P:Program}{w:World}{H H':Hp}{h h':Heap}{a C dx:Addr}{fs fs':List (Str×V)}
theorem zeg (hok:HOk P w H h) (e:H a=some (.ins C dx fs)):∃ mA,zji h a dx C mA∧(∀ f,zex (fs.lookup f) (mA f))∧PySem.Within mA (fs.map (·.1))∧fs.length≤1000∧H dx=some (.own a):=by
 obtain⟨d,z,ne,ob,mA,n,r,q⟩:=(show zbe P w H h a (.ins C dx fs) from hok a _ e)
 exact⟨mA,⟨ob,n,ne⟩,r,q,z,d⟩
end
structure Cls (K:PySem.W.Frag) (C:Addr):Prop where
 pg:PySem.W.plainGet K C Str.empty=true
 hd:PySem.W.hasDictIn K C=true
 po:PySem.W.plainOver K C=true
 sa:PySem.W.findIn K (.ref C) "__setattr__"=some (some (.builtin "object.__setattr__"))
theorem Cls.get {K:PySem.W.Frag}{C:Addr} (c:Cls K C) (f:Str):PySem.W.plainGet K C f=true:=c.pg
def zbP (K:PySem.W.Frag) (C:Addr) (f:Str):Prop:=PySem.W.findIn K (.ref C) f=some none
theorem zbP.taker {K:PySem.W.Frag}{C:Addr}{f:Str} (n:zbP K C f):PySem.W.takerIn K C f=some none:=by
 unfold PySem.W.takerIn
 rw[show PySem.W.findIn K (.ref C) f=some none from n]
 rfl
structure Con (K:PySem.W.Frag) (C:Addr) (f:Str) (v:V) (u:Value):Prop where
 at_:PySem.W.findIn K (.ref C) f=some (some u)
 rel:zaQ v u
 get:PySem.W.specialIn K u "__get__"=some none
 cp:PySem.W.copiedNames.contains f=false
structure Meth (K:PySem.W.Frag) (C:Addr) (m:Str) (f:Addr):Prop where
 at_:PySem.W.findIn K (.ref C) m=some (some (.ref f))
 fn:PySem.W.isFn K (.ref f)=true
 kp:PySem.W.keepIn K (.ref f)=true
section
variable {X:Cx}{pins:List (Addr×Obj)}{σ:St}{H:Hp}{s:Shared}{a C dx:Addr}{fs:List (Str×V)}{f:Str}{v:V}{A:Around}{E:Value→Shared→Prop}
theorem zf5 {b:Bool}{Q:Value→Shared→Prop} (I:Inv X pins σ H s) (e:H a=some (.ins C dx fs)) (c:Cls X.K C) (n:zbP X.K C f) (l:fs.lookup f=some v)
  (h:∀ u s',Inv X pins σ H s'→zaQ v u→Q u s'):wpAny (model X.prog X.w) A (getAttr (.ref a) f b) Q E s:=by
 obtain⟨mA,O,r,_,_,_⟩:=zeg I.hok e
 obtain⟨u,hu,ru⟩:=zex.some_of (v:=v) (o:=mA f) (by rw[← l];exact r f)
 exact zjj I.kIn O (c.get f) c.hd n hu (zeD ru) (h u _ (I.tok _) ru)
theorem zdY {m:Str}{g:Addr}{pl:Sem Bool}{Q:Value×List Value→Shared→Prop} (I:Inv X pins σ H s) (e:H a=some (.ins C dx fs)) (c:Cls X.K C) (k:Meth X.K C m g) (l:fs.lookup m=none)
  (h:Q (.ref g,[.ref a]) s):wpAny (model X.prog X.w) A (getMethod (.ref a) m pl) Q E s:=by
 obtain⟨mA,O,r,_,_,_⟩:=zeg I.hok e
 have hn:mA m=none:=zex.none_of (by rw[← l];exact r m)
 exact zh7 I.kIn O (c.get m) k.at_ k.fn hn h
theorem zf6 {y:V}{u:Value}{Q:Unit→Shared→Prop} (I:Inv X pins σ H s) (e:H a=some (.ins C dx fs)) (c:Cls X.K C) (n:zbP X.K C f) (hl:fs.length<1000) (ry:zaQ y u)
  (h:∀ s',Inv X pins σ (upd H a (.ins C dx (zev f y fs))) s'→Q () s'):wpAny (model X.prog X.w) A (setAttr (.ref a) f u) Q E s:=by
 obtain⟨mA,O,r,wi,_,ho⟩:=zeg I.hok e
 have hz:(fs.map (·.1)).length≤sizeLine:=by rw[List.length_map,sizeLine_eq];omega
 refine zjk I.kIn O c.sa c.po n.taker c.hd wi hz fun h' O' sb=>h _ ?_
 have hd:∃ o,h'.get? dx=some o:=let ⟨o,_,_,e',_⟩:=O'.ns;⟨o,e'⟩
 refine I.write (x:=a) (e:=dx) (by rw[e];exact True.intro) (.inr ho) (fun b q hb z=>(sb.2 b hb).trans z) hd ?_
 refine⟨by rw[zaf O.ne];exact ho,?_,O.ne,O'.obj,_,O'.ns,fun g=>?_,fun g hg=>?_⟩
 ·have:=zdl f y fs;omega
 ·show zex ((zev f y fs).lookup g) (if g=f then some u else mA g)
  rw[zdj]
  by_cases q:g=f
  ·rw[if_pos q,if_pos q];exact ry
  ·rw[if_neg q,if_neg q];exact r g
 ·by_cases q:g=f
  ·rw[q];exact(zdk f y fs).1
  ·refine(zdk f y fs).2 g (wi g fun z=>hg ?_)
   show(if g=f then some u else mA g)=none
   rw[if_neg q];exact z
theorem Inv.made (I:Inv X pins σ H s):Inv X pins σ (upd (upd H s.heap.objs.size (.own (s.heap.objs.size + 1))) (s.heap.objs.size + 1) (.ins C s.heap.objs.size []))
  { s with heap:=(s.heap.push PySem.W.emptyDict).push (PySem.W.instObj C s.heap.objs.size) }:=by
 have e1:(s.heap.push PySem.W.emptyDict).get? s.heap.objs.size=some PySem.W.emptyDict:=Heap.get?_push_size s.heap rfl
 have e2:((s.heap.push PySem.W.emptyDict).push (PySem.W.instObj C s.heap.objs.size)).get? (s.heap.objs.size + 1)=some (PySem.W.instObj C s.heap.objs.size):=by
  have:=Heap.get?_push_size (s.heap.push PySem.W.emptyDict) (o:=PySem.W.instObj C s.heap.objs.size) rfl
  rwa [Heap.size_push] at this
 have e3:(s.heap.push PySem.W.emptyDict).Ns s.heap.objs.size (fun _=>none):=⟨PySem.W.emptyDict,#[],_,e1,rfl,(fun e he=>absurd he (by simp)),fun _=>rfl⟩
 have I1:=I.laid (a:=s.heap.objs.size) (o:=.own (s.heap.objs.size + 1)) (h':=s.heap.push PySem.W.emptyDict) (t':=s.toks) (fun b u q=>Heap.get?_push_of_some _ q) (Nat.le_refl _) ⟨_,e1⟩
 refine I1.laid (a:=s.heap.objs.size + 1) (o:=.ins C s.heap.objs.size []) (t':=s.toks) (fun b u q=>Heap.get?_push_of_some _ q) (Nat.le_of_eq (Heap.size_push _ _)) ?_
 have ne:s.heap.objs.size≠s.heap.objs.size + 1:=Nat.ne_of_lt (Nat.lt_succ_self _)
 refine⟨by rw[zaf ne,zab],Nat.zero_le _,ne,e2,fun _=>none,(Heap.Ns1.of_empty e3).at fun o q=>Heap.get?_push_of_some _ q,fun _=>True.intro,fun y hy=>absurd rfl hy⟩
theorem zgK {prog:Program}{w:World}{env:Env}{e:Expr}{f:Str}{pos:Pos}{s:Shared}{Q:Value→Shared→Prop} (hb:attributeBase e f env (eval e env)=eval e env)
  (h:wpAny (model prog w) A (eval e env) (fun o s₁=>wpAny (model prog w) A (getAttr o f true) Q E s₁) E s):wpAny (model prog w) A (eval (.Attribute e f pos) env) Q E s:=
 Attribute_any_ h (by rw[arm_eval_Attribute,hb])
end
def tFld (K:PySem.W.Frag) (ta:TE) (f:Str):TE:=fun σ H Q=>ta σ H fun x H1=>∃ a C dx fs v,x=.ref a∧H1 a=some (.ins C dx fs)∧Cls K C∧zbP K C f∧fs.lookup f=some v∧Q v H1
def sFld (K:PySem.W.Frag) (ta tv:TE) (f:Str):TS:=fun D σ H=>tv σ H fun y H1=>ta σ H1 fun x H2=>∃ a C dx fs,x=.ref a∧H2 a=some (.ins C dx fs)∧Cls K C∧zbP K C f∧fs.length<1000 ∧
 D.nx σ (upd H2 a (.ins C dx (zev f y fs)))
section
variable {X:Cx}{o e value:Expr}{f:Str}{pos pos' tpos:Pos}{ta tv:TE}
theorem zfC (he:PE X e ta) (hb:attributeBase e f X.env (eval e X.env)=eval e X.env):PE X (.Attribute e f pos) (tFld X.K ta f):=by
 intro pins s σ H Q I h
 refine zgK hb (thn (he pins s σ H _ I h) fun u s1=>L2.ex5 fun x H1 I1 rx hq_=>?_)
 obtain⟨a,C,dx,fs,v,ex,ea,c,n,l,q⟩:=hq_
 subst ex
 obtain rfl:u=Value.ref a:=rx
 exact zf5 I1 ea c n l fun u' s2 I2 ru=>⟨v,H1,I2,ru,q⟩
theorem zfD (ha:PE X o ta) (hv:PE X value tv) (hs:swapsWith value (some (.Attribute o f pos')) pos.line X.env=pure false):PS X (.Assign [.Attribute o f pos'] value pos) (sFld X.K ta tv f):=by
 intro pins s σ H D I h
 refine plainObj_wpAny_Assign_Attribute (thn (hv pins s σ H _ I h) fun u s1=>L2.ex5 fun y H1 I1 ry q=>thn (ha pins s1 σ H1 _ I1 q) fun ov s2=>L2.ex5 fun x H2 I2 rx hq_=>?_) hs
 obtain⟨a,C,dx,fs,ex,ea,c,n,l,q2⟩:=hq_
 subst ex
 obtain rfl:ov=Value.ref a:=rx
 exact zf6 I2 ea c n l ry fun s3 I3=>⟨σ,_,I3,q2⟩
end
section
variable {X:Cx}{pins:List (Addr×Obj)}{σ:St}{H:Hp}{s:Shared}{A:Around}{E:Value→Shared→Prop}{Q:Value→Shared→Prop}{c:Value}{b:Bool}
inductive zf7 (K:PySem.W.Frag) (H:Hp):V→Value→Prop where
 | non:zf7 K H .non (.type "NoneType")
 | bl (x:Bool):zf7 K H (.bl x) (.type "bool")
 | int (i:Int):zf7 K H (.int i) (.type "int")
 | str (x:Str):zf7 K H (.str x) (.type "str")
 | flt (x:UInt64):zf7 K H (.flt x) (.type "float")
 | lst {a:Addr}{xs:List V} (e:H a=some (.lst xs)):zf7 K H (.ref a) (.type "list")
 | frz {a:Addr}{o:Obj}{xs:List V} (e:H a=some (.frz o (.lst xs))):zf7 K H (.ref a) (.type "list")
 | tup {a:Addr}{xs:List V} (e:H a=some (.tup xs)):zf7 K H (.ref a) (.type "tuple")
 | dK {a:Addr}{kvs:List (Key×V)} (e:H a=some (.dK kvs)):zf7 K H (.ref a) (.type "dict")
 | dT {a:Addr}{kvs:List (List Key×V)} (e:H a=some (.dT kvs)):zf7 K H (.ref a) (.type "dict")
 | ins {a C dx:Addr}{fs:List (Str×V)} (e:H a=some (.ins C dx fs)) (cl:Cls K C) (ha:PySem.W.findIn K (.ref C) "__class__"=some (some (.builtin "object.__class__")))
   (hn:PySem.W.specialIn K (.builtin "object.__class__") "__get__"=some (some (.builtin "getset_descriptor.__get__"))) (htk:PySem.W.takesIn K (.builtin "object.__class__")=some true)
   (hm:PySem.W.mroIn K C (.type "object")=some true):zf7 K H (.ref a) (.ref C)
theorem zgL {x:V}{u t:Value} (I:Inv X pins σ H s) (rx:zaQ x u) (ty:zf7 X.K H x t) (e:PySem.W.kitOne X.K t c=some b) (h:∀ tk,Q (.bool b) { s with toks:=tk }) :
  wpAny (model X.prog X.w) A (call (.builtin "isinstance") [u,c]) Q E s:=by
 cases ty with
 | non=>cases (show u=Value.none from rx);exact PySem.W.kia_one PySem.W.kitx_none I.kIn True.intro e (fun z=>nomatch z) h
 | bl y=>cases (show u=Value.bool y from rx);exact PySem.W.kia_one PySem.W.kitx_bool I.kIn True.intro e (fun z=>nomatch z) h
 | int i=>obtain⟨t,q⟩:=(show ∃ t,u=Value.int i t from rx);cases q;exact PySem.W.kia_one PySem.W.kitx_int I.kIn True.intro e (fun z=>nomatch z) h
 | str y=>obtain⟨t,q⟩:=(show ∃ t,u=Value.str y t from rx);cases q;exact PySem.W.kia_one PySem.W.kitx_str I.kIn True.intro e (fun z=>nomatch z) h
 | flt y=>obtain⟨t,q⟩:=(show ∃ t,u=Value.float y t from rx);cases q;exact PySem.W.kia_one PySem.W.kitx_float I.kIn True.intro e (fun z=>nomatch z) h
 | @lst a xs ea=>
  cases (show u=Value.ref a from rx)
  obtain⟨_,_,n,_,h1⟩:=(show zbe X.prog X.w H s.heap a (.lst xs) from I.hok a _ ea)
  exact PySem.W.kia_one PySem.W.kitx_list I.kIn ⟨_,h1,rfl⟩ e (fun z=>nomatch z) h
 | @frz a ob xs ea=>
  cases (show u=Value.ref a from rx)
  obtain⟨_,_,_,n,_,h1⟩:=(show zbe X.prog X.w H s.heap a (.frz ob (.lst xs)) from I.hok a _ ea)
  exact PySem.W.kia_one PySem.W.kitx_list I.kIn ⟨_,h1,rfl⟩ e (fun z=>nomatch z) h
 | @tup a xs ea=>
  cases (show u=Value.ref a from rx)
  obtain⟨_,_,_,p⟩:=(show zbe X.prog X.w H s.heap a (.tup xs) from I.hok a _ ea)
  obtain⟨o,h1,h2,_⟩:=p
  exact PySem.W.kia_one PySem.W.kitx_tuple I.kIn ⟨o,h1,h2⟩ e (fun z=>nomatch z) h
 | @dK a kvs ea=>
  cases (show u=Value.ref a from rx)
  obtain⟨_,_,vs,_,p⟩:=(show zbe X.prog X.w H s.heap a (.dK kvs) from I.hok a _ ea)
  obtain⟨o,es,ep,h1,h2,_⟩:=p
  exact PySem.W.kia_one PySem.W.kitx_dict I.kIn ⟨o,h1,h2.1⟩ e (fun z=>nomatch z) h
 | @dT a kvs ea=>
  cases (show u=Value.ref a from rx)
  obtain⟨_,_,xs,_,o,es,ep,h1,h2,_⟩:=(show zbe X.prog X.w H s.heap a (.dT kvs) from I.hok a _ ea)
  exact PySem.W.kia_one PySem.W.kitx_dict I.kIn ⟨o,h1,h2.1⟩ e (fun z=>nomatch z) h
 | @ins a C dx fs ea cl ha hn htk hm=>
  cases (show u=Value.ref a from rx)
  obtain⟨mA,O,_⟩:=zeg I.hok ea
  obtain⟨od,J,_⟩:=O.look
  exact PySem.W.kia_one (PySem.W.kitx_own (cl.get _) cl.hd ha hn htk hm) I.kIn J e (fun z=>nomatch z) h
end
end L2
namespace L2
open PySem PySem.Spec PyProof.Rows
structure zb7 (k:Nat) (A:Around):Prop where
 dp:A.depth + 3 * k + 5<recursionLimit
 un:A.units + 16 * k + 200<cLine
theorem zb7.mono {j k:Nat}{A:Around} (r:zb7 k A) (h:j≤k):zb7 j A:=⟨by have:=r.dp;omega,by have:=r.un;omega⟩
theorem zb7.deeper {k:Nat}{A:Around} (r:zb7 (k + 1) A) (env:Env):zb7 k (A.deeper env):=
 ⟨by have:=r.dp;show A.depth + 1 + 3 * k + 5<_;omega,by have:=r.un;show A.units + 3 + 16 * k + 200<_;omega⟩
theorem zf8 {A:Around}{C:Addr}{us:List Value}{kw:List (Str×Value)}:(A.under (.builtin "type.__call__" ⟨.ref C::us,kw⟩)).depth=A.depth + 1:=by
 first|rfl|simp[Around.under,Code.weight,Code.isCreation,Code.isGuard,Code.isCaller,Code.frames,Code.isFrame,guardIds]
theorem zf9 {A:Around}{C:Addr}{us:List Value}{kw:List (Str×Value)}:(A.under (.builtin "type.__call__" ⟨.ref C::us,kw⟩)).units=A.units + 1:=by
 first|rfl|simp[Around.under,Code.cUnits,Code.frames,Code.isFrame]
theorem zb7.make {k:Nat}{A:Around} (r:zb7 (k + 1) A) (C:Addr) (us:List Value) (kw:List (Str×Value)):zb7 k (A.under (.builtin "type.__call__" ⟨.ref C::us,kw⟩)):=
 ⟨by have:=r.dp;rw[zf8];omega,by have:=r.un;rw[zf9];omega⟩
theorem zb7.depth {k:Nat}{A:Around} (r:zb7 k A):A.depth<recursionLimit:=by have:=r.dp;omega
theorem zb7.units {k:Nat}{A:Around} (r:zb7 k A):A.units + 64<cLine:=by have:=r.un;omega
def zhY:TA:=fun _ H Q=>Q [] H
def tCons (ta:TE) (tr:TA):TA:=fun σ H Q=>ta σ H fun x H1=>tr σ H1 fun xs H2=>Q (x::xs) H2
section
variable {X:Cx}{e:Expr}{es:List Expr}{te:TE}{t:TA}{pos:Pos}
theorem zad:PA X [] zhY:=fun _ _ _ _ H Q I h=>Calls.spliced_nil ⟨[],H,I,.nil,h⟩
theorem zaa (ha:PE X e te) (hr:PA X es t) (hs:starEach (e::es) X.env=(false,eval e X.env)::starEach es X.env:=by rfl):PA X (e::es) (tCons te t):=by
 intro pos pins s σ H Q I h
 rw[hs]
 show wpAny _ _ (spliced ((false,eval e X.env)::backTo pos (starEach es X.env))) _ _ s
 refine Calls.spliced_cons (thn (ha pins s σ H _ I h) fun u s1=>L2.ex5 fun x H1 I1 r1 q1=>?_)
 exact thn (hr pos pins s1 σ H1 _ I1 q1) fun us s2 ⟨xs,H2,I2,r2,q2⟩=>⟨x::xs,H2,I2,.cons r1 r2,q2⟩
def tTup (t:TA):TE:=fun σ H Q=>t σ H fun xs H1=>xs.length≤sizeLine∧∀ p,H1 p=none→Q (.ref p) (upd H1 p (.tup xs))
def tLst (t:TA):TE:=fun σ H Q=>t σ H fun xs H1=>xs.length≤sizeLine∧∀ p,H1 p=none→Q (.ref p) (upd H1 p (.lst xs))
theorem zbQ {x1} (h:PA X es t):PE X (.Tuple es x1 pos) (tTup t):=by
 intro pins s σ H Q I hq
 refine wpAny_Tuple_spliced (thn (h pos pins s σ H _ I hq) fun us s1 ⟨xs,H1,I1,r,z,q⟩=>⟨by rw[← r.length];exact z,?_⟩)
 have hf:H1 s1.heap.objs.size=none:=I1.hok.fresh (Nat.le_refl _)
 refine⟨.ref s1.heap.objs.size,upd H1 s1.heap.objs.size (.tup xs),I1.laid (t':=s1.toks) (fun b u e=>Heap.get?_push_of_some _ e) (Nat.le_refl _) ?_,rfl,q _ hf⟩
 exact⟨z,us,r,⟨_,Heap.get?_push_size _ rfl,rfl,_,rfl⟩⟩
theorem zaY (h:PA X es t):PE X (.List es pos) (tLst t):=by
 intro pins s σ H Q I hq
 refine wpAny_List_spliced (thn (h pos pins s σ H _ I hq) fun us s1 ⟨xs,H1,I1,r,z,q⟩=>⟨by rw[← r.length];exact z,?_⟩)
 have hf:H1 s1.heap.objs.size=none:=I1.hok.fresh (Nat.le_refl _)
 refine⟨.ref s1.heap.objs.size,upd H1 s1.heap.objs.size (.lst xs),I1.laid (t':=s1.toks) (fun b u e=>Heap.get?_push_of_some _ e) (Nat.le_refl _) ?_,rfl,q _ hf⟩
 exact⟨z,us,0,r,Heap.get?_push_size _ rfl⟩
end
abbrev Sp:=List V→Hp→VK→XK→Prop
abbrev CXT:=List Env→Hp→Shared→XK→Value→Shared→Prop
structure zjl (P:Program) (w:World) (K:PySem.W.Frag) (mg:Str→Option Value) (base:Heap) (A:Around) (outer:List Env) (s:Shared) (H:Hp):Prop where
 frames:A.frames=some outer
 mod:Mod K mg base
 bs:∀ b o,base.get? b=some o→s.heap.get? b=some o∧H b=none
 bsz:base.objs.size≤s.heap.objs.size
 funs:s.heap.FunFrames base outer
 frf:∀ b∈frs outer,H b=none
 hok:HOk P w H s.heap
 bare:AllBare s.gens
 hd:zgA A H
def CE (outer:List Env) (P:Program) (w:World) (H:Hp) (s:Shared) (Q:VK) (u:Value) (s':Shared):Prop:=
 ∃ v H',s'.os=s.os∧AllBare s'.gens∧Un (frs outer) [] H H' s.heap s'.heap∧HOk P w H' s'.heap∧zaQ v u∧Q v H'
def CR (CX:CXT) (outer:List Env) (P:Program) (w:World) (H:Hp) (s:Shared) (Q:VK) (E:XK) (r:Result) (s':Shared):Prop:=
 match r with
 | .ok (.ret u)=>CE outer P w H s Q u s'
 | .ok _=>False
 | .error e=>CX outer H s E e s'
structure zc5 (P:Program) (w:World) (K:PySem.W.Frag) (mg:Str→Option Value) (base:Heap) (CX:CXT) (k:Nat) (f:Addr) (fd:FuncData) (ps:List Str) (sp:Sp):Prop where
 len:∀ vs H Q E,sp vs H Q E→vs.length=ps.length
 run:∀ (A:Around) (outer:List Env) (s:Shared) (H:Hp) (args:Args) (us:List Value) (vs:List V) (Q:VK) (E:XK),zb7 k A→zjl P w K mg base A outer s H→BindsTo s fd args (ps.zip us)→zaK vs us→sp vs H Q E →
  codeAny (model P w) A (.call (.ref f) args) (CR CX outer P w H s Q E) s
theorem zjl.make {P:Program}{w:World}{K:PySem.W.Frag}{mg:Str→Option Value}{base:Heap}{A:Around}{outer:List Env}{s:Shared}{H:Hp} (e:zjl P w K mg base A outer s H) (C:Addr) (us:List Value) (kw:List (Str×Value)) :
  zjl P w K mg base (A.under (.builtin "type.__call__" ⟨.ref C::us,kw⟩)) outer s H:=⟨by first|exact e.frames|(simpa [Around.under,Code.envs,Code.isFrame,pushEnvs] using e.frames),e.mod,e.bs,e.bsz,e.funs,e.frf,e.hok,e.bare,e.hd⟩
section
variable {X:Cx}{pins:List (Addr×Obj)}{σ:St}{H:Hp}{s s':Shared}
theorem Inv.env0 (I:Inv X pins σ H s):zjl X.prog X.w X.K X.mg X.base X.A X.stack s H:=
 ⟨I.ok.frames,I.ok.mod,I.bs,Nat.le_trans I.ok.bsz I.sz,I.stack,I.stkFree,I.hok,I.bare,I.hdAt⟩
theorem Inv.after {Q:VK}{u:Value} (I:Inv X pins σ H s) (h:CE X.stack X.prog X.w H s Q u s'):EP X pins σ Q u s':=by
 obtain⟨v,H',os,bare,un,hok,r,q⟩:=h
 obtain⟨hh,g,d,t,os'⟩:=s'
 obtain rfl:os'=s.os:=os
 exact⟨v,H',I.call (h':=hh) (g':=g) (d':=d) (t':=t) (ch:=[]) un hok bare (fun b z=>absurd z (by simp)),r,q⟩
end
def tCall (sp:Sp) (dvs:List V) (E:XK) (t:TA):TE:=fun σ H Q=>t σ H fun vs H1=>sp (vs++dvs) H1 Q E
def zeh (C:Addr) (m:Str) (sp:Sp) (dvs:List V) (E:XK) (ta:TE) (t:TA):TE:=fun σ H Q=>ta σ H fun x H1=>∃ a dx fs,x=.ref a∧H1 a=some (.ins C dx fs)∧fs.lookup m=none ∧
 t σ H1 fun vs H2=>sp (x::(vs++dvs)) H2 Q E
def tMake (C:Addr) (sp:Sp) (dvs:List V) (E:XK) (t:TA):TE:=fun σ H Q=>t σ H fun vs H1=>∀ x dx,H1 x=none→H1 dx=none→dx≠x →
 sp (.ref x::(vs++dvs)) (upd (upd H1 dx (.own x)) x (.ins C dx [])) (fun v H2=>v=.non∧Q (.ref x) H2) E
def zbO (K:PySem.W.Frag) (fd:FuncData) (ps:List Str) (ds:List Value):Prop:=
 ∀ (s:Shared) (us:List Value),K.In s.heap→(us++ds).length=ps.length→BindsTo s fd ⟨us,[]⟩ (ps.zip (us++ds))
theorem zbO.all {K:PySem.W.Frag}{fd:FuncData}{ps:List Str} (h:∀ us:List Value,us.length=ps.length→bindArgs fd ⟨us,[]⟩=pure (ps.zip us)):zbO K fd ps []:=fun s us _ hl=>by
 rw[List.append_nil] at hl ⊢
 exact .of_eq (h us hl)
def zcW (CX:CXT) (X:Cx) (E:XK):Prop:=∀ (pins:List (Addr×Obj)) (σ:St) (H:Hp) (s:Shared) (e:Value) (s':Shared),Inv X pins σ H s→CX X.stack H s E e s'→X.xe e s'
section
variable {X:Cx}{CX:CXT}{k:Nat}{f C:Addr}{fd:FuncData}{ps:List Str}{sp:Sp}{dvs:List V}{ds:List Value}{E:XK}{x m:Str}{p pos apos:Pos}{e o:Expr}{es:List Expr}{ta:TE}{t:TA}
theorem zgM {pins:List (Addr×Obj)}{σ:St}{H:Hp}{s:Shared}{Q:VK}{us:List Value}{vs:List V} (F:zc5 X.prog X.w X.K X.mg X.base CX k f fd ps sp) (hr:zb7 k X.A) (hb:zbO X.K fd ps ds) (hd:zaK dvs ds) (hx:zcW CX X E)
  (I:Inv X pins σ H s) (r:zaK vs us) (h:sp (vs++dvs) H Q E):wpAny (model X.prog X.w) X.A (call (.ref f) us) (EP X pins σ Q) X.xe s:=by
 have r2:zaK (vs++dvs) (us++ds):=r.append hd
 have hl:(us++ds).length=ps.length:=by rw[← r2.length];exact F.len _ _ _ _ h
 refine wpAny_call (codeAny_mono (F.run X.A X.stack s H ⟨us,[]⟩ (us++ds) (vs++dvs) Q E hr I.env0 (hb s us I.kIn hl) r2 h) fun r s' hq=>?_)
 cases r with
 | error e=>exact hx pins σ H s e s' I hq
 | ok fl=>
  cases fl with
  | ret u=>exact I.after hq
  | next=>exact False.elim hq
  | brk=>exact False.elim hq
  | cont=>exact False.elim hq
theorem zjm (F:zc5 X.prog X.w X.K X.mg X.base CX k f fd ps sp) (hr:zb7 k X.A) (hg:Gl X x) (hm:X.mg x=some (.ref f)) (hk:PySem.W.keepIn X.K (.ref f)=true) (hb:zbO X.K fd ps ds) (hd:zaK dvs ds) (hx:zcW CX X E)
  (ha:PA X (e::es) t) (hdb:(x == ("__debug__":Str))=false:=by decide) (he:starEach (e::es) X.env=(false,eval e X.env)::starEach es X.env:=by rfl) (hpl:(backTo pos (starEach es X.env)).any (·.1)=false:=by rfl) :
  PE X (.Call (.Name x p) (e::es) [] pos) (tCall sp dvs E t):=by
 intro pins s σ H Q I h
 refine wpAny_Call_Name_kw (zcL I hg hm ?_ hdb)
 refine PySem.W.callWith_K (h₀:=X.base) I.ok.mod.kin hk (thn (ha pos pins s σ H _ I h) fun us s1=>L2.ex5 fun vs H1 I1 r q=>⟨I1.kIn,?_⟩) he hpl
 exact zgM F hr hb hd hx I1 r q
theorem pe_meth {pl:Sem Bool} (he:PE X o ta) (c:Cls X.K C) (hm:Meth X.K C m f) (F:zc5 X.prog X.w X.K X.mg X.base CX k f fd ps sp) (hr:zb7 k X.A) (hb:zbO X.K fd ps ds) (hd:zaK dvs ds) (hx:zcW CX X E) (ha:PA X (e::es) t)
  (hst:starEach (e::es) X.env=(false,eval e X.env)::starEach es X.env:=by rfl) (hpl:(backTo pos (starEach es X.env)).any (·.1)=false:=by rfl)
  (ht:eval (.Call (.Attribute o m apos) (e::es) [] pos) X.env=(do
   let ov ← eval o X.env
   standAt apos.atName
   let (f,first) ← holding [ov] (getMethod ov m pl)
   callWith pos f first (backTo pos (starEach (e::es) X.env)) (backToKw pos (keywordEach [] X.env))):=by rfl) :
  PE X (.Call (.Attribute o m apos) (e::es) [] pos) (zeh C m sp dvs E ta t):=by
 intro pins s σ H Q I h
 refine PySem.W.methodCall_KW (pl:=pl) (thn (he pins s σ H _ I h) fun u s1=>L2.ex5 fun x H1 I1 rx hq_=>?_) ht
 obtain⟨a,dx,fs,ex,ea,l,q⟩:=hq_
 subst ex
 obtain rfl:u=Value.ref a:=rx
 refine zdY I1 ea c hm l ?_
 refine PySem.W.callWith_K (first:=[.ref a]) (h₀:=X.base) I.ok.mod.kin hm.kp (thn (ha pos pins s1 σ H1 _ I1 q) fun us s2=>L2.ex5 fun vs H2 I2 r q2=>⟨I2.kIn,?_⟩) hst hpl
 exact zgM (us:=.ref a::us) (vs:=.ref a::vs) F hr hb hd hx I2 (.cons rfl r) q2
theorem zh9 {pl:Sem Bool} (he:PE X o ta) (c:Cls X.K C) (hm:Meth X.K C m f) (F:zc5 X.prog X.w X.K X.mg X.base CX k f fd ps sp) (hr:zb7 k X.A) (hb:zbO X.K fd ps ds) (hd:zaK dvs ds) (hx:zcW CX X E)
  (ht:eval (.Call (.Attribute o m apos) [] [] pos) X.env=(do
   let ov ← eval o X.env
   standAt apos.atName
   let (f,first) ← holding [ov] (getMethod ov m pl)
   callWith pos f first (backTo pos (starEach [] X.env)) (backToKw pos (keywordEach [] X.env))):=by rfl) :
  PE X (.Call (.Attribute o m apos) [] [] pos) (zeh C m sp dvs E ta zhY):=by
 intro pins s σ H Q I h
 refine PySem.W.methodCall_KW (pl:=pl) (thn (he pins s σ H _ I h) fun u s1=>L2.ex5 fun x H1 I1 rx hq_=>?_) ht
 obtain⟨a,dx,fs,ex,ea,l,q⟩:=hq_
 subst ex
 obtain rfl:u=Value.ref a:=rx
 refine zdY I1 ea c hm l ?_
 exact PySem.W.callWith_K0 (first:=[.ref a]) I1.kIn hm.kp (zgM (us:=[.ref a]) (vs:=[.ref a]) F hr hb hd hx I1 (.cons rfl .nil) q)
structure Mk (K:PySem.W.Frag) (C f:Addr):Prop where
 makes:PySem.W.makesIn K C=true
 init:PySem.W.findIn K (.ref C) "__init__"=some (some (.ref f))
 fn:PySem.W.isFn K (.ref f)=true
 kp:PySem.W.keepIn K (.ref C)=true
theorem zia {pins:List (Addr×Obj)}{σ:St}{H:Hp}{s:Shared}{Q:VK}{us:List Value}{vs:List V} (M:Mk X.K C f) (F:zc5 X.prog X.w X.K X.mg X.base CX k f fd ps sp) (hr:zb7 (k + 1) X.A) (hb:zbO X.K fd ps ds) (hd:zaK dvs ds)
  (hx:zcW CX X E) (I:Inv X pins σ H s) (r:zaK vs us)
  (h:∀ x dx,H x=none→H dx=none→dx≠x→sp (.ref x::(vs++dvs)) (upd (upd H dx (.own x)) x (.ins C dx [])) (fun v H2=>v=.non∧Q (.ref x) H2) E) :
  wpAny (model X.prog X.w) X.A (call (.ref C) us) (EP X pins σ Q) X.xe s:=by
 have hq:=h (s.heap.objs.size + 1) s.heap.objs.size (I.hok.fresh (Nat.le_succ _)) (I.hok.fresh (Nat.le_refl _)) (Nat.ne_of_lt (Nat.lt_succ_self _))
 have I2:=Inv.made (C:=C) I
 have r2:zaK (V.ref (s.heap.objs.size + 1)::(vs++dvs)) (Value.ref (s.heap.objs.size + 1)::(us++ds)):=.cons rfl (r.append hd)
 have hl:(Value.ref (s.heap.objs.size + 1)::us++ds).length=ps.length:=by
  have e:=r2.length
  rw[F.len _ _ _ _ hq] at e
  exact e.symm
 refine wpAny_call (zh8 (f:=f) I.kIn M.makes M.init (beq_iff_eq.mp M.fn) (codeAny_mono (F.run _ X.stack _ _ ⟨Value.ref (s.heap.objs.size + 1)::us,[]⟩ (Value.ref (s.heap.objs.size + 1)::(us++ds)) _ _ E (hr.make C us [])
  (I2.env0.make C us []) (hb _ (Value.ref (s.heap.objs.size + 1)::us) I2.kIn hl) r2 hq) fun r s' hq'=>?_))
 cases r with
 | error e=>exact hx pins σ _ _ e s' I2 hq'
 | ok fl=>
  cases fl with
  | ret u=>
   obtain⟨v,H',I3,rv,ev,q3⟩:=I2.after hq'
   subst ev
   exact⟨rv,⟨V.ref (s.heap.objs.size + 1),H',I3,rfl,q3⟩⟩
  | next=>exact False.elim hq'
  | brk=>exact False.elim hq'
  | cont=>exact False.elim hq'
theorem zjn (M:Mk X.K C f) (F:zc5 X.prog X.w X.K X.mg X.base CX k f fd ps sp) (hr:zb7 (k + 1) X.A) (hg:Gl X x) (hm:X.mg x=some (.ref C)) (hb:zbO X.K fd ps ds) (hd:zaK dvs ds) (hx:zcW CX X E)
  (ha:PA X (e::es) t) (hdb:(x == ("__debug__":Str))=false:=by decide) (he:starEach (e::es) X.env=(false,eval e X.env)::starEach es X.env:=by rfl) (hpl:(backTo pos (starEach es X.env)).any (·.1)=false:=by rfl) :
  PE X (.Call (.Name x p) (e::es) [] pos) (tMake C sp dvs E t):=by
 intro pins s σ H Q I h
 refine wpAny_Call_Name_kw (zcL I hg hm ?_ hdb)
 refine PySem.W.callWith_K (h₀:=X.base) I.ok.mod.kin M.kp (thn (ha pos pins s σ H _ I h) fun us s1=>L2.ex5 fun vs H1 I1 r q=>⟨I1.kIn,?_⟩) he hpl
 exact zia M F hr hb hd hx I1 r q
end
section
variable {X:Cx}{CX:CXT}{k:Nat}{f C:Addr}{fd:FuncData}{ps ks:List Str}{sp:Sp}{E:XK}{x m:Str}{p pos apos kpos:Pos}{e o:Expr}{es:List Expr}{kws:List Keyword}{te ta:TE}{t tk:TA}{nm:Option Str}
structure KBinds (K:PySem.W.Frag) (fd:FuncData) (ps ks:List Str) (g:List Value→List Value→List Value) (gV:List V→List V→List V):Prop where
 to:∀ (s:Shared) (us ws:List Value),K.In s.heap→(g us ws).length=ps.length→BindsTo s fd ⟨us,ks.zip ws⟩ (ps.zip (g us ws))
 rel:∀ {vs:List V}{us:List Value}{zs:List V}{ws:List Value},zaK vs us→zaK zs ws→zaK (gV vs zs) (g us ws)
variable {g:List Value→List Value→List Value}{gV:List V→List V→List V}
end
structure zan (N P:List Str) (sc:Scope):Prop where
 kind:sc.kind=.function
 co:sc.isCoroutine=false
 gen:sc.isGenerator=false
 nd:N.Nodup
 pre:N.take P.length=P
 par:∀ x∈P,sc.names.lookup x=some .local∨sc.names.lookup x=some .cell
 nofree:∀ y∈sc.names,y.2≠.free
theorem zeE {kindOf:Str→Option NameKind}{x:Str}:∀ {binds:List (Str×Value)}{m:Str→Option Value},(∀ v,(x,v)∉binds)→bindL kindOf binds m x=m x
 | [],_,_=>rfl
 | (n,v)::r,m,h=>by
  unfold bindL
  rw[zeE fun w hw=>h w (List.mem_cons_of_mem _ hw)]
  split
  ·have:x≠n:=by rintro rfl;exact h v List.mem_cons_self
   simp[this]
  ·rfl
theorem zeF {kindOf:Str→Option NameKind}{x:Str}:∀ {binds:List (Str×Value)}{m:Str→Option Value},(∀ v,(x,v)∉binds)→bindC kindOf binds m x=m x
 | [],_,_=>rfl
 | (n,v)::r,m,h=>by
  unfold bindC
  rw[zeF fun w hw=>h w (List.mem_cons_of_mem _ hw)]
  split
  ·rfl
  ·have:x≠n:=by rintro rfl;exact h v List.mem_cons_self
   simp[this]
theorem zeG {kindOf:Str→Option NameKind}{x:Str}{v:Value}:∀ {P:List Str}{vs:List Value}{i:Nat}{m:Str→Option Value},P.Nodup→P[i]?=some x→vs[i]?=some v→kindOf x=some .local →
  bindL kindOf (P.zip vs) m x=some v
 | [],_,_,_,_,h,_,_=>by simp at h
 | _::_,[],_,_,_,_,h,_=>by simp at h
 | p::P,w::vs,0,m,nd,h1,h2,hk=>by
  simp at h1 h2;subst h1;subst h2
  show bindL kindOf ((p,w)::P.zip vs) m p=_
  unfold bindL
  rw[zeE fun v hv=>(List.nodup_cons.mp nd).1 (List.of_mem_zip hv).1,if_pos hk]
  simp
 | p::P,w::vs,i + 1,m,nd,h1,h2,hk=>by
  show bindL kindOf ((p,w)::P.zip vs) m x=_
  unfold bindL
  exact zeG (i:=i) (List.nodup_cons.mp nd).2 (by simpa using h1) (by simpa using h2) hk
theorem zeH {kindOf:Str→Option NameKind}{x:Str}{v:Value}:∀ {P:List Str}{vs:List Value}{i:Nat}{m:Str→Option Value},P.Nodup→P[i]?=some x→vs[i]?=some v→kindOf x≠some .local →
  bindC kindOf (P.zip vs) m x=some v
 | [],_,_,_,_,h,_,_=>by simp at h
 | _::_,[],_,_,_,_,h,_=>by simp at h
 | p::P,w::vs,0,m,nd,h1,h2,hk=>by
  simp at h1 h2;subst h1;subst h2
  show bindC kindOf ((p,w)::P.zip vs) m p=_
  unfold bindC
  rw[zeF fun v hv=>(List.nodup_cons.mp nd).1 (List.of_mem_zip hv).1,if_neg hk]
  simp
 | p::P,w::vs,i + 1,m,nd,h1,h2,hk=>by
  show bindC kindOf ((p,w)::P.zip vs) m x=_
  unfold bindC
  exact zeH (i:=i) (List.nodup_cons.mp nd).2 (by simpa using h1) (by simpa using h2) hk
def zei (N:List Str) (vs:List V):St:=vs.map some++List.replicate (N.length - vs.length) none
def zhZ (CX:CXT) (P:Program) (w:World) (K:PySem.W.Frag) (mg:Str→Option Value) (base:Heap) (N:List Str) (qual:Str) (scope:Scope) (f:Addr) (cd:Value) (A:Around) (outer:List Env) (s:Shared) (H:Hp) (E:XK):Cx where
 prog:=P
 w:=w
 K:=K
 mg:=mg
 base:=base
 A:=A.deeper (envOfC qual scope s.heap.objs.size f cd)
 N:=N
 s₀:=s
 H₀:=H
 env:=envOfC qual scope s.heap.objs.size f cd
 outer:=outer
 stack:=envOfC qual scope s.heap.objs.size f cd::outer
 ex:=[]
 calm:=true
 fn:=fun _=>true
 pn:=[]
 xe:=fun e s'=>wpAny (model P w) (A.deeper (envOfC qual scope s.heap.objs.size f cd)) (leaving (envOfC qual scope s.heap.objs.size f cd) e) (fun _ s''=>CX outer H s E e s'') (fun e' s''=>CX outer H s E e' s'') s'
theorem zfE {sc:Scope}{n:Nat}{x:Str} (h:sc.names.lookup x=some .cell):∃ c,(cellsFrom n sc.names []).lookup x=some c:=by
 have q:=PySem.W.cellsFrom_some sc.names n [] (.inl h)
 exact Option.isSome_iff_exists.mp q
theorem zgN {CX:CXT}{P:Program}{w:World}{K:PySem.W.Frag}{mg:Str→Option Value}{base:Heap}{N ps:List Str}{qual:Str}{scope:Scope}{f:Addr}{cd:Value}{A:Around}{outer:List Env}{s s1:Shared}{H:Hp}{E:XK}{us:List Value}{vs:List V}
  (S:zan N ps scope) (e0:zjl P w K mg base A outer s H) (hl:vs.length=ps.length) (r:zaK vs us)
  (x:InCallC s s.heap.objs.size (bindL (envOfC qual scope s.heap.objs.size f cd).kindOf (ps.zip us) fun _=>none) (cellsFrom (s.heap.objs.size + 1) scope.names []) (bindC (envOfC qual scope s.heap.objs.size f cd).kindOf (ps.zip us) fun _=>none) s1) :
  Inv (zhZ CX P w K mg base N qual scope f cd A outer s H E) [] (zei N vs) H s1:=by
 have hpl:ps.length≤N.length:=by have:=congrArg List.length S.pre;rw[List.length_take] at this;omega
 obtain⟨h1,tk,rfl,hk⟩:=x.done
 have noA:∀ b:Addr,b∉(zhZ CX P w K mg base N qual scope f cd A outer s H E).ex:=fun b z=>absurd (show b∈([]:List Addr) from z) (by simp)
 refine⟨⟨e0.mod,S.kind,rfl,rfl,Nat.le_refl _,fun y z c h1 h2=>?_,fun y hy=>?_,fun y c _ h=>?_,e0.hd,Around.frames_deeper e0.frames,.inr ⟨rfl,rfl⟩,fun b z=>absurd z (noA b),e0.bs,e0.bsz,fun b _ _=>noA b,fun b z=>absurd z (noA b),e0.funs,e0.frf⟩,
  rfl,e0.bare,Un.kept hk,⟨_,x.toInCall.ns,fun i y v h1 h2 h3=>?_⟩,fun y c h=>⟨_,x.cell y c h⟩,e0.hok.fresh (Nat.le_refl _),fun y c h=>?_,fun p hp=>absurd (show p∈([]:List (Addr×Obj)) from hp) (by simp),e0.hok.kept hk,?_⟩
 ·exact name_of_addr x.apart (PySem.mem_of_lookup h1) (PySem.mem_of_lookup h2)
 ·have hy:scope.names.lookup y=some .cell∨scope.names.lookup y=some .free:=hy
  rcases hy with hy|hy
  ·exact zfE hy
  ·exact absurd rfl (S.nofree _ (PySem.mem_of_lookup hy))
 ·exact Nat.le_of_lt (x.above y c (PySem.mem_of_lookup h))
 ·have hi:i<vs.length:=by
   unfold zei at h2
   by_cases hi:i<vs.length
   ·exact hi
   ·rw[List.getElem?_append_right (by simpa using hi)] at h2
    rw[List.getElem?_replicate] at h2
    split at h2 <;> cases h2
  have ha:vs[i]?=some v:=by
   unfold zei at h2
   rw[List.getElem?_append_left (by simpa using hi),List.getElem?_map] at h2
   cases e:vs[i]? with
   | none=>rw[e] at h2;cases h2
   | some a=>rw[e] at h2;cases h2;rfl
  obtain⟨u,hu,rv⟩:=r.get ha
  have hp:ps[i]?=some y:=by
   rw[← S.pre,List.getElem?_take_of_lt (by omega)];exact h1
  have ndP:ps.Nodup:=by rw[← S.pre];exact S.nd.sublist (List.take_sublist _ _)
  refine⟨u,rv,?_⟩
  rcases S.par y (List.mem_of_getElem? hp) with k|k
  ·exact .inl ⟨k,zeG ndP hp hu k⟩
  ·obtain⟨c,e⟩:=zfE (n:=s.heap.objs.size + 1) k
   refine .inr ⟨.inl k,c,e,?_⟩
   have q:=x.cell y c e
   rw[zeH ndP hp hu (by show scope.names.lookup y≠_;rw[k];decide)] at q
   exact q
 ·exact e0.hok.fresh (Nat.le_of_lt (x.above y c (PySem.mem_of_lookup h)))
 ·unfold zei
  show _=N.length
  rw[List.length_append,List.length_map,List.length_replicate]
  omega
theorem fn_of {CX:CXT}{P:Program}{w:World}{K:PySem.W.Frag}{mg:Str→Option Value}{base:Heap}{k:Nat}{f:Addr}{name qual:Str}{params:Arguments}{body:List Stmt}{scope:Scope}{dV kV doc pm cdv ct oc:Value}{an od:Option Addr}
  {osl:Array (Option Value)}{N ps:List Str}{sp:Sp} (lk:K.lookup f=some ⟨oc,od,.func (PySem.W.fnOf name qual params body scope dV kV doc pm an cdv ct),osl⟩) (hcd:PySem.W.codeIn K cdv qual=true) (S:zan N ps scope)
  (len:∀ vs H Q E,sp vs H Q E→vs.length=ps.length)
  (hbody:∀ (A:Around) (outer:List Env) (s:Shared) (H:Hp) (vs:List V) (Q:VK) (E:XK),zb7 k (A.deeper (envOfC qual scope s.heap.objs.size f cdv))→sp vs H Q E →
   ∃ t,PSs (zhZ CX P w K mg base N qual scope f cdv A outer s H E) body t∧t { nx:=fun _ H'=>Q .non H',rt:=Q } (zei N vs) H) :
  zc5 P w K mg base CX (k + 1) f (PySem.W.fnOf name qual params body scope dV kV doc pm an cdv ct) ps sp:=by
 refine⟨len,fun A outer s H args us vs Q E hr e0 hb r hsp=>?_⟩
 have hl:=len _ _ _ _ hsp
 have KX:K.In s.heap:=e0.mod.kin.keeps fun b o e=>(e0.bs b o e).1
 have lim:s.heap.NoLimit:=e0.mod.nolimit.keeps fun b o e=>(e0.bs b o e).1
 have hkind:∀ y∈ps.zip us,scope.names.lookup y.1=some .local∨(scope.names.lookup y.1=some .cell∧((cellsFrom (s.heap.objs.size + 1) scope.names []).lookup y.1).isSome=true):=fun⟨n,v⟩ hy=>by
  rcases S.par n (List.of_mem_zip hy).1 with q|q
  ·exact .inl q
  ·exact .inr ⟨q,PySem.W.cellsFrom_some _ _ _ (.inl q)⟩
 refine codeAny_call_function hr.depth (KX _ _ lk) rfl S.co S.gen rfl (PySem.W.codeRec_of KX hcd) (hb _ _ _ _ ?_)
 refine wpAny_newFunctionEnv_cells S.kind hkind fun env he s1 x=>?_
 subst he
 refine⟨lim.keeps x.toInCall.keep,codeAny_func ?_⟩
 obtain⟨t,ht,hq⟩:=hbody A outer s H vs Q E (hr.deeper _) hsp
 have I:Inv (zhZ CX P w K mg base N qual scope f cdv A outer s H E) [] (zei N vs) H s1:=zgN S e0 hl r x
 refine wpAny_mono (ht [] s1 (zei N vs) H _ I hq) (fun fl s' hs=>?_) fun e s' hs=>hs
 have fin:∀ {σ':St}{H':Hp}{v:V}{u:Value},Inv (zhZ CX P w K mg base N qual scope f cdv A outer s H E) [] σ' H' s'→zaQ v u→Q v H'→CE outer P w H s Q u s':=
  fun {σ' H' v u} J rv q=>⟨v,H',J.os,J.bare,J.base,J.hok,rv,q⟩
 cases fl with
 | ret u=>
  obtain⟨v,σ',H',J,rv,q⟩:=hs
  exact fin J rv q
 | next=>
  obtain⟨σ',H',J,q⟩:=hs
  exact fin (v:=V.non) (u:=Value.none) J rfl q
 | brk=>
  obtain⟨_,_,_,q⟩:=hs
  exact False.elim q
 | cont=>
  obtain⟨_,_,_,q⟩:=hs
  exact False.elim q
end L2
namespace L2
open PySem PySem.Spec PyProof.Rows
section
variable {X:Cx}{x:Str}{p pos:Pos}{e:Expr}{es:List Expr}{t:TA}{id T:String}{r:List V→Hp→VK→Prop}
def tCB (r:List V→Hp→VK→Prop) (t:TA):TE:=fun σ H Q=>t σ H fun vs H1=>r vs H1 Q
theorem zay (hc:zdh X (.builtin id) r) (hg:Gl X x) (hm:X.mg x=none) (hv:bootBuiltins x=some (.builtin id)) (ha:PA X (e::es) t) (hn:x≠"__name__":=by decide) (hdb:(x == ("__debug__":Str))=false:=by decide)
  (he:starEach (e::es) X.env=(false,eval e X.env)::starEach es X.env:=by rfl) (hpl:(backTo pos (starEach es X.env)).any (·.1)=false:=by rfl):PE X (.Call (.Name x p) (e::es) [] pos) (tCB r t):=by
 intro pins s σ H Q I h
 refine wpAny_Call_Name_kw (zez I hg hm hv ?_ hn hdb)
 exact PyProof.Rows.callWith_builtin1 (thn (ha pos pins s σ H _ I h) fun us s1=>L2.ex5 fun vs H1 I1 r1 q1=>hc pins s1 σ H1 vs us Q I1 r1 q1) he hpl
theorem zcs (hc:zdh X (.type T) r) (hg:Gl X x) (hm:X.mg x=none) (hv:bootBuiltins x=some (.type T)) (ha:PA X (e::es) t) (hn:x≠"__name__":=by decide) (hdb:(x == ("__debug__":Str))=false:=by decide)
  (he:starEach (e::es) X.env=(false,eval e X.env)::starEach es X.env:=by rfl) (hpl:(backTo pos (starEach es X.env)).any (·.1)=false:=by rfl):PE X (.Call (.Name x p) (e::es) [] pos) (tCB r t):=by
 intro pins s σ H Q I h
 refine wpAny_Call_Name_kw (zez I hg hm hv ?_ hn hdb)
 exact PyProof.Rows.callWith_type1 (thn (ha pos pins s σ H _ I h) fun us s1=>L2.ex5 fun vs H1 I1 r1 q1=>hc pins s1 σ H1 vs us Q I1 r1 q1) he hpl
end
end L2
namespace HT
open PySem PyProof.Rows
section
open PySem.SeqAt
open PySem.AutoSeq1 (wpAny_loadPart')
open PySem.MeetsSeq PySem.MeetsSeq2 PySem.MeetsSeq3
end
section
variable {prog:Program}{w:World}{A:Around}{E:Value→Shared→Prop}{s:Shared}
theorem zjo {t b:Addr}{vs ws:List Value}{Q:Value→Shared→Prop} (ht:IsTup s.heap t vs.toArray) (hb:IsTup s.heap b ws.toArray) (hv:vs≠[])
  (h1:ws=[]→Q (.ref t) s) (h2:ws≠[]→Q (.ref s.heap.objs.size) { s with heap:=s.heap.push { cls:=.type "tuple",data:=.seq (vs++ws).toArray } })
  (hsz:vs.length + ws.length≤sizeLine):wpAny (model prog w) A (binaryOp .Add (.ref t) (.ref b)) Q E s:=by
 obtain⟨⟨cls,dd,data,sl⟩,ho,hc,n,hd⟩:=id ht
 obtain⟨⟨cls2,dd2,data2,sl2⟩,ho2,hc2,n2,hd2⟩:=id hb
 simp only at hc hd hc2 hd2
 subst hc hd hc2 hd2
 have e:vs.toArray++ws.toArray=(vs++ws).toArray:=by simp
 by_cases hw:ws=[]
 ·exact concat_meets ⟨_,ho,rfl⟩ ⟨_,ho2,rfl⟩ noFill_tuple_add seq_tuple_add PySem.F.slot_tuple_add PySem.F.entry_tuple_add (PySem.F.args_tuple_add_2 _ _)
   (tuple_addW1 t b vs.toArray ws.toArray n n2 dd dd2 sl sl2 (by simpa using hv) (by simp[hw])) ⟨ho,ho2,h1 hw⟩
 ·refine concat_meets ⟨_,ho,rfl⟩ ⟨_,ho2,rfl⟩ noFill_tuple_add seq_tuple_add PySem.F.slot_tuple_add PySem.F.entry_tuple_add (PySem.F.args_tuple_add_2 _ _)
   (tuple_addW2 t b vs.toArray ws.toArray n n2 dd dd2 sl sl2 (by simpa using hv) (by simpa using hw) (by rw[List.size_toArray,List.size_toArray];exact hsz)) ⟨ho,ho2,?_⟩
  rw[e]
  exact h2 hw
def sIx (n d:Nat):Option Int→Nat
 | none=>d
 | some v=>if v<0 then(v + (n:Int)).toNat else min v.toNat n
theorem zib (n d:Nat):sIx n d none=d:=rfl
theorem zfe (n d k:Nat):sIx n d (some (k:Int))=min k n:=by
 show(if (k:Int)<0 then((k:Int) + (n:Int)).toNat else min (k:Int).toNat n)=min k n
 rw[if_neg (by omega),Int.toNat_natCast]
end
end HT
namespace L2
open PySem PySem.Spec PyProof.Rows
abbrev TO:=St→Hp→(Option Int→Hp→Prop)→Prop
def PO (X:Cx) (e:Option Expr) (t:TO):Prop:=
 ∀ (pins:List (Addr×Obj)) (s:Shared) (σ:St) (H:Hp) (Q:Option Int→Hp→Prop),Inv X pins σ H s→t σ H Q →
  wpAny (model X.prog X.w) X.A (evalPart e X.env) (fun u s'=>∃ o H',Inv X pins σ H' s'∧IsPart u o∧Q o H') X.xe s
def zjp:TO:=fun _ H Q=>Q none H
def tPart (t:TE):TO:=fun σ H Q=>t σ H fun x H1=>∃ i,x=.int i∧Q (some i) H1
section
variable {X:Cx}{e:Expr}{te:TE}{lo hi:Option Expr}{tl th:TO}{pos p2:Pos}
theorem zcf:PO X none zjp:=by
 intro pins s σ H Q I h
 rw[evalPart_none]
 exact wpAny_pure ⟨none,H,I,.none,h⟩
theorem zbL (h:PE X e te):PO X (some e) (tPart te):=by
 intro pins s σ H Q I hw
 rw[evalPart_some]
 refine thn (h pins s σ H _ I hw) fun u s1=>L2.ex5 fun x H1 I1 r1 q1=>?_
 obtain⟨i,rfl,q⟩:=q1
 obtain⟨t,rfl⟩:=r1
 exact⟨some i,H1,I1,.int i t,q⟩
def SlR (X:Cx) (r:V→Option Int→Option Int→Hp→VK→Prop):Prop:=
 ∀ (pins:List (Addr×Obj)) (s:Shared) (σ:St) (H:Hp) (x:V) (v vl vu:Value) (lo hi:Option Int) (sl:Addr) (Q:VK),Inv X pins σ H s→zaQ x v→s.heap.IsSliceOf sl vl vu .none→IsPart vl lo→IsPart vu hi→r x lo hi H Q →
  ∃ T id,typeLookup (.type T) "__getitem__"=pure (some (.builtin id))∧s.TypeIs v T∧wpAny (model X.prog X.w) X.A (getItem v (.ref sl)) (EP X pins σ Q) X.xe s
def tSl (r:V→Option Int→Option Int→Hp→VK→Prop) (te:TE) (tl th:TO):TE:=fun σ H Q=>te σ H fun x H1=>tl σ H1 fun l H2=>th σ H2 fun u H3=>r x l u H3 Q
theorem zbu {r:V→Option Int→Option Int→Hp→VK→Prop} (hr:SlR X r) (he:PE X e te) (hl:PO X lo tl) (hu:PO X hi th):PE X (.Subscript e (.Slice lo hi none p2) pos) (tSl r te tl th):=by
 intro pins s σ H Q I h
 refine Subscript_ (thn (he pins s σ H _ I h) fun v s1=>L2.ex5 fun x H1 I1 r1 q1=>?_)
 refine wpAny_Slice (thn (hl pins s1 σ H1 _ I1 q1) fun vl s2 ⟨l,H2,I2,pl,q2⟩=>thn (hu pins s2 σ H2 _ I2 q2) fun vu s3=>L2.ex5 fun u H3 I3 pu q3=>?_)
 rw[evalPart_none]
 refine wpAny_pure ?_
 have I4:Inv X pins σ H3 { s3 with heap:=s3.heap.push { cls:=.type "slice",data:=.fields #[vl,vu,.none] } }:=I3.kept (t':=s3.toks) fun b ob q=>Heap.get?_push_of_some _ q
 obtain⟨T,id,hT,ht,hg⟩:=hr pins { s3 with heap:=s3.heap.push { cls:=.type "slice",data:=.fields #[vl,vu,.none] } } σ H3 x v vl vu l u s3.heap.objs.size Q I4 r1 (Heap.IsSliceOf.new ..) pl pu q3
 show wpAny (model X.prog X.w) X.A (subscriptTail e (.Slice lo hi none p2) v (.ref s3.heap.objs.size)) (EP X pins σ Q) X.xe { s3 with heap:=s3.heap.push { cls:=.type "slice",data:=.fields #[vl,vu,.none] } }
 exact tail_any (ops:=[.ref s3.heap.objs.size,v]) ht hT hg (by with_unfolding_all rfl)
def zgu (xs:List V) (lo hi:Option Int):List V:=(xs.drop (HT.sIx xs.length 0 lo)).take (HT.sIx xs.length xs.length hi - HT.sIx xs.length 0 lo)
theorem zff (xs:List V) (lo hi:Option Int):(zgu xs lo hi).length≤xs.length:=by
 unfold zgu
 rw[List.length_take,List.length_drop]
 omega
def rCatT (K:PySem.W.Frag):R2:=fun x y H Q=>∃ a b xs ys,x=.ref a∧y=.ref b∧SqT K H a xs∧SqT K H b ys∧xs≠[]∧xs.length + ys.length≤sizeLine ∧
 (ys=[]→Q (.ref a) H)∧(ys≠[]→∀ p,H p=none→Q (.ref p) (upd H p (.tup (xs++ys))))
theorem zaK.nil_iff {xs:List V}{us:List Value} (r:zaK xs us):us=[]↔xs=[]:=by
 cases r with
 | nil=>simp
 | cons _ _=>simp
theorem zjq:OpR X (binaryOp .Add) (rCatT X.K):=by
 intro pins s σ H x y v u Q I rx ry h
 obtain⟨a,b,xs,ys,rfl,rfl,ha,hb,hx,hz,q1,q2⟩:=h
 cases rx
 cases ry
 obtain⟨its,r1,p1,_⟩:=I.tuple ha
 obtain⟨its2,r2,p2,_⟩:=I.tuple hb
 refine HT.zjo p1 p2 (fun z=>hx (r1.nil_iff.mp z)) (fun z=>⟨.ref a,H,I,rfl,q1 (r2.nil_iff.mp z)⟩) (fun z=>?_) (by rw[← r1.length,← r2.length];exact hz)
 refine⟨.ref s.heap.objs.size,_,I.laid (t':=s.toks) (o:=.tup (xs++ys)) (fun b ob q=>Heap.get?_push_of_some _ q) (Nat.le_refl _) ?_,rfl,q2 (fun w=>z (r2.nil_iff.mpr w)) _ (I.hok.fresh (Nat.le_refl _))⟩
 exact⟨by rw[List.length_append];exact hz,_,r1.append r2,IsTup.new _ _⟩
end
end L2
namespace L2
open PySem PySem.Spec PyProof.Rows
def ixN (n:Nat) (i:Int):Option Nat:=if 0≤i then(if i<n then some i.toNat else none) else if -(n:Int)≤i then some (i + n).toNat else none
def atI {α:Type} (xs:List α) (i:Int):Option α:=(ixN xs.length i).bind fun j=>xs[j]?
theorem zjr {n:Nat}{i:Int}{j:Nat} (h:ixN n i=some j):seqIndex? i n=some j∧j<n∧-(n:Int)≤i∧i<n:=by
 unfold ixN at h
 by_cases h0:0≤i
 ·rw[if_pos h0] at h
  by_cases h1:i<n
  ·rw[if_pos h1] at h
   have e:i.toNat=j:=Option.some.inj h
   exact⟨by rw[seqIndex_of h0 h1,e],by omega,by omega,h1⟩
  ·rw[if_neg h1] at h;cases h
 ·rw[if_neg h0] at h
  by_cases h1:-(n:Int)≤i
  ·rw[if_pos h1] at h
   have e:(i + n).toNat=j:=Option.some.inj h
   exact⟨by rw[seqIndex_neg (by omega) h1,e],by omega,h1,by omega⟩
  ·rw[if_neg h1] at h;cases h
theorem zgO {α:Type}{xs:List α}{i:Int}{v:α} (h:atI xs i=some v):∃ j,seqIndex? i xs.length=some j∧xs[j]?=some v∧j<xs.length∧-(xs.length:Int)≤i∧i<xs.length:=by
 unfold atI at h
 cases e:ixN xs.length i with
 | none=>rw[e] at h;cases h
 | some j=>
  rw[e] at h
  obtain⟨h1,h2,h3,h4⟩:=zjr e
  exact⟨j,h1,h,h2,h3,h4⟩
def zjs (b:Expr):Prop:=∀ o i,subscripted b false o i=operate [o,i] (getItem o i)
def IxR (X:Cx) (r:R2):Prop:=
 ∀ (value slice:Expr) (pins:List (Addr×Obj)) (s:Shared) (σ:St) (H:Hp) (x y:V) (v u:Value) (Q:VK),Inv X pins σ H s→zaQ x v→zaQ y u→r x y H Q →
  subscripted slice false v u=operate [v,u] (getItem v u)→wpAny (model X.prog X.w) X.A (subscriptTail value slice v u) (EP X pins σ Q) X.xe s
def MtR (X:Cx) (id:String) (r:V→List V→Hp→VK→Prop):Prop:=
 ∀ (pins:List (Addr×Obj)) (s:Shared) (σ:St) (H:Hp) (x:V) (xs:List V) (v:Value) (us:List Value) (Q:VK),Inv X pins σ H s→zaQ x v→zaK xs us→r x xs H Q →
  wpAny (model X.prog X.w) X.A (call (.builtin id) (v::us)) (EP X pins σ Q) X.xe s
section
variable {X:Cx}{a b:Expr}{ta tb:TE}{pos:Pos}
theorem zbR {r:R2} (hr:IxR X r) (ha:PE X a ta) (hb:PE X b tb) (hs:zjs b):PE X (.Subscript a b pos) (tOp r ta tb):=by
 intro pins s σ H Q I h
 exact Subscript_ (binT ha hb I h fun v u s2 x y H2 I2 rx ry q=>hr a b pins s2 σ H2 x y v u Q I2 rx ry q (hs _ _))
def rIxL (K:PySem.W.Frag):R2:=fun x y H Q=>∃ p xs i v,x=.ref p∧y=.int i∧SqL K H p xs∧atI xs i=some v∧Q v H
def rIxS:R2:=fun x y H Q=>∃ z i c,x=.str z∧y=.int i∧z.length≤sizeLine∧atI z.cps.toList i=some c∧Q (.str ⟨#[c]⟩) H
theorem zba:IxR X (rIxL X.K):=by
 intro value slice pins s σ H x y v u Q I rx ry h hs
 obtain⟨p,xs,i,z,rfl,rfl,hq,he,q⟩:=h
 cases rx
 obtain⟨t,rfl⟩:=ry
 obtain⟨its,r,pl,hz⟩:=I.list hq
 obtain⟨j,h1,h2,h3,h4,h5⟩:=zgO he
 obtain⟨w,ew,rw'⟩:=r.get h2
 have hl:=r.length
 have hn:=zfB
 have fin:EP X pins σ Q w s:=⟨z,H,I,rw',q⟩
 by_cases h0:0≤i
 ·have hj:i.toNat=j:=by
   rw[seqIndex_of h0 h5] at h1
   exact Option.some.inj h1
  exact item_listR pl.isList h0 (by omega) (by rw[hj];simpa using ew) fin hs
 ·have hj:(i + (its.toArray.size:Int)).toNat=j:=by
   rw[seqIndex_neg (by omega) h4] at h1
   rw[List.size_toArray,← hl]
   exact Option.some.inj h1
  exact subscriptTail_builtinR (x:=w) pl.isList.typeIs slot_list_getitem.lookup
   (wpAny_getItem_list_neg (Q:=fun r s'=>r=w∧EP X pins σ Q r s') pl.isList (by omega) (by rw[List.size_toArray] <;> omega) (by omega) (by rw[hj];simpa using ew) ⟨rfl,fin⟩) hs
theorem zfF:IxR X rIxS:=by
 intro value slice pins s σ H x y v u Q I rx ry h hs
 obtain⟨z,i,c,rfl,rfl,hz,he,q⟩:=h
 obtain⟨t,rfl⟩:=rx
 obtain⟨t',rfl⟩:=ry
 obtain⟨j,h1,h2,h3,h4,h5⟩:=zgO he
 have hl:z.cps.toList.length=z.length:=by simp[Str.length]
 rw[hl] at h1 h4 h5
 have hn:=zfB
 exact tail_any (typeIs_str s z t) slot_str_getitem.lookup (getItem_str (c:=c) (by
  have e1:decide (i< -(2 ^ 63:Int))=false:=decide_eq_false (by omega)
  have e2:decide (i ≥ 2 ^ 63)=false:=decide_eq_false (by omega)
  rw[e1,e2,Bool.or_false]) (by rw[h1];simpa using h2) ⟨.str ⟨#[c]⟩,H,I.tok _,⟨_,rfl⟩,q⟩) hs
theorem zeI (lo hi:Option Int) (n:Nat):(sliceBounds lo hi none n).1=((HT.sIx n 0 lo:Nat):Int)∧(sliceBounds lo hi none n).2.1=((HT.sIx n n hi:Nat):Int)∧(sliceBounds lo hi none n).2.2=1:=by
 refine⟨?_,?_,rfl⟩
 ·cases lo with
  | none=>simp[sliceBounds,HT.sIx]
  | some i=>
   simp only[sliceBounds,HT.sIx,Option.getD_none,show(1:Int) > 0 by decide,if_true]
   by_cases h:i<0
   ·simp only[h,if_true] <;> omega
   ·simp only[h,if_false] <;> omega
 ·cases hi with
  | none=>simp[sliceBounds,HT.sIx]
  | some i=>
   simp only[sliceBounds,HT.sIx,Option.getD_none,show(1:Int) > 0 by decide,if_true]
   by_cases h:i<0
   ·simp only[h,if_true] <;> omega
   ·simp only[h,if_false] <;> omega
theorem zej (its:List Value) (lo hi:Option Int):slicePick its.toArray lo hi none=((its.drop (HT.sIx its.length 0 lo)).take (HT.sIx its.length its.length hi - HT.sIx its.length 0 lo)).toArray:=by
 obtain⟨h1,h2,h3⟩:=zeI lo hi its.toArray.size
 unfold slicePick
 rw[h1,h2,h3]
 simp only[sliceRange_one,pick_run,List.size_toArray] <;> rfl
def rSlL (K:PySem.W.Frag):V→Option Int→Option Int→Hp→VK→Prop:=fun x lo hi H Q=>∃ a xs,x=.ref a∧SqL K H a xs∧∀ p,H p=none→Q (.ref p) (upd H p (.lst (zgu xs lo hi)))
theorem zgP:SlR X (rSlL X.K):=by
 intro pins s σ H x v vl vu lo hi sl Q I rx hs pl pu h
 obtain⟨a,xs,rfl,hx,q⟩:=h
 cases rx
 obtain⟨its,r,ht,hz⟩:=I.list hx
 have hlen:=r.length
 refine⟨"list",_,slot_list_getitem.lookup,ht.isList.typeIs,?_⟩
 refine wpAny_getItem_list_slice ht.isList hs pl pu .none (by simp) ?_ (by rw[List.size_toArray] <;> omega)
 rw[zej,← hlen]
 refine⟨.ref s.heap.objs.size,_,I.laid (t':=s.toks) (o:=.lst (zgu xs lo hi)) (fun b ob q=>Heap.get?_push_of_some _ q) (Nat.le_refl _) ?_,rfl,q _ (I.hok.fresh (Nat.le_refl _))⟩
 exact⟨Nat.le_trans (zff xs lo hi) hz,_,0,(r.drop (HT.sIx xs.length 0 lo)).take (HT.sIx xs.length xs.length hi - HT.sIx xs.length 0 lo),Heap.get?_push_size _ rfl⟩
def flatV:V→Bool
 | .non=>true
 | .bl _=>true
 | .int _=>true
 | .str _=>true
 | _=>false
def eqV:V→V→Bool
 | .non,.non=>true
 | .bl a,.bl b=>a == b
 | .bl a,.int b=>(if a then 1 else 0) == b
 | .int a,.bl b=>a == (if b then 1 else 0)
 | .int a,.int b=>a == b
 | .str a,.str b=>a == b
 | _,_=>false
theorem zbj {A:Around}{s:Shared}{y x:V}{u v:Value} (ry:zaQ y u) (rx:zaQ x v) (fy:flatV y=true) (fx:flatV x=true):SeqAt.EqAt A s u v (eqV y x):=by
 cases y with
 | non=>
  cases ry
  cases x with
  | non=>cases rx;exact SeqAt.EqAt.same _
  | bl b=>cases rx;exact SeqAt.EqAt.none_bool b
  | int b=>obtain⟨t,rfl⟩:=rx;exact SeqAt.EqAt.none_int b t
  | str b=>obtain⟨t,rfl⟩:=rx;exact SeqAt.EqAt.none_str b t
  | _=>exact absurd (show false=true from fx) Bool.false_ne_true
 | bl a=>
  cases ry
  cases x with
  | non=>cases rx;exact SeqAt.EqAt.bool_none a
  | bl b=>cases rx;exact SeqAt.EqAt.bool_bool a b
  | int b=>obtain⟨t,rfl⟩:=rx;exact SeqAt.EqAt.bool_int a b t
  | str b=>obtain⟨t,rfl⟩:=rx;exact SeqAt.EqAt.bool_str a b t
  | _=>exact absurd (show false=true from fx) Bool.false_ne_true
 | int a=>
  obtain⟨t',rfl⟩:=ry
  cases x with
  | non=>cases rx;exact SeqAt.EqAt.int_none a t'
  | bl b=>cases rx;exact SeqAt.EqAt.int_bool a t' b
  | int b=>obtain⟨t,rfl⟩:=rx;exact SeqAt.EqAt.int_int a t' b t
  | str b=>obtain⟨t,rfl⟩:=rx;exact SeqAt.EqAt.int_str a t' b t
  | _=>exact absurd (show false=true from fx) Bool.false_ne_true
 | str a=>
  obtain⟨t',rfl⟩:=ry
  cases x with
  | non=>cases rx;exact SeqAt.EqAt.str_none a t'
  | bl b=>cases rx;exact SeqAt.EqAt.str_bool a t' b
  | int b=>obtain⟨t,rfl⟩:=rx;exact SeqAt.EqAt.str_int a t' b t
  | str b=>obtain⟨t,rfl⟩:=rx;exact SeqAt.EqAt.str_str a t' b t
  | _=>exact absurd (show false=true from fx) Bool.false_ne_true
 | _=>exact absurd (show false=true from fy) Bool.false_ne_true
theorem zeJ:OpR X (compareOp .NotIn) (fun x y H Q=>∃ i j,x=.str i∧y=.str j∧Q (.bl (!(!(Builtin.Str.occurrences j i 0 j.length 1).isEmpty))) H):=by
 intro pins s σ H x y v u Q I rx ry h
 obtain⟨i,j,rfl,rfl,q⟩:=h
 obtain⟨t,rfl⟩:=rx
 obtain⟨t',rfl⟩:=ry
 exact notIn_str ⟨.bl _,H,I,rfl,q⟩
theorem zbS:zdh X (.builtin "len") (fun xs H Q=>∃ p ys,xs=[.ref p]∧(SqL X.K H p ys∨SqT X.K H p ys)∧Q (.int ys.length) H):=by
 intro pins s σ H xs us Q I r h
 obtain⟨p,ys,rfl,hq,q⟩:=h
 obtain⟨u,rfl,rx⟩:=zc1 r
 cases rx
 have hn:=zfB
 rcases hq with hq|hq
 ·obtain⟨its,r',pl,hz⟩:=I.list hq
  have hlen:=r'.length
  exact Calls.call_len_list pl.isList (by simp only[List.size_toArray] <;> omega) ⟨.int ys.length,H,I.tok _,⟨s.toks + 1,by rw[List.size_toArray,hlen]⟩,q⟩
 ·obtain⟨its,r',pl,hz⟩:=I.tuple hq
  have hlen:=r'.length
  exact len_tuple pl (by simp only[List.size_toArray] <;> omega) ⟨.int ys.length,H,I.tok _,⟨s.toks + 1,by rw[List.size_toArray,hlen]⟩,q⟩
theorem zaS:zdh X (.builtin "len") (fun xs H Q=>∃ z,xs=[.str z]∧z.length≤sizeLine∧Q (.int z.length) H):=by
 intro pins s σ H xs us Q I r h
 obtain⟨z,rfl,hz,q⟩:=h
 obtain⟨u,rfl,t,rfl⟩:=zc1 r
 have hn:=zfB
 exact len_str (by omega) ⟨.int z.length,H,I.tok _,⟨_,rfl⟩,q⟩
def tyV (K:PySem.W.Frag) (T:String) (x:V) (H:Hp):Prop:=match x with
 | .str _=>T="str"
 | .int _=>T="int"
 | .ref p=>(T="list"∧∃ xs,SqL K H p xs)∨(T="tuple"∧∃ o,K.lookup p=some o∧o.cls=.type "tuple"∧o.dict=none) ∨
   (T="dict"∧((∃ kvs,H p=some (.dK kvs))∨∃ kvs,H p=some (.dT kvs)))∨(T="set"∧∃ S n,H p=some (.set S n))
 | _=>False
theorem tyV_is {pins:List (Addr×Obj)}{σ:St}{H:Hp}{s:Shared}{T:String}{x:V}{v:Value} (I:Inv X pins σ H s) (r:zaQ x v) (ty:tyV X.K T x H) :
  s.TypeIs v T∧∀ a,v=.ref a→∃ ob,s.heap.get? a=some ob∧ob.dict=none:=by
 cases x with
 | str z=>
  obtain⟨t,rfl⟩:=r
  cases (show T="str" from ty)
  exact⟨typeIs_str s z t,fun _ e=>nomatch e⟩
 | int i=>
  obtain⟨t,rfl⟩:=r
  cases (show T="int" from ty)
  exact⟨typeIs_int s i t,fun _ e=>nomatch e⟩
 | ref p=>
  cases r
  rcases ty with⟨rfl,xs,hq⟩|⟨rfl,o,hk,hc,hd⟩|⟨rfl,hk⟩|⟨rfl,S,n,hk⟩
  ·obtain⟨its,_,pl,_⟩:=I.list hq
   refine⟨pl.isList.typeIs,fun a e=>?_⟩
   cases e
   obtain⟨o,n,e,c,hd,_⟩:=pl
   exact⟨o,e,hd⟩
  ·refine⟨⟨o,I.kIn p o hk,hc⟩,fun a e=>?_⟩
   cases e
   exact⟨o,I.kIn _ o hk,hd⟩
  ·have z:∃ o,s.heap.get? p=some o∧o.ExactDict:=by
    rcases hk with⟨kvs,hk⟩|⟨kvs,hk⟩
    ·obtain⟨_,_,_,_,o,_,_,e,ex,_⟩:=I.hok p _ hk
     exact⟨o,e,ex⟩
    ·obtain⟨_,_,_,_,o,_,_,e,ex,_⟩:=I.hok p _ hk
     exact⟨o,e,ex⟩
   obtain⟨o,e,ex⟩:=z
   refine⟨⟨o,e,ex.1⟩,fun a e2=>?_⟩
   cases e2
   exact⟨o,e,ex.2.1⟩
  ·obtain⟨o,_,_,_,e,ex,_⟩:=I.hok p _ hk
   refine⟨⟨o,e,ex.1⟩,fun a e2=>?_⟩
   cases e2
   exact⟨o,e,ex.2.1⟩
 | _=>exact False.elim ty
def tBM (K:PySem.W.Frag) (T:String) (r:V→List V→Hp→VK→Prop) (to:TE) (t:TA):TE:=fun σ H Q=>to σ H fun x H1=>tyV K T x H1∧t σ H1 fun xs H2=>r x xs H2 Q
variable {o e:Expr}{es:List Expr}{to:TE}{t:TA}{name:Str}{apos cpos:Pos}{T id:String}{r:V→List V→Hp→VK→Prop}
theorem zbn (pa:PlainAttrs T) (slot:Slot T name id) (hty:typeOf (.builtin id)=pure (.type "method_descriptor")) (hm:MtR X id r) (ho:PE X o to) (ha:PA X (e::es) t)
  (hbase:attributeBase o name X.env (eval o X.env)=eval o X.env:=by rfl)
  (hfew:((backTo cpos (starEach (e::es) X.env)).all (fun x=>!x.1) && (backToKw cpos (keywordEach [] X.env)).all (fun x=>x.1.isSome)
   && decide ((e::es).length + ([]:List Keyword).length + (if ([]:List Keyword).isEmpty then 0 else 1)<30))=true:=by rfl)
  (hline:(apos.endLine == cpos.line)=true:=by rfl) (hs:starEach (e::es) X.env=(false,eval e X.env)::starEach es X.env:=by rfl) (hplain:(backTo cpos (starEach es X.env)).any (·.1)=false:=by rfl) :
  PE X (.Call (.Attribute o name apos) (e::es) [] cpos) (tBM X.K T r to t):=by
 intro pins s σ H Q I h
 refine wpAny_Call_method_late hbase hfew hline rfl (thn (ho pins s σ H _ I h) fun v s1=>L2.ex5 fun x H1 I1 r1 hq_=>?_)
 obtain⟨ty,q1⟩:=hq_
 obtain⟨h1,h2⟩:=tyV_is I1 r1 ty
 refine⟨T,id,pa,slot,hty,h1,h2,?_⟩
 have hA:=ha cpos pins s1 σ H1 _ I1 q1
 rw[hs] at hA ⊢
 refine Calls.callWith_builtin (by show(false || (backTo cpos (starEach es X.env)).any (·.1))=false;rw[hplain] <;> rfl) (Calls.evalArgs_plain ?_)
 exact thn hA fun us s2=>L2.ex5 fun vs H2 I2 r2 q2=>hm pins s2 σ H2 x vs v us Q I2 r1 r2 q2
end
end L2
namespace L2
open PySem PySem.Spec PyProof.Rows
def MtM (X:Cx) (id:String) (r:V→List V→Hp→VK→Prop):Prop:=
 ∀ (pins:List (Addr×Obj)) (s:Shared) (σ:St) (H:Hp) (x:V) (xs:List V) (v:Value) (us:List Value) (Q:VK),Inv X pins σ H s→zaQ x v→zaK xs us→r x xs H Q →
  wpAny (model X.prog X.w) X.A (call (.builtin id) (v::us)) (EP X pins σ Q) X.xe s
theorem zaK.one:∀ {x:V}{us:List Value},zaK [x] us→∃ u,us=[u]∧zaQ x u
 | _,_,.cons r .nil=>⟨_,rfl,r⟩
section
variable {X:Cx}{pins:List (Addr×Obj)}{σ:St}{H:Hp}{s:Shared}{l b:Addr}{xs ys zs:List V}
theorem Inv.lset {its its':List Value}{n:Nat}{f:Array Value→Array Value}{t':Nat} (I:Inv X pins σ H s) (hH:H l=some (.lst xs))
  (e:s.heap.get? l=some { cls:=.type "list",data:=.seq its.toArray n }) (hf:f its.toArray=its'.toArray) (hv:zaK ys its') (hz:ys.length≤sizeLine) :
  Inv X pins σ (upd H l (.lst ys)) { s with heap:=s.heap.update l (Obj.mapSeq f),toks:=t' }:=by
 have q:=PySem.IsL.update e f
 rw[hf] at q
 refine I.write (x:=l) (e:=l) (by rw[hH];exact trivial) (.inl rfl) (fun b' u hb hu=>(Heap.get?_update_other s.heap (Obj.mapSeq f) (Ne.symm hb)).trans hu) ⟨_,q⟩ ?_
 exact⟨hz,its',_,hv,q⟩
theorem Inv.lnew {its:List Value}{t':Nat} (I:Inv X pins σ H s) (hv:zaK ys its) (hz:ys.length≤sizeLine) :
  Inv X pins σ (upd H s.heap.objs.size (.lst ys)) { s with heap:=s.heap.push { cls:=.type "list",data:=.seq its.toArray },toks:=t' }:=
 I.laid (fun _ _ q=>Heap.get?_push_of_some _ q) (Nat.le_refl _) ⟨hz,its,0,hv,Heap.get?_push_size _ rfl⟩
theorem Inv.fresh (I:Inv X pins σ H s):H s.heap.objs.size=none:=I.hok.fresh (Nat.le_refl _)
theorem Inv.lstM (I:Inv X pins σ H s) (hH:H l=some (.lst xs)):xs.length≤sizeLine∧∃ (its:List Value) (n:Nat),zaK xs its∧xs.length=its.length∧s.heap.get? l=some { cls:=.type "list",data:=.seq its.toArray n }:=by
 obtain⟨z,its,n,r,e⟩:=I.hok l _ hH
 exact⟨z,its,n,r,r.length,e⟩
theorem zic {n:Nat} (h:n≤sizeLine):Builtin.List.listTooLong n=false:=by
 unfold Builtin.List.listTooLong
 exact decide_eq_false (by omega)
end
section
variable {X:Cx}
def zjt:V→List V→Hp→VK→Prop:=fun x vs H Q=>∃ l xs y,x=.ref l∧vs=[y]∧H l=some (.lst xs)∧xs.length<sizeLine∧Q .non (upd H l (.lst (xs++[y])))
theorem zaH:MtM X "list.append" zjt:=by
 intro pins s σ H x vs v us Q I rx rv h
 obtain⟨l,xs,y,rfl,rfl,hH,hz,q⟩:=h
 cases rx
 obtain⟨u,rfl,ru⟩:=rv.one
 obtain⟨z,its,n,r,hl,e⟩:=I.lstM hH
 refine call_meets F.slot_list_append ⟨_,e,rfl⟩ F.entry_list_append (F.args_list_append_2 _ _) (PySem.list_append l its.toArray n u (by rw[List.size_toArray];omega)) ⟨e,?_⟩
 refine⟨.non,_,I.lset (its':=its++[u]) hH e (by simp) (r.append (.cons ru .nil)) ?_,rfl,q⟩
 rw[List.length_append,List.length_singleton]
 omega
def zju:V→List V→Hp→VK→Prop:=fun x vs H Q=>∃ l b xs zs,x=.ref l∧vs=[.ref b]∧H l=some (.lst xs)∧H b=some (.lst zs)∧xs.length + zs.length≤sizeLine∧Q .non (upd H l (.lst (xs++zs)))
theorem zgQ:MtM X "list.extend" zju:=by
 intro pins s σ H x vs v us Q I rx rv h
 obtain⟨l,b,xs,zs,rfl,rfl,hH,hB,hz,q⟩:=h
 cases rx
 obtain⟨u,rfl,ru⟩:=rv.one
 cases ru
 obtain⟨z,its,n,r,hl,e⟩:=I.lstM hH
 obtain⟨z2,its2,n2,r2,hl2,e2⟩:=I.lstM hB
 have hsz:its.toArray.size + its2.toArray.size≤sizeLine:=by rw[List.size_toArray,List.size_toArray];omega
 have hlong:¬ (!its.toArray.isEmpty && Builtin.List.listTooLong (its.toArray.size + its2.toArray.size))=true:=by
  rw[zic hsz,Bool.and_false]
  exact Bool.false_ne_true
 refine call_meets F.slot_list_extend ⟨_,e,rfl⟩ F.entry_list_extend (F.args_list_extend_2 _ _)
  (AutoSeq1.list_extend_list_list_0 l its.toArray n b its2.toArray n2 hlong (by rw[List.size_toArray];omega) (by omega)) ⟨e,e2,?_⟩
 refine⟨.non,_,I.lset (its':=its++its2) hH e (by simp) (r.append r2) ?_,rfl,q⟩
 rw[List.length_append]
 omega
end
section
variable {prog:Program}{w:World}{A:Around}{E:Value→Shared→Prop}{s:Shared}
end
section
variable {X:Cx}
end
end L2
namespace L2
open PySem PySem.Spec PyProof.Rows
section
variable {κ:Type} [DecidableEq κ]
def zcp (kvs:List (κ×V)) (k:κ):Option V:=(kvs.find? fun kv=>decide (kv.1=k)).map (·.2)
def zdZ (kvs:List (κ×V)) (k:κ) (v:V):List (κ×V):=
 if (kvs.any fun kv=>decide (kv.1=k))=true then kvs.map (fun kv=>if kv.1=k then(kv.1,v) else kv) else kvs++[(k,v)]
theorem zaW {p:κ×V}{r:List (κ×V)}{k:κ} (e:p.1=k):zcp (p::r) k=some p.2:=by simp[zcp,List.find?_cons,e]
theorem zaP {p:κ×V}{r:List (κ×V)}{k:κ} (e:¬ p.1=k):zcp (p::r) k=zcp r k:=by simp[zcp,List.find?_cons,e]
theorem zct (k:κ):∀ kvs:List (κ×V),(kvs.any fun kv=>decide (kv.1=k))=(zcp kvs k).isSome
 | []=>rfl
 | p::r=>by
  rw[List.any_cons]
  by_cases e:p.1=k
  ·simp only[zaW e,decide_eq_true e,Bool.true_or,Option.isSome_some]
  ·rw[zaP e,decide_eq_false e,Bool.false_or];exact zct k r
theorem zfG (k j:κ) (y:V):∀ kvs:List (κ×V),zcp (kvs.map fun kv=>if kv.1=k then(kv.1,y) else kv) j=(zcp kvs j).map fun x=>if j=k then y else x
 | []=>rfl
 | p::r=>by
  have ih:=zfG k j y r
  rw[List.map_cons]
  by_cases h:p.1=k
  ·rw[if_pos h]
   by_cases e:p.1=j
   ·rw[zaW (p:=(p.1,y)) e,zaW e,Option.map_some,if_pos (e.symm.trans h)]
   ·rw[zaP (p:=(p.1,y)) e,zaP e,ih]
  ·rw[if_neg h]
   by_cases e:p.1=j
   ·rw[zaW (p:=p) e,zaW e,Option.map_some,if_neg (fun z=>h (e.trans z))]
   ·rw[zaP (p:=p) e,zaP e,ih]
theorem zeK (k j:κ) (y:V):∀ kvs:List (κ×V),zcp kvs k=none→zcp (kvs++[(k,y)]) j=if j=k then some y else zcp kvs j
 | [],_=>by
  by_cases e:k=j
  ·rw[if_pos e.symm];exact zaW (p:=(k,y)) e
  ·rw[if_neg (fun z=>e z.symm)];exact zaP (p:=(k,y)) e
 | p::r,hn=>by
  rw[List.cons_append]
  have hk:¬ p.1=k:=fun z=>by rw[zaW z] at hn;cases hn
  rw[zaP hk] at hn
  have ih:=zeK k j y r hn
  by_cases e:p.1=j
  ·rw[zaW e,zaW e,if_neg (fun z=>hk (e.trans z))]
  ·rw[zaP e,zaP e,ih]
theorem zfH (kvs:List (κ×V)) (k j:κ) (y:V):zcp (zdZ kvs k y) j=if j=k then some y else zcp kvs j:=by
 unfold zdZ
 by_cases a:(kvs.any fun kv=>decide (kv.1=k))=true
 ·rw[if_pos a,zfG]
  rw[zct] at a
  by_cases e:j=k
  ·obtain⟨x,hx⟩:=Option.isSome_iff_exists.mp a
   rw[if_pos e,e,hx,Option.map_some,if_pos rfl]
  ·rw[if_neg e]
   cases zcp kvs j with
   | none=>rfl
   | some x=>rw[Option.map_some,if_neg e]
 ·rw[if_neg a]
  refine zeK k j y kvs ?_
  rw[zct] at a
  cases q:zcp kvs k with
  | none=>rfl
  | some x=>rw[q] at a;exact(a rfl).elim
theorem zcg (kvs:List (κ×V)) (k:κ) (v:V):(zdZ kvs k v).length≤kvs.length + 1:=by
 unfold zdZ
 split
 ·rw[List.length_map];omega
 ·rw[List.length_append,List.length_cons,List.length_nil];omega
theorem zid {kvs:List (κ×V)}{k:κ} (v:V) (h:zcp kvs k=none):zdZ kvs k v=kvs++[(k,v)]:=by
 unfold zdZ
 rw[zct,h]
 exact if_neg (by decide)
theorem zex.isSome_eq {o:Option V}{u:Option Value} (r:zex o u):o.isSome=u.isSome:=by
 cases o with
 | none=>cases u with
  | none=>rfl
  | some _=>exact(show False from r).elim
 | some _=>cases u with
  | none=>exact(show False from r).elim
  | some _=>rfl
theorem KV.val {kvs:List (κ×V)}{vs:List (κ×Value)} (r:KV kvs vs) (k:κ):zex (zcp kvs k) (valueAt vs k):=by
 unfold KV at r
 induction r with
 | nil=>exact True.intro
 | @cons p q ps qs h t ih=>
  obtain⟨h1,h2⟩:=h
  by_cases e:p.1=k
  ·have e':q.1=k:=h1.symm.trans e
   have b:valueAt (q::qs) k=some q.2:=by simp[valueAt,List.find?_cons,e']
   rw[zaW e,b];exact h2
  ·have e':¬ q.1=k:=fun z=>e (h1.trans z)
   have b:valueAt (q::qs) k=valueAt qs k:=by simp[valueAt,List.find?_cons,e']
   rw[zaP e,b];exact ih
theorem KV.any {kvs:List (κ×V)}{vs:List (κ×Value)} (r:KV kvs vs) (k:κ):(kvs.any fun kv=>decide (kv.1=k))=vs.any fun kv=>decide (kv.1=k):=by
 unfold KV at r
 induction r with
 | nil=>rfl
 | cons h t ih=>rw[List.any_cons,List.any_cons,ih,h.1]
theorem KV.repl {kvs:List (κ×V)}{vs:List (κ×Value)} (r:KV kvs vs) (k:κ){y:V}{u:Value} (ry:zaQ y u) :
  KV (kvs.map fun kv=>if kv.1=k then(kv.1,y) else kv) (vs.map fun kv=>if kv.1=k then(kv.1,u) else kv):=by
 unfold KV at r ⊢
 induction r with
 | nil=>exact .nil
 | @cons p q ps qs h t ih=>
  rw[List.map_cons,List.map_cons]
  refine .cons ?_ ih
  obtain⟨h1,h2⟩:=h
  by_cases e:p.1=k
  ·rw[if_pos e,if_pos (h1.symm.trans e)];exact⟨h1,ry⟩
  ·rw[if_neg e,if_neg (fun z=>e (h1.trans z))];exact⟨h1,h2⟩
theorem KV.put {kvs:List (κ×V)}{vs:List (κ×Value)} (r:KV kvs vs) (k:κ){y:V}{u:Value} (ry:zaQ y u):KV (zdZ kvs k y) (stored vs k u):=by
 unfold zdZ stored
 rw[r.any k]
 by_cases e:(vs.any fun kv=>decide (kv.1=k))=true
 ·rw[if_pos e,if_pos e];exact r.repl k ry
 ·rw[if_neg e,if_neg e];exact Paired.snoc r ⟨rfl,ry⟩
theorem KV.keys {kvs:List (κ×V)}{vs:List (κ×Value)} (r:KV kvs vs):kvs.map (·.1)=vs.map (·.1):=by
 unfold KV at r
 induction r with
 | nil=>rfl
 | cons h t ih=>rw[List.map_cons,List.map_cons,ih,h.1]
theorem KV.length {kvs:List (κ×V)}{vs:List (κ×Value)} (r:KV kvs vs):kvs.length=vs.length:=Paired.length r
end
theorem zie {P:Program}{w:World}{k:Key}{u:Value} (r:zaQ (kV k) u):(zaR P w).is k u=true:=by
 cases k with
 | inl i=>obtain⟨t,e⟩:=(show ∃ t,u=Value.int i t from r);subst e;exact zfa P w i t
 | inr x=>obtain⟨t,e⟩:=(show ∃ t,u=Value.str x t from r);subst e;exact zfb P w x t
theorem zeL {P:Program}{w:World}:∀ {ks:List Key}{us:List Value},zaK (ks.map kV) us→ItemsAre (zaR P w) ks us
 | [],_,r=>by rw[List.map_nil] at r;cases r;exact .nil
 | k::ks,_,r=>by
  rw[List.map_cons] at r
  cases r with
  | cons h t=>exact .cons (zie h) (zeL t)
abbrev KT (H:Hp):List (List Key×V)→List (List Key×Addr×Value)→Prop:=Paired fun p q=>p.1=q.1∧H q.2.1=some (.tup (p.1.map kV))∧zaQ p.2 q.2.2
theorem KT.val {H:Hp}{kvs:List (List Key×V)}{xs:List (List Key×Addr×Value)} (r:KT H kvs xs) (k:List Key):zex (zcp kvs k) ((atKey xs k).map (·.2)):=by
 induction r with
 | nil=>exact True.intro
 | @cons p q ps qs h t ih=>
  obtain⟨h1,_,h2⟩:=h
  by_cases e:p.1=k
  ·have e':q.1=k:=h1.symm.trans e
   have b:atKey (q::qs) k=some q.2:=by simp[atKey,List.find?_cons,e']
   rw[zaW e,b];exact h2
  ·have e':¬ q.1=k:=fun z=>e (h1.trans z)
   have b:atKey (q::qs) k=atKey qs k:=by simp[atKey,List.find?_cons,e']
   rw[zaP e,b];exact ih
theorem KT.repl {H:Hp}{kvs:List (List Key×V)}{xs:List (List Key×Addr×Value)} (r:KT H kvs xs) (k:List Key){y:V}{u:Value} (ry:zaQ y u) :
  KT H (kvs.map fun kv=>if kv.1=k then(kv.1,y) else kv) (xs.map (putAt k u)):=by
 induction r with
 | nil=>exact .nil
 | @cons p q ps qs h t ih=>
  rw[List.map_cons,List.map_cons]
  refine .cons ?_ ih
  obtain⟨h1,h2,h3⟩:=h
  unfold putAt
  by_cases e:p.1=k
  ·rw[if_pos e,if_pos (h1.symm.trans e)];exact⟨h1,h2,ry⟩
  ·rw[if_neg e,if_neg (fun z=>e (h1.trans z))];exact⟨h1,h2,h3⟩
theorem KT.put {H:Hp}{kvs:List (List Key×V)}{xs:List (List Key×Addr×Value)} (r:KT H kvs xs) (k:List Key){b:Addr}{y:V}{u:Value} (hb:H b=some (.tup (k.map kV))) (ry:zaQ y u) :
  KT H (zdZ kvs k y) (storedH xs k b u):=by
 have e:(kvs.any fun kv=>decide (kv.1=k))=(atKey xs k).isSome:=by
  rw[zct,(r.val k).isSome_eq,Option.isSome_map]
 unfold zdZ storedH
 rw[e]
 by_cases q:(atKey xs k).isSome=true
 ·rw[if_pos q,if_pos q];exact r.repl k ry
 ·rw[if_neg q,if_neg q];exact Paired.snoc r ⟨rfl,hb,ry⟩
theorem KT.keeps {H H':Hp}{kvs:List (List Key×V)}{xs:List (List Key×Addr×Value)} (r:KT H kvs xs) (ht:∀ b ys,H b=some (.tup ys)→H' b=some (.tup ys)):KT H' kvs xs:=
 Paired.mapP r fun _ _ z=>⟨z.1,ht _ _ z.2.1,z.2.2⟩
section
variable {P:Program}{w:World}{H:Hp}{h:Heap}{a:Addr}
theorem rd_of {u:HO} (ok:HOk P w H h) (e:Rd H a u):zbe P w H h a u:=e.ok ok
theorem zjv {kvs:List (Key×V)} (ok:HOk P w H h) (e:Rd H a (.dK kvs)):kvs.length≤sizeLine∧(a == sysModules)=false∧∃ vs,KV kvs vs∧h.DictOf (zaR P w) a vs:=
 show zbe P w H h a (.dK kvs) from rd_of ok e
theorem zga {kvs:List (Key×V)} (ok:HOk P w H h) (e:H a=some (.dK kvs)):kvs.length≤sizeLine∧(a == sysModules)=false∧∃ vs,KV kvs vs∧h.DictOf (zaR P w) a vs:=zjv ok (.inl e)
theorem zgR {ks:List Key} (ok:HOk P w H h) (e:H a=some (.tup (ks.map kV))):(tupleKind (zaR P w)).is h ks a:=by
 obtain⟨_,its,r,o,h1,h2,n,h3⟩:=(show zbe P w H h a (.tup (ks.map kV)) from ok a _ e)
 exact⟨o,its.toArray,n,h1,h2,h3,by simpa using zeL r⟩
theorem zjw {kvs:List (List Key×V)} (ok:HOk P w H h) (e:Rd H a (.dT kvs)):kvs.length≤sizeLine∧(a == sysModules)=false ∧
  ∃ xs,KT H kvs xs∧h.DictOfH (tupleKind (zaR P w)) a xs:=by
 obtain⟨z,y,xs,r,o,es,ep,h1,h2,h3,h4,h5⟩:=(show zbe P w H h a (.dT kvs) from rd_of ok e)
 refine⟨z,y,xs,r,o,es,ep,h1,h2,h3,h4,fun x hx=>?_,h5⟩
 have all:∀ {l:List (List Key×V)}{m:List (List Key×Addr×Value)},KT H l m→∀ x∈m,(tupleKind (zaR P w)).is h x.1 x.2.1:=by
  intro l m q
  induction q with
  | nil=>intro x hx;exact nomatch hx
  | @cons p q ps qs hq t ih=>
   intro x hx
   rcases List.mem_cons.mp hx with e|hx
   ·subst e
    exact zgR ok (by rw[← hq.1];exact hq.2.1)
   ·exact ih x hx
 exact all r x hx
theorem dt_of {kvs:List (List Key×V)} (ok:HOk P w H h) (e:H a=some (.dT kvs)):kvs.length≤sizeLine∧(a == sysModules)=false ∧
  ∃ xs,KT H kvs xs∧h.DictOfH (tupleKind (zaR P w)) a xs:=zjw ok (.inl e)
end
def zjx (H:Hp) (a:Addr) (y:V) (r:Option V):Prop:=
 (∃ kvs k,Rd H a (.dK kvs)∧y=kV k∧r=zcp kvs k)∨∃ kvs k b,Rd H a (.dT kvs)∧y=.ref b∧H b=some (.tup (k.map kV))∧r=zcp kvs k
def zki (H:Hp) (a:Addr) (y v:V) (H':Hp):Prop:=
 (∃ kvs k,H a=some (.dK kvs)∧y=kV k∧kvs.length<sizeLine∧H'=upd H a (.dK (zdZ kvs k v))) ∨
 ∃ kvs k b,H a=some (.dT kvs)∧y=.ref b∧H b=some (.tup (k.map kV))∧kvs.length<sizeLine∧H'=upd H a (.dT (zdZ kvs k v))
theorem zjx.k {H:Hp}{a:Addr}{kvs:List (Key×V)}{k:Key} (e:H a=some (.dK kvs)):zjx H a (kV k) (zcp kvs k):=.inl ⟨kvs,k,.inl e,rfl,rfl⟩
theorem zki.k {H:Hp}{a:Addr}{kvs:List (Key×V)}{k:Key}{v:V} (e:H a=some (.dK kvs)) (hl:kvs.length<sizeLine):zki H a (kV k) v (upd H a (.dK (zdZ kvs k v))):=.inl ⟨kvs,k,e,rfl,hl,rfl⟩
section
variable {X:Cx}{pins:List (Addr×Obj)}{σ:St}{H:Hp}{s:Shared}{a:Addr}{y v:V}{u r:Value}{o:Option V}{A:Around}{E:Value→Shared→Prop}
theorem Inv.big (I:Inv X pins σ H s):sysModules<s.heap.objs.size:=by
 have h:mainGlobals<s.heap.objs.size:=(I.mod.glob.keeps I.bk).lt
 exact Nat.lt_trans (by decide) h
theorem zgS {Q:Value→Shared→Prop} (hu:A.units + 1<cLine) (I:Inv X pins σ H s) (g:zjx H a y (some v)) (ry:zaQ y u) (h:∀ w' s',Inv X pins σ H s'→zaQ v w'→Q w' s') :
  wpAny (model X.prog X.w) A (getItem (.ref a) u) Q E s:=by
 rcases g with⟨kvs,k,e,ey,l⟩|⟨kvs,k,b,e,ey,eb,l⟩
 ·subst ey
  obtain⟨z,hd,vs,rel,dd⟩:=zjv I.hok e
  obtain⟨w',hw,rw'⟩:=zex.some_of (v:=v) (o:=valueAt vs k) (by rw[l];exact rel.val k)
  exact wpAny_getItem_of (zie ry) dd.mapOf hw (h w' _ (I.tok _) rw')
 ·subst ey
  cases (show u=Value.ref b from ry)
  obtain⟨z,hd,xs,rel,dd⟩:=zjw I.hok e
  obtain⟨w',hw,rw'⟩:=zex.some_of (v:=v) (o:=(atKey xs k).map (·.2)) (by rw[l];exact rel.val k)
  obtain⟨p,hp,hp2⟩:=Option.map_eq_some_iff.mp hw
  refine wpAny_getItem_heap (tupleKind_room_in1 hu) (zgR I.hok eb) dd hp ?_
  rw[hp2]
  exact h w' _ (I.tok _) rw'
theorem zgT {h':Heap}{t':Nat}{ob:HO} (I:Inv X pins σ H s) (mu:Mut (H a)) (hs:Heap.SameBut a s.heap h') (he:∃ q,h'.get? a=some q) (new:zbe X.prog X.w (upd H a ob) h' a ob) :
  Inv X pins σ (upd H a ob) { s with heap:=h',toks:=t' }:=
 I.write (x:=a) (e:=a) mu (.inl rfl) (fun b q hb z=>(hs.2 b hb).trans z) he new
theorem ziQ {P:Program}{w:World}{H':Hp}{h':Heap}{kvs:List (Key×V)}{vs:List (Key×Value)} (z:kvs.length≤sizeLine) (hd:(a == sysModules)=false) (rel:KV kvs vs) (dd:h'.DictOf (zaR P w) a vs) :
  zbe P w H' h' a (.dK kvs):=⟨z,hd,vs,rel,dd⟩
theorem zgU {H':Hp}{Q:Unit→Shared→Prop} (hu:A.units + 1<cLine) (I:Inv X pins σ H s) (g:zki H a y v H') (ry:zaQ y u) (rv:zaQ v r) (h:∀ s',Inv X pins σ H' s'→Q () s') :
  wpAny (model X.prog X.w) A (setItem (.ref a) u r) Q E s:=by
 rcases g with⟨kvs,k,e,ey,l,eH⟩|⟨kvs,k,b,e,ey,eb,l,eH⟩
 ·subst ey eH
  obtain⟨z,hd,vs,rel,dd⟩:=zga I.hok e
  have hz:vs.length≤sizeLine:=by rw[← rel.length];exact z
  have hl:(zdZ kvs k v).length≤sizeLine:=by have:=zcg kvs k v;omega
  refine wpAny_setItem_pairs (hsz:=hz) (zie ry) dd fun h' dd' hs=>h _ ?_
  have he:∃ q,h'.get? a=some q:=let ⟨q,_,_,hq,_⟩:=dd';⟨q,hq⟩
  exact zgT I (by rw[e];exact True.intro) hs he (ziQ hl hd (rel.put k rv) dd')
 ·subst ey eH
  cases (show u=Value.ref b from ry)
  obtain⟨z,hd,xs,rel,dd⟩:=dt_of I.hok e
  have hz:xs.length≤sizeLine:=by rw[← Paired.length rel];exact z
  have hl:(zdZ kvs k v).length≤sizeLine:=by have:=zcg kvs k v;omega
  refine wpAny_setItem_heap (hsz:=hz) (tupleKind_room_in1 hu) (zgR I.hok eb) dd fun h' dd' hs=>h _ ?_
  obtain⟨q,es,ep,hq,h2,h3,h4,_,h5⟩:=dd'
  refine zgT I (by rw[e];exact True.intro) hs ⟨q,hq⟩ ⟨hl,hd,_,(rel.put k eb rv).keeps fun c ys ec=>?_,q,es,ep,hq,h2,h3,h4,h5⟩
  rw[zaf (zja ec e (fun z=>nomatch z))]
  exact ec
end
section
variable {X:Cx}{pins:List (Addr×Obj)}{σ:St}{H:Hp}{s:Shared}{a:Addr}{kvs:List (Key×V)}{k:Key}{u:Value}{A:Around}{E:Value→Shared→Prop}
end
def NoSl (i:Expr):Prop:=∀ ov iv,subscripted i false ov iv=operate [ov,iv] (getItem ov iv)
theorem zjy {prog:Program}{w:World}{A:Around}{E:Value→Shared→Prop}{s:Shared}{env:Env}{value slice:Expr}{pos:Pos}{T id:String}{Q:Value→Shared→Prop}
  (hl:typeLookup (.type T) "__getitem__"=pure (some (.builtin id))) (hs:NoSl slice)
  (h:wpAny (model prog w) A (eval value env) (fun o s₁=>wpAny (model prog w) A (eval slice env) (fun i s₂=>s₂.TypeIs o T∧wpAny (model prog w) A (getItem o i) Q E s₂) E s₁) E s) :
  wpAny (model prog w) A (eval (.Subscript value slice pos) env) Q E s:=by
 refine Subscript_ (wpAny_mono h (fun o s₁ h₁=>wpAny_mono h₁ (fun i s₂ h₂=>?_) fun _ _ x=>x) fun _ _ x=>x)
 obtain⟨hT,h₂⟩:=h₂
 unfold subscriptTail
 refine wpAny_bind ?_
 rw[getitemInPython_of_ne hT.not_modules]
 refine wpAny_bind (wpAny_specialOf hT hl ?_)
 have fin:wpAny (model prog w) A (subscripted slice false o i) (fun r s₃=>wpAny (model prog w) A (letTemporaryGo value o r >>= fun _=>pure r) Q E s₃) E s₂:=by
  rw[hs o i]
  exact wpAny_operating (wpAny_mono h₂ (fun r s₃ h₃=>wpAny_bind (wpAny_letTemporaryGo (wpAny_pure h₃))) fun _ _ x=>x)
 first
  | exact wpAny_pure (wpAny_bind fin)
  | exact wpAny_bind (wpAny_pure (wpAny_bind fin))
  | exact wpAny_bind fin
theorem zfg {X:Cx}{pins:List (Addr×Obj)}{σ:St}{H:Hp}{s:Shared}{a:Addr}{y:V}{o:Option V} (I:Inv X pins σ H s) (g:zjx H a y o):s.TypeIs (.ref a) "dict":=by
 rcases g with⟨kvs,k,e,_,_⟩|⟨kvs,k,b,e,_,_,_⟩
 ·obtain⟨_,_,vs,_,dd⟩:=zjv I.hok e
  exact dd.typeIs
 ·obtain⟨_,_,xs,_,dd⟩:=zjw I.hok e
  exact dd.typeIs
def tDGet (td ty:TE):TE:=fun σ H Q=>td σ H fun x H1=>ty σ H1 fun y H2=>∃ a v,x=.ref a∧zjx H2 a y (some v)∧Q v H2
def sDPut (td ty tv:TE):TS:=fun D σ H=>tv σ H fun v H1=>td σ H1 fun x H2=>ty σ H2 fun y H3=>∃ a H4,x=.ref a∧zki H3 a y v H4∧D.nx σ H4
section
variable {X:Cx}{o i e value:Expr}{pos pos' tpos:Pos}{td ty tv:TE}
theorem zbg (hu:X.A.units + 1<cLine) (ho:PE X o td) (hi:PE X i ty) (hs:NoSl i):PE X (.Subscript o i pos) (tDGet td ty):=by
 intro pins s σ H Q I h
 refine zjy PySem.F.slot_dict_getitem.lookup hs (thn (ho pins s σ H _ I h) fun u s1=>L2.ex5 fun x H1 I1 rx q1=>thn (hi pins s1 σ H1 _ I1 q1) fun iv s2=>L2.ex5 fun y H2 I2 ry hq_=>?_)
 obtain⟨a,v,ex,g,q2⟩:=hq_
 subst ex
 obtain rfl:u=Value.ref a:=rx
 exact⟨zfg I2 g,zgS hu I2 g ry fun w' s3 I3 rw'=>⟨v,H2,I3,rw',q2⟩⟩
theorem zgV (hu:X.A.units + 1<cLine) (ho:PE X o td) (hi:PE X i ty) (hv:PE X value tv) (hs:swapsWith value (some (.Subscript o i pos')) pos.line X.env=pure false) :
  PS X (.Assign [.Subscript o i pos'] value pos) (sDPut td ty tv):=by
 intro pins s σ H D I h
 refine wpAny_Assign_Subscript (thn (hv pins s σ H _ I h) fun r s1=>L2.ex5 fun v H1 I1 rv q1=>thn (ho pins s1 σ H1 _ I1 q1) fun u s2=>L2.ex5 fun x H2 I2 rx q2=>thn (hi pins s2 σ H2 _ I2 q2) fun iv s3=>L2.ex5 fun y H3 I3 ry hq_=>?_) hs
 obtain⟨a,H4,ex,g,q3⟩:=hq_
 subst ex
 obtain rfl:u=Value.ref a:=rx
 exact zgU hu I3 g ry rv fun s4 I4=>⟨σ,H4,I4,q3⟩
end
theorem zfI {P:Program}{w:World}{H:Hp} (h:Heap) (hb:sysModules<h.objs.size):zbe P w H (h.push { cls:=.type "dict",data:=.dict #[] }) h.objs.size (.dK []):=
 ⟨Nat.zero_le _,beq_eq_false_iff_ne.mpr (Ne.symm (Nat.ne_of_lt hb)),[],.nil,Heap.DictOf.new h⟩
def tDNewK:TE:=fun _ H Q=>∀ p,H p=none→Q (.ref p) (upd H p (.dK []))
section
variable {X:Cx}{pos:Pos}
theorem zfJ:PE X (.Dict [] [] pos) tDNewK:=fun pins s σ H Q I h=>
 wpAny_Dict_empty ⟨.ref s.heap.objs.size,_,I.laid (a:=s.heap.objs.size) (o:=.dK []) (t':=s.toks) (fun _ _ q=>Heap.get?_push_of_some _ q) (Nat.le_refl _) (zfI s.heap I.big),rfl,h _ (I.hok.fresh (Nat.le_refl _))⟩
end
structure M1 (X:Cx) (o:Expr) (m:Str) (apos:Pos) (e:Expr) (cpos:Pos):Prop where
 base:attributeBase o m X.env (eval o X.env)=eval o X.env
 few:((backTo cpos (starEach [e] X.env)).all (fun x=>!x.1) && (backToKw cpos (keywordEach [] X.env)).all (fun x=>x.1.isSome)
  && decide (([e]:List Expr).length + ([]:List Keyword).length + (if ([]:List Keyword).isEmpty then 0 else 1)<30))=true
 line:(apos.endLine == cpos.line)=true
 trees:backTo cpos (starEach [e] X.env)=[(false,eval e X.env)]
structure M2 (X:Cx) (o:Expr) (m:Str) (apos:Pos) (e f:Expr) (cpos:Pos):Prop where
 base:attributeBase o m X.env (eval o X.env)=eval o X.env
 few:((backTo cpos (starEach [e,f] X.env)).all (fun x=>!x.1) && (backToKw cpos (keywordEach [] X.env)).all (fun x=>x.1.isSome)
  && decide (([e,f]:List Expr).length + ([]:List Keyword).length + (if ([]:List Keyword).isEmpty then 0 else 1)<30))=true
 line:(apos.endLine == cpos.line)=true
 trees:backTo cpos (starEach [e,f] X.env)=[(false,eval e X.env),(false,eval f X.env)]
section
variable {X:Cx}{pins:List (Addr×Obj)}{σ:St}{H:Hp}{s:Shared}{a:Addr}{y d:V}{u r:Value}{o:Option V}{A:Around}{E:Value→Shared→Prop}
end
section
variable {X:Cx}{o e f:Expr}{apos cpos:Pos}{td ty tx:TE}
end
section
variable {X:Cx}{pins:List (Addr×Obj)}{σ:St}{H:Hp}{s:Shared}{a:Addr}{kvs:List (Key×V)}{A:Around}{E:Value→Shared→Prop}
end
section
variable {X:Cx}{pins:List (Addr×Obj)}{σ:St}{H:Hp}{s:Shared}{a:Addr}{y:V}{u:Value}{A:Around}{E:Value→Shared→Prop}
end
end L2
namespace Att
open PySem PySem.W PySem.Calls PyProof.Rows
theorem zdm {P:Params}{h:Heap}:∀ (ns:List Int) (vs:List Value),WellAll P h vs (ns.map WData.int)→IntsAre vs ns:=by
 intro ns
 induction ns with
 | nil=>
  intro vs w
  rw[List.map_nil] at w
  cases w
  exact .nil
 | cons n ns ih=>
  intro vs w
  rw[List.map_cons] at w
  cases w with
  | cons a b=>
   cases a
   exact .cons _ _ (ih _ b)
theorem zgW {l:OpenLaw}{n:Nat} (hn:l.most=some n){P:Params}{h:Heap}{args:List WData}{vals:List Value}
  (hpre:l.row.toRowW.claim.pre args=true) (hwl:WellAll P h vals args) :
  ∃ a vs ns,vals=[Value.ref a]∧args=[WData.list (ns.map WData.int)]∧h.get? a=some { cls:=.type "list",data:=.seq vs.toArray }∧IntsAre vs ns∧ns.length≤n:=by
 have hsh:WShape.hasAll [] args [.list .int]=true:=(pre_splitW hpre).1
 have hc:l.pre.holds [] { args:=args }=true:=(pre_splitW hpre).2
 obtain⟨d,r,rfl,h1,h2⟩:=hasAllW_cons hsh
 obtain rfl:=hasAllW_nil h2
 obtain⟨xs,rfl,h3⟩:=hasW_list h1
 obtain⟨ns,rfl⟩:=items_int h3
 have hlen:ns.length≤n:=by
  unfold OpenLaw.pre at hc
  have h4:(WTm.not (.lt (.lit (.int (n:Int))) (.len (.arg 0)))).holds [] { args:=[.list (ns.map .int)] }=true:=by
   have h4:=(holds_andW hc).1
   rw[hn] at h4
   exact h4
  have h5:=condW_of h4 (w_not (w_lt w_lit (w_len_list (w_arg rfl))))
  rw[List.length_map] at h5
  refine Nat.le_of_not_lt fun q=>?_
  have q':(n:Int)<((ns.length:Nat):Int):=by omega
  first
   | (rw[decide_eq_true q'] at h5;exact absurd h5 (by decide))
   | (simp at h5;omega)
 cases hwl with
 | cons w1 w2=>
  cases w2
  cases w1 with
  | list ho hall=>exact⟨_,_,ns,rfl,rfl,ho,zdm ns _ hall,hlen⟩
theorem zgX (l:OpenLaw) (args:List WData):l.row.toRowW.claim.post args (.bool true) args=true:=
 postW_of (r:=l.row.toRowW) (X:=(true == true))
  (show WShape.has [] (.bool true) .bool=true by first|rfl|decide|simp[WShape.has,WShape.arms,WShape.armsAll])
  (show(WTm.eq .res (.lit (.bool true))).value [] { args:=args,res:=some (.bool true),after:=args }=some (.bool (true == true)) from w_eq_bool (w_res rfl) w_lit) rfl
theorem zfh {l:OpenLaw}{n:Nat}{q:Program}{loose:List Str}{XP:(Str→Option Value)→Heap→Prop}{YP:World→Heap→Prop}{d:DefRec}
  (hn:l.most=some n) (hdf:d.params.defaults=[])
  (call:∀ (w:World) (s₀ s₁:Shared) (mg mb:Str→Option Value) (fa:Addr) (o:Obj) (pm cd doc:Value) (a:Addr) (vs:List Value) (ns:List Int),
   Ground q loose [] XP w s₀ mg mb s₁.heap→YP w s₁.heap →
   s₁.heap.get? fa=some o→o.data=.func (docDef d.name d.params d.body d.scope pm cd doc)→s₁.heap.CodeRec cd d.name→mg d.name=some (.ref fa) →
   s₁.heap.get? a=some { cls:=.type "list",data:=.seq vs.toArray }→IntsAre vs ns→ns.length≤n→s₁.gens=#[] →
   codeAny (model l.prog w) callerA (.call (.ref fa) ⟨[.ref a],[]⟩) (fun r s'=>r=.ok (.ret (.bool true))∧OldK s₁.heap s'.heap∧s'.os=s₁.os∧AllBare s'.gens) s₁) :
  WalkO q loose XP YP l.row.toRowW d [] (fun f vs=>PySem.call f vs):=by
 intro w s₀ s₁ mg mb G Y fa o pm cd doc dV kV ho hd hcd hD hmg hg args vals as hpre hlay hrd hwl hlo
 obtain rfl:dV=.none:=Dflts.none hD hdf
 obtain rfl:kV=.none:=Dflts.noKw hD
 obtain⟨a,vs,ns,rfl,rfl,hobj,hints,hlen⟩:=zgW hn hpre hwl
 refine enter_call (codeAny_mono (call w s₀ s₁ mg mb fa o pm cd doc a vs ns G Y ho (fd_plain hd) hcd hmg hobj hints hlen hg) fun r s' hq=>?_)
 obtain⟨rfl,h2,h3,h4⟩:=hq
 exact⟨.inl ⟨.bool true,.bool true,[],rfl,fun _=>rfl,.bool true,zgX l _,fun _=>⟨List.Pairwise.nil,fun _ hm=>(nomatch hm)⟩⟩,h2,h3,h4⟩
section
variable {prog:Program}{w:World}{A:Around}{E:Value→Shared→Prop}{s:Shared}{K:Frag}
end
end Att
namespace L2
open PySem PySem.Spec PyProof.Rows
theorem zeM:∀ {vs:List Value}{ns:List Int},IntsAre vs ns→zaK (ns.map V.int) vs
 | _,_,.nil=>.nil
 | _,_,.cons n t h=>.cons ⟨t,rfl⟩ (zeM h)
end L2
namespace L2
open PySem PySem.Spec PyProof.Rows
end L2
namespace L2
open PySem PySem.Spec PyProof.Rows
def zch (s:Stmt) (j:Nat):Stmt:=match s with
 | .ClassDef _ _ _ body _ _ _ _ _ _ _=>body.getD j (.Pass ⟨0,0,0,0⟩)
 | _=>.Pass ⟨0,0,0,0⟩
def zdn (s:Stmt):Arguments:=match s with
 | .FunctionDef _ a _ _ _ _ _ _ _ _=>a
 | _=>{ posonlyargs:=[],args:=[],vararg:=none,kwonlyargs:=[],kw_defaults:=[],kwarg:=none,defaults:=[] }
def zci (s:Stmt):List Stmt:=match s with
 | .FunctionDef _ _ b _ _ _ _ _ _ _=>b
 | _=>[]
def zag (s:Stmt):Scope:=match s with
 | .FunctionDef _ _ _ _ _ _ sc _ _ _=>sc
 | _=>{ kind:=.function,names:=[],isGenerator:=false,isCoroutine:=false }
abbrev CX0:CXT:=fun _ _ _ _ _ _=>False
abbrev E0:XK:=fun _ _ _=>False
theorem zjz {X:Cx}:zcW CX0 X E0:=fun _ _ _ _ _ _ _ h=>h.elim
structure Fun (K:PySem.W.Frag) (x qual:Str) (st:Stmt) (f:Addr) (fd:FuncData):Prop where
 ex:∃ (oc:Value) (od:Option Addr) (kV doc pm:Value) (an:Option Addr) (cdv ct:Value) (osl:Array (Option Value)),
  fd=PySem.W.fnOf x qual (zdn st) (zci st) (zag st) .none kV doc pm an cdv ct∧K.lookup f=some ⟨oc,od,.func fd,osl⟩∧PySem.W.codeIn K cdv qual=true
 kp:PySem.W.keepIn K (.ref f)=true
section
variable {P:Program}{w:World}{K:PySem.W.Frag}{mg:Str→Option Value}{base:Heap}
end
theorem zcu {A:Around}{k:Nat} (hr:zb7 k A):A.units + 1<cLine:=Nat.lt_of_le_of_lt (Nat.add_le_add_left (by decide:1≤64) _) hr.units
section
variable {X:Cx}
theorem pv (i:Nat){x:Str}{pos:Pos} (hN:X.N[i]?=some x:=by rfl) (hv:Vis X.env.scope x:=by first|exact Or.inl rfl|exact Or.inr (Or.inl rfl)|exact Or.inr (Or.inr rfl)) (hd:(x == ("__debug__":Str))=false:=by decide)
  (hcd:(x == ("__classdict__":Str))=false:=by decide):PE X (.Name x pos) (tVar i):=pe_var hN hv hd hcd
end
theorem iteF {A B:Prop} (h:B):if false=true then A else B:=by
 rw[if_neg Bool.false_ne_true]
 exact h
theorem zgY {A B:Prop} (h:A):if true=true then A else B:=by
 rw[if_pos rfl]
 exact h
def zaj (H H':Hp):Prop:=∀ b o,H b=some o→H' b=some o
theorem zaj.refl (H:Hp):zaj H H:=fun _ _ h=>h
theorem zaj.trans {H H1 H2:Hp} (a:zaj H H1) (b:zaj H1 H2):zaj H H2:=fun c o h=>b c o (a c o h)
theorem zaj.seq {K:PySem.W.Frag}{H H':Hp}{a:Addr}{xs:List V} (e:zaj H H') (h:SqL K H a xs):SqL K H' a xs:=by
 rcases h with(h|⟨o,h⟩)|h
 ·exact .inl (.inl (e _ _ h))
 ·exact .inl (.inr ⟨o,e _ _ h⟩)
 ·exact .inr h
section
variable {κ:Type} [DecidableEq κ]
end
end L2
namespace L2
open PySem PySem.Spec PyProof.Rows
def zb8 (cells:List (Str×Addr)):List (Str×NameKind)→List (Str×Addr)→List (Str×Addr)
 | [],acc=>acc
 | (n,k)::r,acc=>zb8 cells r (if (k == NameKind.free)=true then(n,(cells.lookup n).getD 0)::acc else acc)
theorem zbT {scope:Scope}{env:Env} (h:∀ y∈scope.names,y.2=.free→(env.cells.lookup y.1).isSome=true) :
  closureFor scope env=pure (zb8 env.cells scope.names []):=by
 simp only[closureFor]
 generalize scope.names=l at h ⊢
 generalize ([]:List (Str×Addr))=acc
 induction l generalizing acc with
 | nil=>rfl
 | cons x r ih=>
  obtain⟨n,k⟩:=x
  have hr:=fun y hy=>h y (List.mem_cons_of_mem _ hy)
  by_cases hk:k=.free
  ·subst hk
   obtain⟨c,hc⟩:=Option.isSome_iff_exists.mp (h (n,.free) List.mem_cons_self rfl)
   have ih':=ih hr ((n,c)::acc)
   simp only[List.forIn_cons,cellOf,hc,zb8,beq_self_eq_true,if_true,Option.getD_some] at ih' ⊢
   exact ih'
  ·have hb:(k == NameKind.free)=false:=by simpa using hk
   have ih':=ih hr acc
   simp only[List.forIn_cons,zb8,hb,Bool.false_eq_true,if_false] at ih' ⊢
   exact ih'
theorem zc6 {cells:List (Str×Addr)}{x:Str}{c:Addr}:∀ {l:List (Str×NameKind)}{acc:List (Str×Addr)},(∀ y∈l,y.2=.free→(cells.lookup y.1).isSome=true) →
  (zb8 cells l acc).lookup x=some c→acc.lookup x=some c∨cells.lookup x=some c
 | [],_,_,h=>.inl h
 | (n,k)::r,acc,hf,h=>by
  have hr:∀ y∈r,y.2=.free→(cells.lookup y.1).isSome=true:=fun y hy=>hf y (List.mem_cons_of_mem _ hy)
  by_cases hk:k=.free
  ·subst hk
   rcases zc6 (l:=r) hr (show(zb8 cells r ((n,(cells.lookup n).getD 0)::acc)).lookup x=some c from h) with q|q
   ·rw[List.lookup_cons] at q
    by_cases hx:x=n
    ·subst hx
     rw[beq_self_eq_true] at q
     obtain⟨c',hc⟩:=Option.isSome_iff_exists.mp (hf (x,.free) List.mem_cons_self rfl)
     have hc:cells.lookup x=some c':=hc
     rw[hc] at q ⊢
     exact .inr q
    ·rw[beq_eq_false_iff_ne.mpr hx] at q
     exact .inl q
   ·exact .inr q
  ·have hb:¬ (k == NameKind.free)=true:=by simpa using hk
   have h':(zb8 cells r (if (k == NameKind.free)=true then(n,(cells.lookup n).getD 0)::acc else acc)).lookup x=some c:=h
   rw[if_neg hb] at h'
   exact zc6 hr h'
theorem zdo {cells:List (Str×Addr)}{x:Str}:∀ {l:List (Str×NameKind)}{acc:List (Str×Addr)},((x,NameKind.free)∈l∨(acc.lookup x).isSome=true)→((zb8 cells l acc).lookup x).isSome=true
 | [],_,h=>by
  rcases h with h|h
  ·cases h
  ·exact h
 | (n,k)::r,acc,h=>by
  show((zb8 cells r (if (k == NameKind.free)=true then(n,(cells.lookup n).getD 0)::acc else acc)).lookup x).isSome=true
  refine zdo ?_
  rcases h with h|h
  ·rcases List.mem_cons.mp h with e|e
   ·cases e
    right
    rw[if_pos (by rfl),List.lookup_cons,beq_self_eq_true]
    rfl
   ·exact .inl e
  ·right
   by_cases hb:(k == NameKind.free)=true
   ·rw[if_pos hb,List.lookup_cons]
    cases hx:x == n with
    | true=>rfl
    | false=>exact h
   ·rw[if_neg hb]
    exact h
theorem zdp (c:Bool){n x:Str}{k:NameKind}{r:List (Str×NameKind)} (hx:(x == n)=true):((if c=true then(n,NameKind.cell) else(n,k))::r).lookup x=some (if c=true then .cell else k):=by
 cases c <;> simp[List.lookup_cons,hx]
theorem zeN (c:Bool){n x:Str}{k:NameKind}{r:List (Str×NameKind)} (hx:(x == n)=false):((if c=true then(n,NameKind.cell) else(n,k))::r).lookup x=r.lookup x:=by
 cases c <;> simp[List.lookup_cons,hx]
theorem zcX {env:Env}:∀ {names:List (Str×NameKind)}{x:Str},names.lookup x=some .free →
  (names.map fun(n,k)=>if (k == NameKind.free && env.scope.kind == .function && env.kindOf n == some .cell) then(n,NameKind.cell) else(n,k)).lookup x=some .cell ∨
  (names.map fun(n,k)=>if (k == NameKind.free && env.scope.kind == .function && env.kindOf n == some .cell) then(n,NameKind.cell) else(n,k)).lookup x=some .free
 | [],_,h=>by simp at h
 | (n,k)::r,x,h=>by
  have ih:=@zcX env r x
  rw[List.lookup_cons] at h
  rw[List.map_cons]
  cases hx:x == n with
  | true=>
   rw[hx] at h
   cases h
   dsimp only
   rw[zdp _ hx]
   cases (NameKind.free == NameKind.free && env.scope.kind == .function && env.kindOf n == some .cell) with
   | true=>exact .inl rfl
   | false=>exact .inr rfl
  | false=>
   rw[hx] at h
   dsimp only
   rw[zeN _ hx]
   exact ih h
theorem zbU {env:Env}:∀ {names:List (Str×NameKind)}{x:Str}{k':NameKind},(k'=.cell∨k'=.free) →
  (names.map fun(n,k)=>if (k == NameKind.free && env.scope.kind == .function && env.kindOf n == some .cell) then(n,NameKind.cell) else(n,k)).lookup x=some k' →
  ∃ k,(k=.free∨k=.cell)∧(x,k)∈names
 | [],_,_,_,h=>by simp at h
 | (n,k)::r,x,k',hk,h=>by
  have ih:=@zbU env r x k' hk
  rw[List.map_cons] at h
  dsimp only at h
  cases hx:x == n with
  | true=>
   have e:x=n:=eq_of_beq hx
   subst e
   rw[zdp _ hx] at h
   cases hc:(k == NameKind.free && env.scope.kind == .function && env.kindOf x == some .cell) with
   | true=>
    simp only[Bool.and_eq_true,beq_iff_eq] at hc
    obtain⟨⟨rfl,_⟩,_⟩:=hc
    exact⟨.free,.inl rfl,List.mem_cons_self⟩
   | false=>
    rw[hc] at h
    have h:some k=some k':=h
    cases h
    rcases hk with rfl|rfl
    ·exact⟨_,.inr rfl,List.mem_cons_self⟩
    ·exact⟨_,.inl rfl,List.mem_cons_self⟩
  | false=>
   rw[zeN _ hx] at h
   obtain⟨k2,h1,h2⟩:=ih h
   exact⟨k2,h1,List.mem_cons_of_mem _ h2⟩
def zbB (X:Cx) (scope:Scope) (cl:List (Str×Addr)) (C:Addr) (N:List Str) (s:Shared) (H:Hp) (fp:List Addr) (pins:List (Addr×Obj)):Cx:=
 { X with N:=N,s₀:=s,H₀:=H,env:=compEnvC scope cl C X.env,outer:=X.stack,stack:=X.stack,ex:=fp,fn:=fun _=>false,pn:=X.pn++pins,xe:=fun _ _=>False }
def zkj (cap:List (Option Nat)) (σ:St):St:=cap.map fun o=>o.bind fun j=>(σ[j]?).join
def isCF:Option NameKind→Bool
 | some .cell=>true
 | some .free=>true
 | _=>false
def zcj (sc:Scope) (XN:List Str):List (Option Nat)→List Str→Bool
 | [],[]=>true
 | some j::r,x::xs=>(XN[j]? == some x) && (sc.names.lookup x == some NameKind.free) && zcj sc XN r xs
 | none::r,_::xs=>zcj sc XN r xs
 | _,_=>false
def zcN (osc sc:Scope) (XN N:List Str) (cap:List (Option Nat)):Bool:=
 (sc.kind == ScopeKind.function) && sc.names.all (fun y=>y.2 != NameKind.cell) && sc.names.all (fun y=>y.2 != NameKind.local || sc.names.lookup y.1 == some NameKind.local) &&
 sc.names.all (fun y=>y.2 != NameKind.free || isCF (osc.names.lookup y.1)) && zcj sc XN cap N
theorem zdq {sc:Scope}{XN:List Str}:∀ {cap:List (Option Nat)}{N:List Str},zcj sc XN cap N=true→cap.length=N.length
 | [],[],_=>rfl
 | some _::r,_::xs,h=>by
  simp only[zcj,Bool.and_eq_true] at h
  simp[zdq h.2]
 | none::r,_::xs,h=>by
  simp only[zcj] at h
  simp[zdq h]
 | [],_::_,h=>by simp[zcj] at h
 | some _::_,[],h=>by simp[zcj] at h
 | none::_,[],h=>by simp[zcj] at h
theorem zdr {sc:Scope}{XN:List Str}:∀ {cap:List (Option Nat)}{N:List Str}{i j:Nat}{x:Str},zcj sc XN cap N=true→cap[i]?=some (some j)→N[i]?=some x→XN[j]?=some x∧sc.names.lookup x=some .free
 | [],_,i,_,_,_,h,_=>by simp at h
 | some _::r,y::xs,0,j,x,h,h1,h2=>by
  simp only[zcj,Bool.and_eq_true,beq_iff_eq] at h
  simp at h1 h2
  subst h1;subst h2
  exact⟨h.1.1,h.1.2⟩
 | some _::r,y::xs,i + 1,j,x,h,h1,h2=>by
  simp only[zcj,Bool.and_eq_true] at h
  exact zdr (i:=i) h.2 (by simpa using h1) (by simpa using h2)
 | none::r,y::xs,0,j,x,h,h1,h2=>by simp at h1
 | none::r,y::xs,i + 1,j,x,h,h1,h2=>by
  simp only[zcj] at h
  exact zdr (i:=i) h (by simpa using h1) (by simpa using h2)
 | some _::_,[],_,_,_,h,_,_=>by simp[zcj] at h
 | none::_,[],_,_,_,h,_,_=>by simp[zcj] at h
section
variable {X:Cx}{pins:List (Addr×Obj)}{σ:St}{H:Hp}{s:Shared}{scope:Scope}{N:List Str}{cap:List (Option Nat)}{fp:List Addr}
theorem Inv.clos (I:Inv X pins σ H s) (ok:zcN X.env.scope scope X.N N cap=true):∀ y∈scope.names,y.2=.free→(X.env.cells.lookup y.1).isSome=true:=fun y hy hf=>by
 simp only[zcN,Bool.and_eq_true,List.all_eq_true] at ok
 have h:=ok.1.2 y hy
 rw[hf] at h
 have h':isCF (X.env.scope.names.lookup y.1)=true:=by simpa using h
 have hk:X.env.kindOf y.1=some .cell∨X.env.kindOf y.1=some .free:=by
  show X.env.scope.names.lookup y.1=_∨X.env.scope.names.lookup y.1=_
  cases e:X.env.scope.names.lookup y.1 with
  | none=>rw[e] at h';cases h'
  | some k=>
   rw[e] at h'
   cases k <;> first|exact .inl rfl|exact .inr rfl|cases h'
 obtain⟨c,e⟩:=I.ok.has y.1 hk
 rw[e]
 rfl
theorem Inv.comp (I:Inv X pins σ H s) (ok:zcN X.env.scope scope X.N N cap=true) (f:∀ b∈fp,zdf X pins H b) (fo:∀ b∈fp,∃ o,s.heap.get? b=some o){h₁:Heap}{tk:Nat}{fo':Obj}
  (hn:h₁.Ns (s.heap.push { cls:=.type "list",data:=.seq #[] }).objs.size (fun _=>none))
  (hs:Heap.SameBut (s.heap.push { cls:=.type "list",data:=.seq #[] }).objs.size ((s.heap.push { cls:=.type "list",data:=.seq #[] }).push fo') h₁) :
  Inv (zbB X scope (zb8 X.env.cells scope.names []) (s.heap.push { cls:=.type "list",data:=.seq #[] }).objs.size N { s with heap:=s.heap.push { cls:=.type "list",data:=.seq #[] } } (upd H s.heap.objs.size (.lst [])) fp pins)
   [] (zkj cap σ) (upd H s.heap.objs.size (.lst [])) { s with heap:=h₁,toks:=tk }:=by
 have okC:=ok
 simp only[zcN,Bool.and_eq_true,List.all_eq_true,beq_iff_eq] at ok
 obtain⟨⟨⟨⟨hkind,hcell⟩,_⟩,_⟩,hcap⟩:=ok
 have cl:=I.clos okC
 have hC:(s.heap.push { cls:=.type "list",data:=.seq #[] }).objs.size=s.heap.objs.size + 1:=Heap.size_push ..
 generalize hCC:(s.heap.push { cls:=.type "list",data:=.seq #[] }).objs.size=C at hn hs hC ⊢
 have below:∀ b o,s.heap.get? b=some o→b≠C∧b≠s.heap.objs.size:=fun b o e=>by
  have:=Heap.lt_size e
  exact⟨by rw[hC];exact Nat.ne_of_lt (Nat.lt_succ_of_lt this),Nat.ne_of_lt this⟩
 have old:∀ b o,s.heap.get? b=some o→h₁.get? b=some o:=fun b o e=>hs.extBut b o (below b o e).1 (Heap.get?_push_of_some _ (Heap.get?_push_of_some _ e))
 have up3:∀ b o,s.heap.get? b=some o→(s.heap.push { cls:=.type "list",data:=.seq #[] }).get? b=some o:=fun b o e=>Heap.get?_push_of_some _ e
 have old3:∀ b o,(s.heap.push { cls:=.type "list",data:=.seq #[] }).get? b=some o→h₁.get? b=some o:=fun b o e=>by
  have:b<C:=by rw[← hCC];exact Heap.lt_size e
  exact hs.extBut b o (Nat.ne_of_lt this) (Heap.get?_push_of_some _ e)
 have hD:H s.heap.objs.size=none:=I.hok.fresh (Nat.le_refl _)
 have free3:∀ b o,s.heap.get? b=some o→H b=none→upd H s.heap.objs.size (.lst []) b=none:=fun b o e n=>by rw[zaf (below b o e).2];exact n
 have hCn:upd H s.heap.objs.size (.lst []) C=none:=by
  rw[zaf (by rw[hC];exact Nat.ne_of_gt (Nat.lt_succ_self _))]
  exact I.hok.fresh (by rw[hC];exact Nat.le_succ _)
 have cellsIn:∀ x c,(zb8 X.env.cells scope.names []).lookup x=some c→X.env.cells.lookup x=some c:=fun x c e=>by
  rcases zc6 cl e with q|q
  ·simp at q
  ·exact q
 have cellO:∀ x c,(zb8 X.env.cells scope.names []).lookup x=some c→∃ v o,s.heap.IsCell c v∧s.heap.get? c=some o:=fun x c e=>by
  obtain⟨v,q⟩:=I.cell x c (cellsIn x c e)
  obtain⟨o,ho,_⟩:=id q
  exact⟨v,o,q,ho⟩
 have hok3:HOk X.prog X.w (upd H s.heap.objs.size (.lst [])) h₁:=I.hok.laid old (Nat.le_refl _) (show zbe X.prog X.w _ h₁ s.heap.objs.size (.lst []) from⟨Nat.zero_le _,[],0,.nil,old3 _ _ (Heap.get?_push_size _ rfl)⟩)
 have stkb:∀ b∈frs X.stack,∃ o,s.heap.get? b=some o:=fun b hb=>by
  obtain⟨_,o,ho,_⟩:=I.stack.mem hb
  exact⟨o,ho⟩
 refine⟨⟨I.ok.mod,hkind,I.ok.glob,I.ok.blt,Nat.le_of_eq hCC,fun y z c h1 h2=>I.ok.inj y z c (cellsIn y c h1) (cellsIn z c h2),fun y hy=>?_,fun y c hf _=>Bool.noConfusion hf,I.hdAt.new hD,I.ok.frames,.inl rfl,fun b hb=>?_,
   fun b o e=>⟨up3 b o (I.bs b o e).1,free3 b o (I.bs b o e).1 (I.bs b o e).2⟩,?_,fun b o e hb=>?_,fun b hb hb2=>?_,?_,fun b hb=>?_⟩,
  rfl,I.bare,Un.kept old3,⟨_,hn,fun i x v h1 h2 h3=>?_⟩,fun x c e=>?_,hCn,fun x c e=>?_,fun p hp=>?_,hok3,?_⟩
 ·-- has
  have hy:(relabel scope X.env).names.lookup y=some .cell∨(relabel scope X.env).names.lookup y=some .free:=hy
  have:(y,NameKind.free)∈scope.names:=by
   rcases hy with q|q
   ·obtain⟨k,hk,hm⟩:=zbU (.inl rfl) q
    rcases hk with rfl|rfl
    ·exact hm
    ·exact absurd (show(NameKind.cell != NameKind.cell)=true from hcell _ hm) (by decide)
   ·obtain⟨k,hk,hm⟩:=zbU (.inr rfl) q
    rcases hk with rfl|rfl
    ·exact hm
    ·exact absurd (show(NameKind.cell != NameKind.cell)=true from hcell _ hm) (by decide)
  exact Option.isSome_iff_exists.mp (zdo (.inl this))
 ·-- exf
  obtain⟨o,e⟩:=fo b hb
  exact⟨(below b o e).1,fun x c q=>(f b hb).2.2.2.2.1 x c (cellsIn x c q)⟩
 ·-- bsz
  show X.base.objs.size≤(s.heap.push { cls:=.type "list",data:=.seq #[] }).objs.size
  rw[Heap.size_push]
  exact Nat.le_succ_of_le (Nat.le_trans I.ok.bsz I.sz)
 ·-- noex
  rcases(f b hb).2.2.2.1 with q|q
  ·exact I.ok.noex b o e q
  ·exact absurd (Nat.lt_of_lt_of_le (Heap.lt_size (I.ok.bs b o e).1) q) (Nat.lt_irrefl _)
 ·-- exfs
  rcases List.mem_cons.mp (I.stkSub b hb2) with q|q
  ·exact(f b hb).2.1 q
  ·exact(f b hb).2.2.1 q
 ·-- funs
  exact I.stack.of_keeps fun b o e _=>⟨o,up3 b o e,rfl⟩
 ·-- frf
  obtain⟨o,e⟩:=stkb b hb
  exact free3 b o e (I.stkFree b hb)
 ·-- loc
  have hi:∃ j,cap[i]?=some (some j)∧σ[j]?=some (some v):=by
   unfold zkj at h2
   rw[List.getElem?_map] at h2
   cases e:cap[i]? with
   | none=>rw[e] at h2;cases h2
   | some o=>
    rw[e] at h2
    cases o with
    | none=>cases h2
    | some j=>
     refine⟨j,rfl,?_⟩
     have h2':(σ[j]?).join=some v:=Option.some.inj h2
     cases e2:σ[j]? with
     | none=>rw[e2] at h2';cases h2'
     | some o2=>rw[e2] at h2';rw[show o2=some v from h2']
  obtain⟨j,hj,hv⟩:=hi
  obtain⟨hX,hfr⟩:=zdr hcap hj h1
  have hmem:(x,NameKind.free)∈scope.names:=PySem.mem_of_lookup hfr
  have hcf:=okC
  simp only[zcN,Bool.and_eq_true,List.all_eq_true] at hcf
  have h':isCF (X.env.scope.names.lookup x)=true:=by simpa using hcf.1.2 _ hmem
  have hk:X.env.scope.names.lookup x=some .cell∨X.env.scope.names.lookup x=some .free:=by
   cases e:X.env.scope.names.lookup x with
   | none=>rw[e] at h';cases h'
   | some k=>
    rw[e] at h'
    cases k <;> first|exact .inl rfl|exact .inr rfl|cases h'
  obtain⟨m,_,hl⟩:=I.loc
  obtain⟨u,ru,lk⟩:=hl j x v hX hv (hk.elim (fun q=>.inr (.inl q)) fun q=>.inr (.inr q))
  refine⟨u,ru,.inr ⟨zcX hfr,?_⟩⟩
  rcases lk with⟨q,_⟩|⟨_,c,hc,hcell2⟩
  ·have q':X.env.scope.names.lookup x=some .local:=q
   rcases hk with z|z
   ·rw[z] at q';cases q'
   ·rw[z] at q';cases q'
  ·obtain⟨c',hc'⟩:=Option.isSome_iff_exists.mp (zdo (cells:=X.env.cells) (acc:=[]) (.inl hmem))
   have:c'=c:=by
    have:=cellsIn x c' hc'
    rw[hc] at this
    exact(Option.some.inj this).symm
   subst this
   obtain⟨o,ho,hd⟩:=hcell2
   exact⟨c',hc',o,old c' o ho,hd⟩
 ·-- cell
  obtain⟨v,o,⟨o',ho,hd⟩,_⟩:=cellO x c e
  exact⟨v,o',old c o' ho,hd⟩
 ·-- freeC
  obtain⟨v,o,_,ho⟩:=cellO x c e
  exact free3 c o ho (I.freeC x c (cellsIn x c e))
 ·-- pins
  have hp':p∈X.pn++pins:=by simpa [zbB] using hp
  obtain⟨e,n,ne,nf,d⟩:=I.pin p hp'
  refine⟨old _ _ e,free3 _ _ e n,(below _ _ e).1,fun z=>?_,d⟩
  rcases List.mem_cons.mp (I.stkSub p.1 z) with q|q
  ·exact ne q
  ·exact nf q
 ·-- len
  show(zkj cap σ).length=N.length
  unfold zkj
  rw[List.length_map]
  exact zdq hcap
end
section
variable {prog:Program}{w:World}{A:Around}{R:Result→Shared→Prop}{s:Shared}
theorem zfi {elt target iter:Expr}{ifs:List Expr}{scope:Scope}{pos:Pos}{it acc:Value}{env:Env} (J:Nat→Shared→Prop)
  (turn:∀ n s,J n s→wpAny (model prog w) A (pyNext it) (fun r s₁=>match r with
   | none=>R (.ok .next) s₁
   | some v=>wpAny (model prog w) A (letOwnedTupleGo target it v) (fun _ s₂=>wpAny (model prog w) A (assign target env v) (fun _ s₃=>
     wpAny (model prog w) A (forIn ifs true fun c r=>if r=true then do let ok ← isTrue c env (eval c env);pure (ForInStep.yield ok) else pure (ForInStep.yield r)) (fun ok s₄=>
      if ok=true then wpAny (model prog w) A (eval elt env) (fun x s₅=>
       wpAny (model prog w) A (call (.builtin "list.append") [acc,x]) (fun _ s₆=>∃ m,m<n∧J m s₆) (fun _ _=>False) s₅) (fun _ _=>False) s₄
      else ∃ m,m<n∧J m s₄) (fun _ _=>False) s₃) (fun _ _=>False) s₂) (fun _ _=>False) s₁) (fun _ _=>False) s)
  (n:Nat) (h:J n s):codeAny (model prog w) A (.compLoop (.ListComp elt [⟨target,iter,ifs,0⟩] scope pos) 0 it acc env) R s:=by
 have no:∀ {E:Value→Shared→Prop} (e:Value) (s':Shared),(fun(_:Value) (_:Shared)=>False) e s'→E e s':=fun _ _ z=>z.elim
 refine codeAny_loop rfl J (fun n s hI=>?_) n h
 show wpAny _ A ((compTurn (.ListComp elt [⟨target,iter,ifs,0⟩] scope pos) 0 it acc env).onRaise (fun x=>do noteFrame x env;theTreesLotGoes x)) _ _ s
 refine wpAny_noted ?_
 rw[compTurn_list]
 refine wpAny_bind (wpAny_standAt (wpAny_bind (wpAny_mono (turn n s hI) (fun r s₁ h₁=>?_) no)))
 cases r with
 | none=>exact wpAny_pure h₁
 | some v=>
  refine wpAny_bind (wpAny_mono h₁ (fun _ s₂ h₂=>wpAny_bind (wpAny_mono h₂ (fun _ s₃ h₃=>wpAny_bind (wpAny_mono h₃ (fun ok s₄ h₄=>?_) no)) no)) no)
  cases ok with
  | false=>exact wpAny_pure ⟨rfl,h₄⟩
  | true=>
   exact wpAny_bind (wpAny_bind (wpAny_mono h₄ (fun x s₅ h₅=>wpAny_bind (wpAny_mono h₅ (fun _ s₆ h₆=>wpAny_pure (wpAny_pure ⟨rfl,h₆⟩)) no)) no))
end
def PIf (X:Cx) (cs:List Expr) (t:TT):Prop:=
 ∀ (pins:List (Addr×Obj)) (s:Shared) (σ:St) (H:Hp) (Q:Bool→Hp→Prop),Inv X pins σ H s→t σ H Q →
  wpAny (model X.prog X.w) X.A (forIn cs true fun c r=>if r=true then do let ok ← isTrue c X.env (eval c X.env);pure (ForInStep.yield ok) else pure (ForInStep.yield r)) (TP X pins σ Q) X.xe s
def zgv:TT:=fun _ H Q=>Q true H
theorem zbo {X:Cx}:PIf X [] zgv:=fun _ _ _ H _ I h=>wpAny_tests_nil ⟨H,I,h⟩
theorem zgZ {X:Cx}{c:Expr}{t:TT} (h:PT X c t):PIf X [c] t:=fun pins s σ H Q I hq=>wpAny_tests_one (h pins s σ H Q I hq)
def zg0 (J:It) (D:Addr) (τ:St) (H:Hp) (g:TG) (tt:TT) (te:TE) (Q:VK):Prop:=
 ∃ W:Nat→Nat→St→Hp→Prop,(∃ m,W 0 m τ H)∧∀ i m τ H,W i m τ H →
  (J.stop i H∧Q (.ref D) H)∨(J.go i H∧∃ M:St→Hp→Prop,(∀ τ' H',M τ' H'→∃ m',m'<m∧W (i + 1) m' τ' H')∧∀ x H',J.yld i H x H'→g x τ H' fun τ2 H2=>tt τ2 H2 fun b H3=>
   if b=true then te τ2 H3 fun y H4=>∃ ys,H4 D=some (.lst ys)∧ys.length<sizeLine∧M τ2 (upd H4 D (.lst (ys++[y]))) else M τ2 H3)
def tComp (wi:TI) (cap:List (Option Nat)) (g:TG) (tt:TT) (te:TE):TE:=fun σ H Q=>wi σ H fun J H1=>∀ D,H1 D=none→zg0 J D (zkj cap σ) (upd H1 D (.lst [])) g tt te Q
section
variable {X:Cx}{elt tg iter:Expr}{ifs:List Expr}{scope:Scope}{pos:Pos}{N:List Str}{cap:List (Option Nat)}{wi:TI}{g:TG}{tt:TT}{te:TE}
theorem zd0 {pins:List (Addr×Obj)}{σ:St}{H:Hp}{s:Shared}{J:It}{fp:List Addr}{it:Addr}{tn:Nat→Heap→Prop}{Q:VK}{E:Value→Shared→Prop}{RR:Value→Addr→Result→Shared→Prop}
  (hc:X.calm=true) (ok:zcN X.env.scope scope X.N N cap=true)
  (hg:∀ cl C s H fp pins,PG (zbB X scope cl C N s H fp pins) tg g) (hf:∀ cl C s H fp pins,PIf (zbB X scope cl C N s H fp pins) ifs tt) (he:∀ cl C s H fp pins,PE (zbB X scope cl C N s H fp pins) elt te)
  (I:Inv X pins σ H s) (T:zkh X.prog X.w X.K tg J fp it tn) (st:tn 0 s.heap) (f:∀ b∈fp,zdf X pins H b)
  (q:∀ D,H D=none→zg0 J D (zkj cap σ) (upd H D (.lst [])) g tt te Q)
  (fin:∀ D C H' s' m,Inv X pins σ H' s'→zdf X pins H' C→s'.heap.Ns C m→Q (.ref D) H'→RR (.ref D) C (.ok .next) s') :
  wpAny (model X.prog X.w) X.A (newList []) (fun acc s₃=>wpAny (model X.prog X.w) X.A (newFunctionEnv scope X.env.globals (zb8 X.env.cells scope.names []) [] X.env.qual none .none (some X.env)) (fun cenv s₄=>
   codeAny (model X.prog X.w) X.A (.compStart (.ListComp elt [⟨tg,iter,ifs,0⟩] scope pos) 0 (.ref it) acc { cenv with scope:=relabel scope X.env }) (RR acc cenv.locals) s₄) E s₃) E s:=by
 have ok':=ok
 simp only[zcN,Bool.and_eq_true,List.all_eq_true,beq_iff_eq] at ok'
 obtain⟨⟨⟨⟨hkind,hcell⟩,_⟩,_⟩,hcap⟩:=ok'
 refine wpAny_newObj_type (wpAny_newFunctionEnv (fun y hy=>by simpa using hcell y hy) (by intro y hy;simp at hy) (fun h₁ hns₁ hsb₁=>?_) hkind)
 dsimp only at hns₁ hsb₁ ⊢
 have fo:∀ b∈fp,∃ o,s.heap.get? b=some o:=fun b hb=>let ⟨o,e,_⟩:=T.obj _ _ st b hb;⟨o,e⟩
 have J0:=I.comp (h₁:=h₁) (tk:=s.toks + ([]:List (Str×Value)).length) ok f fo hns₁ hsb₁
 have hDfree:H s.heap.objs.size=none:=I.hok.fresh (Nat.le_refl _)
 obtain⟨W,⟨m0,w0⟩,turn⟩:=q _ hDfree
 generalize hY:zbB X scope (zb8 X.env.cells scope.names []) (s.heap.push { cls:=.type "list",data:=.seq #[] }).objs.size N { s with heap:=s.heap.push { cls:=.type "list",data:=.seq #[] } } (upd H s.heap.objs.size (.lst [])) fp pins=Y at J0
 have below:∀ b∈fp,b<s.heap.objs.size:=fun b hb=>let ⟨o,e⟩:=fo b hb;Heap.lt_size e
 have cl:=I.clos ok
 have stat:∀ {H':Hp},(∀ b∈fp,H' b=none)→∀ b∈fp,zdf Y [] H' b:=fun {H'} hn b hb=>by
  subst hY
  refine⟨hn b hb,?_,fun z=>?_,.inl hb,fun x c e=>?_,fun p hp=>?_⟩
  ·show b≠(s.heap.push { cls:=.type "list",data:=.seq #[] }).objs.size
   rw[Heap.size_push]
   exact Nat.ne_of_lt (Nat.lt_succ_of_lt (below b hb))
  ·rcases List.mem_cons.mp (I.stkSub b z) with q|q
   ·exact(f b hb).2.1 q
   ·exact(f b hb).2.2.1 q
  ·refine(f b hb).2.2.2.2.1 x c ?_
   rcases zc6 cl e with z|z
   ·simp at z
   ·exact z
  ·exact(f b hb).2.2.2.2.2 p (by simpa [zbB] using hp)
 have hgY:PG Y tg g:=hY ▸ hg _ _ _ _ _ _
 have hfY:PIf Y ifs tt:=hY ▸ hf _ _ _ _ _ _
 have heY:PE Y elt te:=hY ▸ he _ _ _ _ _ _
 have e1:Y.prog=X.prog:=by subst hY;rfl
 have e2:Y.w=X.w:=by subst hY;rfl
 have e3:Y.K=X.K:=by subst hY;rfl
 have e4:Y.calm=true:=by subst hY;exact hc
 have e5:Y.A=X.A:=by subst hY;rfl
 have e6:Y.env=compEnvC scope (zb8 X.env.cells scope.names []) (s.heap.push { cls:=.type "list",data:=.seq #[] }).objs.size X.env:=by subst hY;rfl
 have e7:Y.xe=fun _ _=>False:=by subst hY;rfl
 have hfp0:∀ b∈fp,upd H s.heap.objs.size (.lst []) b=none:=fun b hb=>by rw[zaf (Nat.ne_of_lt (below b hb))];exact(f b hb).1
 have st0:tn 0 h₁:=T.keep _ _ _ st fun b hb o e=>hsb₁.extBut b o (by
  have:=below b hb
  rw[Heap.size_push]
  exact Nat.ne_of_lt (Nat.lt_succ_of_lt this)) (Heap.get?_push_of_some _ (Heap.get?_push_of_some _ e))
 have loop:∀ s₃:Shared,s₃={ s with heap:=h₁,toks:=s.toks + ([]:List (Str×Value)).length } →
   codeAny (model X.prog X.w) X.A (.compLoop (.ListComp elt [⟨tg,iter,ifs,0⟩] scope pos) 0 (.ref it) (.ref s.heap.objs.size)
    (compEnvC scope (zb8 X.env.cells scope.names []) (s.heap.push { cls:=.type "list",data:=.seq #[] }).objs.size X.env)) (RR (.ref s.heap.objs.size) (s.heap.push { cls:=.type "list",data:=.seq #[] }).objs.size) s₃:=by
  rintro s₃ rfl
  refine zfi (fun n s'=>∃ i τ H',Inv Y [] τ H' s'∧tn i s'.heap∧(∀ b∈fp,H' b=none)∧W i n τ H') ?_ m0 ⟨0,_,_,J0,st0,hfp0,w0⟩
  rintro n s' ⟨i,τ,H',I',st',fr',w'⟩
  rcases turn i n τ H' w' with⟨stop,qn⟩|⟨go,M,hM,step⟩
  ·have z:=T.done Y e1 e2 e3 e4 i [] s' τ H' (fun _ _=>False) I' (stat fr') st' stop
   rw[e5] at z
   refine thn z fun r s4 ⟨hr,I4⟩=>?_
   subst hr
   subst hY
   obtain⟨m,hn4,_⟩:=I4.loc
   have ho:s4.os=s.os:=I4.os
   have un:Un (frs X.stack) fp H H' s.heap s4.heap:=by
    have u1:Un (frs X.stack) fp H (upd H s.heap.objs.size (.lst [])) s.heap (s.heap.push { cls:=.type "list",data:=.seq #[] }):=Un.laid (fun b u e=>Heap.get?_push_of_some _ e) (Nat.le_refl _) hDfree
    exact u1.trans I4.base
   have IX:Inv X pins σ H' s4:=I.call' ho un I4.hok I4.bare fun b hb=>⟨(f b hb).2.2.2.1,(f b hb).2.1,(f b hb).2.2.2.2.1,(f b hb).2.2.2.2.2⟩
   exact fin _ _ H' s4 m IX (I.fpOk (by rw[Heap.size_push];exact Nat.le_succ _) I4.free) hn4 qn
  ·have z:=T.item Y e1 e2 e3 e4 i [] s' τ H' (fun _ _=>False) I' (stat fr') st' go
   rw[e5] at z
   refine thn z fun r s4 ⟨u,hr,h4⟩=>?_
   subst hr
   refine thn h4 fun _ s5=>L2.ex5 fun x H5 I5 r5 hq_=>?_
   obtain⟨y5,st5,fr5⟩:=hq_
   have I5':=I5.pinned (stat fr5) (T.obj _ _ st5)
   have zg:=hgY _ s5 τ H5 x u _ I5' r5 (step x H5 y5)
   rw[e1,e2,e5,e6,e7] at zg
   refine thn zg fun _ s6 ⟨τ6,H6,I6,q6⟩=>?_
   have zf:=hfY _ s6 τ6 H6 _ I6 q6
   rw[e1,e2,e5,e6,e7] at zf
   refine thn zf fun b s7=>L2.ex3 fun H7 I7 q7=>?_
   have again:∀ {H8:Hp}{s8:Shared},Inv Y ([]++zeB fp s5.heap) τ6 H8 s8→M τ6 H8→∃ m,m<n∧∃ i τ H',Inv Y [] τ H' s8∧tn i s8.heap∧(∀ b∈fp,H' b=none)∧W i m τ H':=fun {H8 s8} I8 w8=>by
    obtain⟨m',hm,w8⟩:=hM _ _ w8
    refine⟨m',hm,i + 1,τ6,H8,I8.unpinned,T.keep _ _ _ st5 fun b hb o e=>(I8.pin (b,o) (List.mem_append_right _ (List.mem_append_right _ (zb2 hb e)))).1,fun b hb=>?_,w8⟩
    obtain⟨o,e,d⟩:=T.obj _ _ st5 b hb
    exact(I8.pin (b,o) (List.mem_append_right _ (List.mem_append_right _ (zb2 hb e)))).2.1
   cases b with
   | false=>exact again I7 q7
   | true=>
    have ze:=heY _ s7 τ6 H7 _ I7 q7
    rw[e1,e2,e5,e6,e7] at ze
    refine thn ze fun v s8=>L2.ex5 fun y H8 I8 r8 hq_=>?_
    obtain⟨ys,hD,hz,q8⟩:=hq_
    have za:=zaH (X:=Y) _ s8 τ6 H8 (.ref s.heap.objs.size) [y] (.ref s.heap.objs.size) [v] (fun _ H9=>H9=upd H8 s.heap.objs.size (.lst (ys++[y]))) I8 rfl (.cons r8 .nil) ⟨_,ys,y,rfl,rfl,hD,hz,rfl⟩
    rw[e1,e2,e5,e7] at za
    refine thn za fun _ s9 ⟨_,H9,I9,_,e9⟩=>?_
    subst e9
    exact again I9 q8
 exact codeAny_compStart_list (loop _ rfl) (T.self X.A 0 _ _ _ st0 (loop _ rfl))
theorem zbC {osc:Scope}{XN:List Str} (h1:X.env.scope=osc) (h2:X.N=XN) (ok:zcN osc scope XN N cap=true):zcN X.env.scope scope X.N N cap=true:=by
 rw[h1,h2]
 exact ok
theorem zbp (hc:X.calm=true) (ok:zcN X.env.scope scope X.N N cap=true) (hi:PI X tg iter wi)
  (hg:∀ cl C s H fp pins,PG (zbB X scope cl C N s H fp pins) tg g) (hf:∀ cl C s H fp pins,PIf (zbB X scope cl C N s H fp pins) ifs tt) (he:∀ cl C s H fp pins,PE (zbB X scope cl C N s H fp pins) elt te)
  (hs:∀ x,foldedSetIterable iter X.env x=pure x:=by intro _;rfl):PE X (.ListComp elt [⟨tg,iter,ifs,0⟩] scope pos) (tComp wi cap g tt te):=by
 intro pins s σ H Q I h
 have ok':=ok
 simp only[zcN,Bool.and_eq_true,List.all_eq_true,beq_iff_eq] at ok'
 obtain⟨⟨⟨⟨hkind,_⟩,hnames⟩,_⟩,_⟩:=ok'
 rw[eval_ListComp]
 refine wpAny_comprehension_free (use:=none) rfl hs (zbT (I.clos ok)) hkind (fun y hy hl=>by simpa [hl] using hnames y hy) (thn (hi pins s σ H _ I h) fun xv s1 h1=>thn h1 fun itv s2 h2=>?_)
 obtain⟨it,fp,tn,J,H2,e,I2,T,st2,f2,q⟩:=h2
 subst e
 refine zd0 (RR:=fun acc C=>compPost (model X.prog X.w) X.A X.xe none (EP X pins σ Q) acc C) hc ok hg hf he I2 T st2 f2 q ?_
 intro D C H' s' m I' fC hn qn
 obtain⟨f0,f1,f2',f3,f4,f5⟩:=fC
 exact⟨m,hn,fun h' sb=>⟨.ref D,H',I'.turned (t':=s'.toks) (fun b o hb e=>sb.extBut b o hb e) f0 f1 f3 f4 f5,rfl,qn⟩⟩
theorem zg1 {i:Nat}{x:Str}{pos' spos:Pos} (hN:X.N.Nodup) (hi':X.N[i]?=some x) (hx:X.env.scope.names.lookup x=some .local) (hc:X.calm=true) (ok:zcN X.env.scope scope X.N N cap=true) (hi:PI X tg iter wi)
  (hg:∀ cl C s H fp pins,PG (zbB X scope cl C N s H fp pins) tg g) (hf:∀ cl C s H fp pins,PIf (zbB X scope cl C N s H fp pins) ifs tt) (he:∀ cl C s H fp pins,PE (zbB X scope cl C N s H fp pins) elt te)
  (hsw:swapsWith (.ListComp elt [⟨tg,iter,ifs,0⟩] scope pos) (some (.Name x pos')) spos.line X.env=pure true)
  (hs:∀ x,foldedSetIterable iter X.env x=pure x:=by intro _;rfl) :
  PS X (.Assign [.Name x pos'] (.ListComp elt [⟨tg,iter,ifs,0⟩] scope pos) spos) (tAsg (tComp wi cap g tt te) (zaI i)):=by
 intro pins s σ H D I h
 have ok':=ok
 simp only[zcN,Bool.and_eq_true,List.all_eq_true,beq_iff_eq] at ok'
 obtain⟨⟨⟨⟨hkind,_⟩,hnames⟩,_⟩,_⟩:=ok'
 rw[exec_Assign_Name_used _ _ _ _ hsw]
 refine wpAny_bind (wpAny_standAt (wpAny_bind ?_))
 show wpAny _ X.A (do let _ ← comprehension (.ListComp elt [⟨tg,iter,ifs,0⟩] scope pos) scope X.env _ (newList []) false (eval iter X.env) (some (assign (.Name x pos') X.env))) _ _ s
 refine wpAny_bind (wpAny_mono (wpAny_comprehension_free (use:=some (assign (.Name x pos') X.env)) (Q:=fun _ s'=>SP X pins D .next s') rfl hs (zbT (I.clos ok)) hkind (fun y hy hl=>by simpa [hl] using hnames y hy)
  (thn (hi pins s σ H _ I h) fun xv s1 h1=>thn h1 fun itv s2 h2=>?_)) (fun _ s' hq=>wpAny_pure (wpAny_pure hq)) fun _ _ e=>e)
 obtain⟨it,fp,tn,J,H2,e,I2,T,st2,f2,q⟩:=h2
 subst e
 refine zd0 (RR:=fun acc C=>compPost (model X.prog X.w) X.A X.xe (some (assign (.Name x pos') X.env)) (fun _ s'=>SP X pins D .next s') acc C) hc ok hg hf he I2 T st2 f2 q ?_
 intro Dd C H' s' m I' fC hn qn
 obtain⟨f0,f1,f2',f3,f4,f5⟩:=fC
 show wpAny _ X.A (assign (.Name x pos') X.env (.ref Dd)) _ _ _
 refine wpAny_assign_Name (zey I' hN hi' (.inl hx) (v:=.ref Dd) rfl (fun s3 I3 ⟨a,sb,ha⟩=>?_) (.inr hx))
 have hCa:C≠a:=by
  rcases ha with z|z
  ·rw[z];exact f1
  ·exact fun w=>f4 x a z w.symm
 refine⟨m,hn.sameBut sb hCa,fun h' sb2=>?_⟩
 exact⟨_,H',I3.turned (t':=s3.toks) (fun b o hb e=>sb2.extBut b o hb e) f0 f1 f3 f4 f5,qn⟩
theorem zaT {K:PySem.W.Frag}{a D:Addr}{xs:List V}{τ:St}{H:Hp}{Q:VK} (Pv:Nat→St→Hp→Prop) (h0:Pv 0 τ H) (hl:∀ i τ H,i≤xs.length→Pv i τ H→SqL K H a xs)
  (hs:∀ i x τ H,xs[i]?=some x→Pv i τ H→g x τ H fun τ2 H2=>tt τ2 H2 fun b H3=>
   if b=true then te τ2 H3 fun y H4=>∃ ys,H4 D=some (.lst ys)∧ys.length<sizeLine∧Pv (i + 1) τ2 (upd H4 D (.lst (ys++[y]))) else Pv (i + 1) τ2 H3)
  (hd:∀ τ H,Pv xs.length τ H→Q (.ref D) H):zg0 (Itl K a) D τ H g tt te Q:=
 wk_ (n:=xs.length) Pv h0 (fun i σ H hi p=>⟨fun h=>⟨xs,xs[i],hl i σ H hi p,by simp[h]⟩,fun h=>⟨xs,hl i σ H hi p,h⟩⟩) (fun i x σ H H' hi p y=>by
 obtain⟨rfl,y⟩:=y
 exact hs i x σ _ (y xs (hl i σ _ (Nat.le_of_lt hi) p)) p) hd
theorem zgb {lo:Int}{n:Nat}{D:Addr}{τ:St}{H:Hp}{Q:VK} (Pv:Nat→St→Hp→Prop) (h0:Pv 0 τ H)
  (hs:∀ i τ H,i<n→Pv i τ H→g (.int (lo + i)) τ H fun τ2 H2=>tt τ2 H2 fun b H3=>
   if b=true then te τ2 H3 fun y H4=>∃ ys,H4 D=some (.lst ys)∧ys.length<sizeLine∧Pv (i + 1) τ2 (upd H4 D (.lst (ys++[y]))) else Pv (i + 1) τ2 H3)
  (hd:∀ τ H,Pv n τ H→Q (.ref D) H):zg0 (Itr lo n) D τ H g tt te Q:=
 wk_ (n:=n) Pv h0 (fun _ _ _ _ _=>⟨id,id⟩) (fun i x σ H H' hi p y=>by
 obtain⟨rfl,rfl⟩:=y
 exact hs i σ _ hi p) hd
end
end L2
namespace L2
open PySem PySem.Spec PyProof.Rows PySem.SeqAt
inductive Dt where
 | non | bl (b:Bool) | int (i:Int) | str (x:Str) | lst (xs:List Dt) | tup (xs:List Dt)
mutual
def DtV (K:PySem.W.Frag) (H:Hp):Dt→V→Prop
 | .non,x=>x=.non
 | .bl b,x=>x=.bl b
 | .int i,x=>x=.int i
 | .str z,x=>x=.str z
 | .lst ds,x=>∃ a xs,x=.ref a∧SqL K H a xs∧zbr K H ds xs
 | .tup ds,x=>∃ a xs,x=.ref a∧SqT K H a xs∧zbr K H ds xs
def zbr (K:PySem.W.Frag) (H:Hp):List Dt→List V→Prop
 | [],xs=>xs=[]
 | d::ds,xs=>∃ y ys,xs=y::ys∧DtV K H d y∧zbr K H ds ys
end
mutual
def zbD:Nat→Dt→Prop
 | n + 1,.lst ds=>zaZ n ds
 | n + 1,.tup ds=>zaZ n ds
 | 0,.lst _=>False
 | 0,.tup _=>False
 | _,.non=>True
 | _,.bl _=>True
 | _,.int _=>True
 | _,.str _=>True
def zaZ:Nat→List Dt→Prop
 | _,[]=>True
 | n,d::ds=>zbD n d∧zaZ n ds
end
mutual
def eqD:Dt→Dt→Bool
 | .non,.non=>true
 | .bl a,.bl b=>a == b
 | .bl a,.int b=>(if a then 1 else 0) == b
 | .int a,.bl b=>a == (if b then 1 else 0)
 | .int a,.int b=>a == b
 | .str a,.str b=>a == b
 | .lst xs,.lst ys=>zeO xs ys
 | .tup xs,.tup ys=>zeO xs ys
 | _,_=>false
def zeO:List Dt→List Dt→Bool
 | [],[]=>true
 | x::xs,y::ys=>eqD x y && zeO xs ys
 | _,_=>false
end
mutual
theorem zb3:∀ d:Dt,eqD d d=true
 | .non=>rfl
 | .bl b=>by simp[eqD]
 | .int i=>by simp[eqD]
 | .str x=>by simp[eqD]
 | .lst xs=>by
  rw[eqD]
  exact zbV xs
 | .tup xs=>by
  rw[eqD]
  exact zbV xs
theorem zbV:∀ ds:List Dt,zeO ds ds=true
 | []=>rfl
 | d::ds=>by rw[zeO,zb3 d,zbV ds];rfl
end
theorem zbr.length {K:PySem.W.Frag}{H:Hp}:∀ {ds:List Dt}{xs:List V},zbr K H ds xs→ds.length=xs.length
 | [],xs,h=>by
  have e:xs=[]:=h
  subst e
  rfl
 | d::ds,xs,h=>by
  obtain⟨y,ys,e,_,h2⟩:=h
  subst e
  simp[zbr.length h2]
theorem zbr.get {K:PySem.W.Frag}{H:Hp}:∀ {ds:List Dt}{xs:List V}{j:Nat}{d:Dt},zbr K H ds xs→ds[j]?=some d→∃ x,xs[j]?=some x∧DtV K H d x
 | [],_,_,_,_,e=>by simp at e
 | d::ds,xs,j,d',h,e=>by
  obtain⟨y,ys,e2,h1,h2⟩:=h
  subst e2
  cases j with
  | zero=>
   simp at e
   subst e
   exact⟨y,rfl,h1⟩
  | succ j=>
   obtain⟨x,hx,hd⟩:=zbr.get (j:=j) h2 (by simpa using e)
   exact⟨x,by simpa using hx,hd⟩
theorem zbr.snoc {K:PySem.W.Frag}{H:Hp}{d:Dt}{x:V} (hd:DtV K H d x):∀ {ds:List Dt}{xs:List V},zbr K H ds xs→zbr K H (ds++[d]) (xs++[x])
 | [],xs,h=>by
  have e:xs=[]:=h
  subst e
  exact⟨x,[],rfl,hd,rfl⟩
 | e::ds,xs,h=>by
  obtain⟨y,ys,e2,h1,h2⟩:=h
  subst e2
  exact⟨y,ys++[x],rfl,h1,h2.snoc hd⟩
theorem zaZ.get {n:Nat}:∀ {ds:List Dt}{j:Nat}{d:Dt},zaZ n ds→ds[j]?=some d→zbD n d
 | [],_,_,_,e=>by simp at e
 | d::ds,j,d',h,e=>by
  cases j with
  | zero=>
   simp at e
   subst e
   exact h.1
  | succ j=>exact zaZ.get (j:=j) h.2 (by simpa using e)
theorem zaZ.of {n:Nat}:∀ {ds:List Dt},(∀ d∈ds,zbD n d)→zaZ n ds
 | [],_=>trivial
 | d::ds,h=>⟨h d List.mem_cons_self,zaZ.of fun e he=>h e (List.mem_cons_of_mem _ he)⟩
theorem zaj.sqL {K:PySem.W.Frag}{H H':Hp}{a:Addr}{xs:List V} (e:zaj H H') (h:SqL K H a xs):SqL K H' a xs:=e.seq h
theorem zaj.sqT {K:PySem.W.Frag}{H H':Hp}{a:Addr}{xs:List V} (e:zaj H H') (h:SqT K H a xs):SqT K H' a xs:=by
 rcases h with(h|⟨o,h⟩)|h
 ·exact .inl (.inl (e _ _ h))
 ·exact .inl (.inr ⟨o,e _ _ h⟩)
 ·exact .inr h
mutual
theorem zaj.dt {K:PySem.W.Frag}{H H':Hp} (e:zaj H H'):∀ {d:Dt}{x:V},DtV K H d x→DtV K H' d x
 | .non,_,h=>h
 | .bl _,_,h=>h
 | .int _,_,h=>h
 | .str _,_,h=>h
 | .lst ds,_,h=>by
  obtain⟨a,xs,e1,h1,h2⟩:=h
  exact⟨a,xs,e1,e.sqL h1,e.dts h2⟩
 | .tup ds,_,h=>by
  obtain⟨a,xs,e1,h1,h2⟩:=h
  exact⟨a,xs,e1,e.sqT h1,e.dts h2⟩
theorem zaj.dts {K:PySem.W.Frag}{H H':Hp} (e:zaj H H'):∀ {ds:List Dt}{xs:List V},zbr K H ds xs→zbr K H' ds xs
 | [],_,h=>h
 | d::ds,_,h=>by
  obtain⟨y,ys,e1,h1,h2⟩:=h
  exact⟨y,ys,e1,e.dt h1,e.dts h2⟩
end
theorem zaj.new {H:Hp}{p:Addr}{o:HO} (h:H p=none):zaj H (upd H p o):=fun b u e=>by
 rw[zaf (zai e h)]
 exact e
section
variable {X:Cx}{pins:List (Addr×Obj)}{σ:St}{H:Hp}{s:Shared}
theorem Inv.notBoth (I:Inv X pins σ H s){a:Addr}{xs ys:List V} (h:SqL X.K H a xs) (h':SqT X.K H a ys):False:=by
 obtain⟨its,_,pl,_⟩:=I.list h
 obtain⟨its',_,pt,_⟩:=I.tuple h'
 obtain⟨o,n,e,c,_⟩:=pl
 obtain⟨o',e',c',_⟩:=pt
 rw[e] at e'
 cases e'
 rw[c] at c'
 exact absurd c' (by simp)
mutual
theorem Inv.dtUniq (I:Inv X pins σ H s):∀ {d e:Dt}{x:V},DtV X.K H d x→DtV X.K H e x→d=e
 | .non,e,_,h,h'=>by
  have h:_=V.non:=h
  subst h
  cases e with
  | non=>rfl
  | bl _=>exact nomatch (show V.non=_ from h')
  | int _=>exact nomatch (show V.non=_ from h')
  | str _=>exact nomatch (show V.non=_ from h')
  | lst _=>obtain⟨_,_,q,_⟩:=h';cases q
  | tup _=>obtain⟨_,_,q,_⟩:=h';cases q
 | .bl b,e,_,h,h'=>by
  have h:_=V.bl b:=h
  subst h
  cases e with
  | non=>exact nomatch (show V.bl b=_ from h')
  | bl c=>
   have q:V.bl b=V.bl c:=h'
   cases q
   rfl
  | int _=>exact nomatch (show V.bl b=_ from h')
  | str _=>exact nomatch (show V.bl b=_ from h')
  | lst _=>obtain⟨_,_,q,_⟩:=h';cases q
  | tup _=>obtain⟨_,_,q,_⟩:=h';cases q
 | .int b,e,_,h,h'=>by
  have h:_=V.int b:=h
  subst h
  cases e with
  | non=>exact nomatch (show V.int b=_ from h')
  | bl c=>exact nomatch (show V.int b=_ from h')
  | int c=>
   have q:V.int b=V.int c:=h'
   cases q
   rfl
  | str _=>exact nomatch (show V.int b=_ from h')
  | lst _=>obtain⟨_,_,q,_⟩:=h';cases q
  | tup _=>obtain⟨_,_,q,_⟩:=h';cases q
 | .str b,e,_,h,h'=>by
  have h:_=V.str b:=h
  subst h
  cases e with
  | non=>exact nomatch (show V.str b=_ from h')
  | bl c=>exact nomatch (show V.str b=_ from h')
  | int _=>exact nomatch (show V.str b=_ from h')
  | str c=>
   have q:V.str b=V.str c:=h'
   cases q
   rfl
  | lst _=>obtain⟨_,_,q,_⟩:=h';cases q
  | tup _=>obtain⟨_,_,q,_⟩:=h';cases q
 | .lst ds,e,_,h,h'=>by
  obtain⟨a,xs,e1,h1,h2⟩:=h
  subst e1
  cases e with
  | non=>exact nomatch (show V.ref a=_ from h')
  | bl c=>exact nomatch (show V.ref a=_ from h')
  | int _=>exact nomatch (show V.ref a=_ from h')
  | str _=>exact nomatch (show V.ref a=_ from h')
  | lst es=>
   obtain⟨b,ys,e2,h3,h4⟩:=h'
   cases e2
   have q:=I.list_inj h1 h3
   subst q
   rw[I.dtsUniq h2 h4]
  | tup es=>
   obtain⟨b,ys,e2,h3,h4⟩:=h'
   cases e2
   exact(I.notBoth h1 h3).elim
 | .tup ds,e,_,h,h'=>by
  obtain⟨a,xs,e1,h1,h2⟩:=h
  subst e1
  cases e with
  | non=>exact nomatch (show V.ref a=_ from h')
  | bl c=>exact nomatch (show V.ref a=_ from h')
  | int _=>exact nomatch (show V.ref a=_ from h')
  | str _=>exact nomatch (show V.ref a=_ from h')
  | lst es=>
   obtain⟨b,ys,e2,h3,h4⟩:=h'
   cases e2
   exact(I.notBoth h3 h1).elim
  | tup es=>
   obtain⟨b,ys,e2,h3,h4⟩:=h'
   cases e2
   have q:=I.tuple_inj h1 h3
   subst q
   rw[I.dtsUniq h2 h4]
theorem Inv.dtsUniq (I:Inv X pins σ H s):∀ {ds es:List Dt}{xs:List V},zbr X.K H ds xs→zbr X.K H es xs→ds=es
 | [],es,_,h,h'=>by
  have h:_=[]:=h
  subst h
  cases es with
  | nil=>rfl
  | cons e es=>obtain⟨_,_,q,_⟩:=h';cases q
 | d::ds,es,_,h,h'=>by
  obtain⟨y,ys,e1,h1,h2⟩:=h
  subst e1
  cases es with
  | nil=>exact nomatch (show y::ys=[] from h')
  | cons e es=>
   obtain⟨z,zs,q,h3,h4⟩:=h'
   cases q
   rw[I.dtUniq h1 h3,I.dtsUniq h2 h4]
end
def zek (ds es:List Dt) (j:Nat):Bool:=eqD (ds.getD j .non) (es.getD j .non)
theorem zcv:∀ ds es:List Dt,((List.range (min ds.length es.length)).all (zek ds es) && ds.length == es.length)=zeO ds es
 | [],[]=>rfl
 | [],_::_=>by simp[zeO]
 | _::_,[]=>by simp[zeO]
 | d::ds,e::es=>by
  have ih:=zcv ds es
  have e1:min (d::ds).length (e::es).length=min ds.length es.length + 1:=by simp only[List.length_cons];omega
  have e2:((d::ds).length == (e::es).length)=(ds.length == es.length):=by simp
  have e3:(List.range (min ds.length es.length + 1)).all (zek (d::ds) (e::es))=(eqD d e && (List.range (min ds.length es.length)).all (zek ds es)):=by
   rw[List.range_succ_eq_map,List.all_cons,List.all_map]
   rfl
  rw[e1,e2,e3,zeO,← ih,Bool.and_assoc]
theorem zfK {ds es:List Dt} (h:ds.length=es.length):(List.range ds.length).all (zek ds es)=zeO ds es:=by
 have:=zcv ds es
 rw[← h,Nat.min_self] at this
 simpa using this
theorem zd1 {ds es:List Dt} (h:ds.length≠es.length):zeO ds es=false:=by
 rw[← zcv ds es]
 simp[h]
end
section
variable {X:Cx}{pins:List (Addr×Obj)}{σ:St}{H:Hp}{s:Shared}
theorem Inv.isL (I:Inv X pins σ H s){a:Addr}{xs:List V} (h:SqL X.K H a xs):∃ its:List Value,zaK xs its∧s.heap.IsList a its.toArray:=
 let ⟨its,r,pl,_⟩:=I.list h
 ⟨its,r,pl.isList⟩
theorem Inv.isT (I:Inv X pins σ H s){a:Addr}{xs:List V} (h:SqT X.K H a xs):∃ its:List Value,zaK xs its∧s.heap.IsTuple a its.toArray:=
 let ⟨its,r,pt,_⟩:=I.tuple h
 ⟨its,r,pt⟩
theorem zds {ds es:List Dt}{j:Nat}{d e:Dt} (h1:ds[j]?=some d) (h2:es[j]?=some e):zek ds es j=eqD d e:=by
 unfold zek
 rw[List.getD_eq_getElem?_getD,List.getD_eq_getElem?_getD,h1,h2]
 rfl
theorem zbE {α:Type}{l:List α}{j:Nat} (h:j<l.length):∃ x,l[j]?=some x:=⟨l[j],by simp[h]⟩
mutual
theorem Inv.eqAt (I:Inv X pins σ H s):∀ {d e:Dt}{x y:V}{u v:Value}{n:Nat}{A:Around},DtV X.K H d x→DtV X.K H e y→zaQ x u→zaQ y v→zbD n d→A.units + n<cLine→EqAt A s u v (eqD d e)
 | .non,e,x,y,u,v,n,A,h,h',rx,ry,_,hu=>by
  have hu:A.units<cLine:=Nat.lt_of_le_of_lt (Nat.le_add_right _ _) hu
  have h:x=V.non:=h
  subst h
  cases e with
  | non=>
   have h':y=V.non:=h'
   subst h'
   exact zbj rx ry rfl rfl
  | bl c=>
   have h':y=V.bl c:=h'
   subst h'
   exact zbj rx ry rfl rfl
  | int c=>
   have h':y=V.int c:=h'
   subst h'
   exact zbj rx ry rfl rfl
  | str c=>
   have h':y=V.str c:=h'
   subst h'
   exact zbj rx ry rfl rfl
  | lst es=>
   obtain⟨a,ys,rfl,h1,_⟩:=h'
   obtain rfl:v=Value.ref a:=ry
   obtain⟨its,_,hl⟩:=I.isL h1
   obtain rfl:u=Value.none:=rx
   exact EqAt.none_list hl hu
  | tup es=>
   obtain⟨a,ys,rfl,h1,_⟩:=h'
   obtain rfl:v=Value.ref a:=ry
   obtain⟨its,_,hl⟩:=I.isT h1
   obtain rfl:u=Value.none:=rx
   exact EqAt.none_tuple hl hu
 | .bl b,e,x,y,u,v,n,A,h,h',rx,ry,_,hu=>by
  have hu:A.units<cLine:=Nat.lt_of_le_of_lt (Nat.le_add_right _ _) hu
  have h:x=V.bl b:=h
  subst h
  cases e with
  | non=>
   have h':y=V.non:=h'
   subst h'
   exact zbj rx ry rfl rfl
  | bl c=>
   have h':y=V.bl c:=h'
   subst h'
   exact zbj rx ry rfl rfl
  | int c=>
   have h':y=V.int c:=h'
   subst h'
   exact zbj rx ry rfl rfl
  | str c=>
   have h':y=V.str c:=h'
   subst h'
   exact zbj rx ry rfl rfl
  | lst es=>
   obtain⟨a,ys,rfl,h1,_⟩:=h'
   obtain rfl:v=Value.ref a:=ry
   obtain⟨its,_,hl⟩:=I.isL h1
   obtain rfl:u=Value.bool b:=rx
   exact EqAt.bool_list b hl hu
  | tup es=>
   obtain⟨a,ys,rfl,h1,_⟩:=h'
   obtain rfl:v=Value.ref a:=ry
   obtain⟨its,_,hl⟩:=I.isT h1
   obtain rfl:u=Value.bool b:=rx
   exact EqAt.bool_tuple b hl hu
 | .int b,e,x,y,u,v,n,A,h,h',rx,ry,_,hu=>by
  have hu:A.units<cLine:=Nat.lt_of_le_of_lt (Nat.le_add_right _ _) hu
  have h:x=V.int b:=h
  subst h
  cases e with
  | non=>
   have h':y=V.non:=h'
   subst h'
   exact zbj rx ry rfl rfl
  | bl c=>
   have h':y=V.bl c:=h'
   subst h'
   exact zbj rx ry rfl rfl
  | int c=>
   have h':y=V.int c:=h'
   subst h'
   exact zbj rx ry rfl rfl
  | str c=>
   have h':y=V.str c:=h'
   subst h'
   exact zbj rx ry rfl rfl
  | lst es=>
   obtain⟨a,ys,rfl,h1,_⟩:=h'
   obtain rfl:v=Value.ref a:=ry
   obtain⟨its,_,hl⟩:=I.isL h1
   obtain⟨t,rfl⟩:=rx
   exact EqAt.int_list b t hl hu
  | tup es=>
   obtain⟨a,ys,rfl,h1,_⟩:=h'
   obtain rfl:v=Value.ref a:=ry
   obtain⟨its,_,hl⟩:=I.isT h1
   obtain⟨t,rfl⟩:=rx
   exact EqAt.int_tuple b t hl hu
 | .str b,e,x,y,u,v,n,A,h,h',rx,ry,_,hu=>by
  have hu:A.units<cLine:=Nat.lt_of_le_of_lt (Nat.le_add_right _ _) hu
  have h:x=V.str b:=h
  subst h
  cases e with
  | non=>
   have h':y=V.non:=h'
   subst h'
   exact zbj rx ry rfl rfl
  | bl c=>
   have h':y=V.bl c:=h'
   subst h'
   exact zbj rx ry rfl rfl
  | int c=>
   have h':y=V.int c:=h'
   subst h'
   exact zbj rx ry rfl rfl
  | str c=>
   have h':y=V.str c:=h'
   subst h'
   exact zbj rx ry rfl rfl
  | lst es=>
   obtain⟨a,ys,rfl,h1,_⟩:=h'
   obtain rfl:v=Value.ref a:=ry
   obtain⟨its,_,hl⟩:=I.isL h1
   obtain⟨t,rfl⟩:=rx
   exact EqAt.str_list b t hl hu
  | tup es=>
   obtain⟨a,ys,rfl,h1,_⟩:=h'
   obtain rfl:v=Value.ref a:=ry
   obtain⟨its,_,hl⟩:=I.isT h1
   obtain⟨t,rfl⟩:=rx
   exact EqAt.str_tuple b t hl hu
 | .lst ds,e,x,y,u,v,n,A,h,h',rx,ry,hd,hu=>by
  obtain⟨a,xs,rfl,g1,g2⟩:=h
  obtain rfl:u=Value.ref a:=rx
  obtain⟨its,rv,hl⟩:=I.isL g1
  cases n with
  | zero=>exact False.elim hd
  | succ n=>
  have hu0:A.units<cLine:=Nat.lt_of_le_of_lt (Nat.le_add_right _ _) hu
  cases e with
  | non=>
   have h':y=V.non:=h'
   subst h'
   obtain rfl:v=Value.none:=ry
   exact EqAt.list_none hl hu0
  | bl c=>
   have h':y=V.bl c:=h'
   subst h'
   obtain rfl:v=Value.bool c:=ry
   exact EqAt.list_bool c hl hu0
  | int c=>
   have h':y=V.int c:=h'
   subst h'
   obtain⟨t,rfl⟩:=ry
   exact EqAt.list_int c t hl hu0
  | str c=>
   have h':y=V.str c:=h'
   subst h'
   obtain⟨t,rfl⟩:=ry
   exact EqAt.list_str c t hl hu0
  | tup es=>
   obtain⟨b,ys,rfl,h1,_⟩:=h'
   obtain rfl:v=Value.ref b:=ry
   obtain⟨its',_,hl'⟩:=I.isT h1
   exact EqAt.list_tuple hl hl' hu0
  | lst es=>
   obtain⟨b,ys,rfl,h1,h2⟩:=h'
   obtain rfl:v=Value.ref b:=ry
   obtain⟨its',rv',hl'⟩:=I.isL h1
   show EqAt A s (.ref a) (.ref b) (zeO ds es)
   by_cases hab:a=b
   ·subst hab
    have e:Dt.lst ds=Dt.lst es:=I.dtUniq ⟨a,xs,rfl,g1,g2⟩ ⟨a,ys,rfl,h1,h2⟩
    injection e with e
    subst e
    rw[zbV]
    exact EqAt.same _
   ·have n1:ds.length=its.length:=g2.length.trans rv.length
    have n2:es.length=its'.length:=h2.length.trans rv'.length
    have items:∀ j (h1:j<its.toArray.size) (h2:j<its'.toArray.size),EqAt A.in1 s its.toArray[j] its'.toArray[j] (zek ds es j):=fun j j1 j2=>by
     have j1:j<its.length:=by simpa using j1
     have j2:j<its'.length:=by simpa using j2
     obtain⟨d',hd'⟩:=zbE (l:=ds) (j:=j) (by omega)
     obtain⟨e',he'⟩:=zbE (l:=es) (j:=j) (by omega)
     obtain⟨x',hx',kx⟩:=g2.get hd'
     obtain⟨y',hy',ky⟩:=h2.get he'
     obtain⟨u',hu',ru⟩:=rv.get hx'
     obtain⟨v',hv',rv2⟩:=rv'.get hy'
     have q1:its.toArray[j]=u':=by
      have:=List.getElem?_eq_some_iff.mp hu'
      simpa using this.2
     have q2:its'.toArray[j]=v':=by
      have:=List.getElem?_eq_some_iff.mp hv'
      simpa using this.2
     rw[q1,q2,zds hd' he']
     exact Inv.eqAtI I ds j hd' kx ky ru rv2 (zaZ.get hd hd') (show A.units + 1 + n<cLine by omega)
    by_cases hsz:its.toArray.size=its'.toArray.size
    ·have hsz':ds.length=es.length:=by simpa [n1,n2] using hsz
     rw[← zfK hsz',n1,← List.size_toArray]
     exact EqAt.of_refs hab (RcAt.lists hl hl' hsz hu0 items)
    ·rw[zd1 (by simpa [n1,n2] using hsz)]
     exact EqAt.of_refs hab (RcAt.lists_lengths hl hl' (by simpa using hsz) hu0)
 | .tup ds,e,x,y,u,v,n,A,h,h',rx,ry,hd,hu=>by
  obtain⟨a,xs,rfl,g1,g2⟩:=h
  obtain rfl:u=Value.ref a:=rx
  obtain⟨its,rv,hl⟩:=I.isT g1
  cases n with
  | zero=>exact False.elim hd
  | succ n=>
  have hu0:A.units<cLine:=Nat.lt_of_le_of_lt (Nat.le_add_right _ _) hu
  cases e with
  | non=>
   have h':y=V.non:=h'
   subst h'
   obtain rfl:v=Value.none:=ry
   exact EqAt.tuple_none hl hu0
  | bl c=>
   have h':y=V.bl c:=h'
   subst h'
   obtain rfl:v=Value.bool c:=ry
   exact EqAt.tuple_bool c hl hu0
  | int c=>
   have h':y=V.int c:=h'
   subst h'
   obtain⟨t,rfl⟩:=ry
   exact EqAt.tuple_int c t hl hu0
  | str c=>
   have h':y=V.str c:=h'
   subst h'
   obtain⟨t,rfl⟩:=ry
   exact EqAt.tuple_str c t hl hu0
  | lst es=>
   obtain⟨b,ys,rfl,h1,_⟩:=h'
   obtain rfl:v=Value.ref b:=ry
   obtain⟨its',_,hl'⟩:=I.isL h1
   exact EqAt.tuple_list hl hl' hu0
  | tup es=>
   obtain⟨b,ys,rfl,h1,h2⟩:=h'
   obtain rfl:v=Value.ref b:=ry
   obtain⟨its',rv',hl'⟩:=I.isT h1
   show EqAt A s (.ref a) (.ref b) (zeO ds es)
   by_cases hab:a=b
   ·subst hab
    have e:Dt.tup ds=Dt.tup es:=I.dtUniq ⟨a,xs,rfl,g1,g2⟩ ⟨a,ys,rfl,h1,h2⟩
    injection e with e
    subst e
    rw[zbV]
    exact EqAt.same _
   ·have n1:ds.length=its.length:=g2.length.trans rv.length
    have n2:es.length=its'.length:=h2.length.trans rv'.length
    have items:∀ j (h1:j<its.toArray.size) (h2:j<its'.toArray.size),EqAt A.in1 s its.toArray[j] its'.toArray[j] (zek ds es j):=fun j j1 j2=>by
     have j1:j<its.length:=by simpa using j1
     have j2:j<its'.length:=by simpa using j2
     obtain⟨d',hd'⟩:=zbE (l:=ds) (j:=j) (by omega)
     obtain⟨e',he'⟩:=zbE (l:=es) (j:=j) (by omega)
     obtain⟨x',hx',kx⟩:=g2.get hd'
     obtain⟨y',hy',ky⟩:=h2.get he'
     obtain⟨u',hu',ru⟩:=rv.get hx'
     obtain⟨v',hv',rv2⟩:=rv'.get hy'
     have q1:its.toArray[j]=u':=by
      have:=List.getElem?_eq_some_iff.mp hu'
      simpa using this.2
     have q2:its'.toArray[j]=v':=by
      have:=List.getElem?_eq_some_iff.mp hv'
      simpa using this.2
     rw[q1,q2,zds hd' he']
     exact Inv.eqAtI I ds j hd' kx ky ru rv2 (zaZ.get hd hd') (show A.units + 1 + n<cLine by omega)
    have q:=EqAt.of_refs hab (RcAt.tuples hl hl' hu0 items)
    rw[← zcv ds es,n1,n2]
    simpa using q
theorem Inv.eqAtI (I:Inv X pins σ H s):∀ (ds:List Dt) (j:Nat){d e:Dt}{x y:V}{u v:Value}{n:Nat}{A:Around},ds[j]?=some d→DtV X.K H d x→DtV X.K H e y→zaQ x u→zaQ y v→zbD n d→A.units + n<cLine→EqAt A s u v (eqD d e)
 | [],j,_,_,_,_,_,_,_,_,h,_,_,_,_,_,_=>by simp at h
 | c::_,0,d,e,x,y,u,v,n,A,h,hx,hy,ru,rv,hd,hu=>by
  simp at h
  subst h
  exact Inv.eqAt I hx hy ru rv hd hu
 | _::cs,j + 1,d,e,x,y,u,v,n,A,h,hx,hy,ru,rv,hd,hu=>Inv.eqAtI I cs j (by simpa using h) hx hy ru rv hd hu
end
theorem Inv.items (I:Inv X pins σ H s){ds es:List Dt}{xs ys:List V}{its its':List Value}{n:Nat}{A:Around} (g2:zbr X.K H ds xs) (h2:zbr X.K H es ys) (rv:zaK xs its) (rv':zaK ys its') (hd:zaZ n ds)
  (hu:A.units + 1 + n<cLine):∀ j (h1:j<its.toArray.size) (h2:j<its'.toArray.size),EqAt A.in1 s its.toArray[j] its'.toArray[j] (zek ds es j):=fun j j1 j2=>by
 have n1:ds.length=its.length:=g2.length.trans rv.length
 have n2:es.length=its'.length:=h2.length.trans rv'.length
 have j1:j<its.length:=by simpa using j1
 have j2:j<its'.length:=by simpa using j2
 obtain⟨d',hd'⟩:=zbE (l:=ds) (j:=j) (by omega)
 obtain⟨e',he'⟩:=zbE (l:=es) (j:=j) (by omega)
 obtain⟨x',hx',kx⟩:=g2.get hd'
 obtain⟨y',hy',ky⟩:=h2.get he'
 obtain⟨u',hu',ru⟩:=rv.get hx'
 obtain⟨v',hv',rv2⟩:=rv'.get hy'
 have q1:its.toArray[j]=u':=by
  have:=List.getElem?_eq_some_iff.mp hu'
  simpa using this.2
 have q2:its'.toArray[j]=v':=by
  have:=List.getElem?_eq_some_iff.mp hv'
  simpa using this.2
 rw[q1,q2,zds hd' he']
 exact I.eqAt kx ky ru rv2 (zaZ.get hd hd') hu
def zif:Dt→Bool
 | .lst _=>true
 | .tup _=>true
 | _=>false
theorem Inv.rcAt (I:Inv X pins σ H s){d e:Dt}{x y:V}{u v:Value}{n:Nat}{A:Around} (bd:zif d=true) (be:zif e=true) (h:DtV X.K H d x) (h':DtV X.K H e y) (rx:zaQ x u) (ry:zaQ y v) (hd:zbD n d) (hu:A.units + n<cLine) :
  RcAt A s u v (eqD d e)∧RcNeAt A s u v (!eqD d e):=by
 cases n with
 | zero=>cases d <;> first | exact False.elim hd | cases bd
 | succ n=>
 have hu0:A.units<cLine:=Nat.lt_of_le_of_lt (Nat.le_add_right _ _) hu
 have hu1:A.units + 1 + n<cLine:=by omega
 cases d with
 | lst ds=>
  obtain⟨a,xs,rfl,g1,g2⟩:=h
  obtain rfl:u=Value.ref a:=rx
  obtain⟨its,rv,hl⟩:=I.isL g1
  cases e with
  | lst es=>
   obtain⟨b,ys,rfl,h1,h2⟩:=h'
   obtain rfl:v=Value.ref b:=ry
   obtain⟨its',rv',hl'⟩:=I.isL h1
   have n1:ds.length=its.length:=g2.length.trans rv.length
   have n2:es.length=its'.length:=h2.length.trans rv'.length
   show RcAt A s (.ref a) (.ref b) (zeO ds es)∧RcNeAt A s (.ref a) (.ref b) (!zeO ds es)
   by_cases hsz:its.toArray.size=its'.toArray.size
   ·have hsz':ds.length=es.length:=by simpa [n1,n2] using hsz
    rw[← zfK hsz',n1,← List.size_toArray]
    exact⟨RcAt.lists hl hl' hsz hu0 (I.items g2 h2 rv rv' hd hu1),RcNeAt.lists hl hl' hsz hu0 (I.items g2 h2 rv rv' hd hu1)⟩
   ·rw[zd1 (by simpa [n1,n2] using hsz)]
    exact⟨RcAt.lists_lengths hl hl' (by simpa using hsz) hu0,RcNeAt.lists_lengths hl hl' (by simpa using hsz) hu0⟩
  | tup es=>
   obtain⟨b,ys,rfl,h1,_⟩:=h'
   obtain rfl:v=Value.ref b:=ry
   obtain⟨its',_,hl'⟩:=I.isT h1
   exact⟨RcAt.list_tuple hl hl' hu0,RcNeAt.list_tuple hl hl' hu0⟩
  | _=>cases be
 | tup ds=>
  obtain⟨a,xs,rfl,g1,g2⟩:=h
  obtain rfl:u=Value.ref a:=rx
  obtain⟨its,rv,hl⟩:=I.isT g1
  cases e with
  | tup es=>
   obtain⟨b,ys,rfl,h1,h2⟩:=h'
   obtain rfl:v=Value.ref b:=ry
   obtain⟨its',rv',hl'⟩:=I.isT h1
   have n1:ds.length=its.length:=g2.length.trans rv.length
   have n2:es.length=its'.length:=h2.length.trans rv'.length
   have q:=RcAt.tuples hl hl' hu0 (I.items g2 h2 rv rv' hd hu1)
   have q':=RcNeAt.tuples hl hl' hu0 (I.items g2 h2 rv rv' hd hu1)
   show RcAt A s (.ref a) (.ref b) (zeO ds es)∧RcNeAt A s (.ref a) (.ref b) (!zeO ds es)
   rw[← zcv ds es,n1,n2]
   exact⟨by simpa using q,by simpa using q'⟩
  | lst es=>
   obtain⟨b,ys,rfl,h1,_⟩:=h'
   obtain rfl:v=Value.ref b:=ry
   obtain⟨its',_,hl'⟩:=I.isL h1
   exact⟨RcAt.tuple_list hl hl' hu0,RcNeAt.tuple_list hl hl' hu0⟩
  | _=>cases be
 | _=>cases bd
def rEqD (K:PySem.W.Frag) (neg:Bool):R2:=fun x y H Q=>∃ d e,zif d=true∧zif e=true∧DtV K H d x∧DtV K H e y∧zbD 60 d∧Q (.bl (if neg then !eqD d e else eqD d e)) H
theorem ziR (hu:X.A.units + 64<cLine):OpR X (compareOp .Eq) (rEqD X.K false):=by
 intro pins s σ H x y v u Q I rx ry h
 obtain⟨d,e,bd,be,h1,h2,hd,q⟩:=h
 exact(I.rcAt bd be h1 h2 rx ry hd (by omega)).1 X.prog X.w _ _ ⟨.bl _,H,I,rfl,q⟩
theorem zd2 (hu:X.A.units + 64<cLine):OpR X (compareOp .NotEq) (rEqD X.K true):=by
 intro pins s σ H x y v u Q I rx ry h
 obtain⟨d,e,bd,be,h1,h2,hd,q⟩:=h
 exact(I.rcAt bd be h1 h2 rx ry hd (by omega)).2 X.prog X.w _ _ ⟨.bl _,H,I,rfl,q⟩
end
end L2
namespace L2
open PySem PySem.Spec PyProof.Rows
section
variable {X:Cx}
theorem ziS {x:Str}{a:Addr}{pos:Pos} (hg:Gl X x) (hm:X.mg x=some (.ref a)) (hd:(x == ("__debug__":Str))=false:=by decide):PE X (.Name x pos) (tC (.ref a)):=zfc hg hm rfl hd
def clsOf:V→Option Value
 | .ref a=>some (.ref a)
 | .ty n=>some (.type n)
 | _=>none
theorem zg2 {c:V}{u k:Value} (r:zaQ c u) (e:clsOf c=some k):u=k:=by
 cases c with
 | ref a=>
  cases e
  exact r
 | ty n=>
  cases e
  exact r
 | _=>cases e
theorem zck:zdh X (.builtin "isinstance") (fun xs H Q=>∃ x c k t b,xs=[x,c]∧clsOf c=some k∧zf7 X.K H x t∧PySem.W.kitOne X.K t k=some b∧Q (.bl b) H):=by
 intro pins s σ H xs us Q I r h
 obtain⟨x,c,k,t,b,rfl,ec,ty,eb,q⟩:=h
 obtain⟨u,v,rfl,rx,rc⟩:=zjh r
 have e:=zg2 rc ec
 subst e
 exact zgL I rx ty eb fun tk=>⟨.bl b,H,I.tok tk,rfl,q⟩
theorem zgc {ys:List Str}:∀ {us:List Value},zaK (ys.map V.str) us→StrsAre us ys:=by
 induction ys with
 | nil=>
  intro us r
  cases r
  exact .nil
 | cons y ys ih=>
  intro us r
  cases r with
  | cons r1 r2=>
   obtain⟨t,rfl⟩:=r1
   exact .cons _ _ (ih r2)
def rJoin (K:PySem.W.Frag):V→List V→Hp→VK→Prop:=fun x vs H Q=>∃ z a ys,x=.str z∧vs=[.ref a]∧SqL K H a (ys.map V.str)∧(ys.map (·.length)).sum + ys.length * z.length≤16777216∧Q (.str (Txt.join z ys)) H
theorem zfj:MtR X "str.join" (rJoin X.K):=by
 intro pins s σ H x xs v us Q I rx r h
 obtain⟨z,a,ys,rfl,rfl,hl,hz,q⟩:=h
 obtain⟨t,rfl⟩:=rx
 obtain⟨u,rfl,ru⟩:=zc1 r
 obtain rfl:u=Value.ref a:=ru
 obtain⟨its,rv,pl,_⟩:=I.list hl
 exact join_list pl.isList (by simpa using zgc rv) hz fun t' k=>⟨.str _,H,I.tok _,⟨_,rfl⟩,q⟩
end
end L2
namespace L2
open PySem PySem.Spec PyProof.Rows
structure ExcAt (H:Hp) (h:Heap) (a:Addr) (c:Value) (dd:Option Addr) (tb:Option (Addr×Value)):Prop where
 ob:∃ o vs,h.get? a=some o∧o.cls=c∧o.dict=dd∧o.data=.fields vs∧vs.size=6∧(∃ cs,zgz H cs∧vs[2]?=some (nxt cs 0))∧vs[1]?=some (match tb with|none=>.none|some p=>.ref p.1)
 tr:∀ p,tb=some p→p.1≠a∧∃ oT ts,h.get? p.1=some oT∧oT.data=.fields ts∧ts[3]?=some p.2
structure Exc (X:Cx) (pins:List (Addr×Obj)) (H:Hp) (h:Heap) (a:Addr) (c:Value) (dd:Option Addr) (tb:Option (Addr×Value)):Prop where
 fp:zdf X pins H a
 fpT:∀ p,tb=some p→zdf X pins H p.1
 at_:ExcAt H h a c dd tb
theorem zdS (o:Obj) (f:Array Value→Array Value):(o.mapFields f).dict=o.dict:=by
 obtain⟨c,d,dt,sl⟩:=o
 cases dt <;> rfl
section
variable {X:Cx}{pins:List (Addr×Obj)}{σ:St}{H:Hp}{s:Shared}{a:Addr}{c:Value}{dd:Option Addr}
theorem Inv.slot0 {h':Heap}{ch:List Addr}{tk:Nat} (I:Inv X pins σ H s) (hch:∀ b∈ch,zdf X pins H b) (keep:∀ b o,b∉frs X.stack→b∉ch→s.heap.get? b=some o→h'.get? b=some o)
  (slot:∀ b o,b∈frs X.stack→s.heap.get? b=some o→∃ sl,h'.get? b=some { o with slots:=sl }):Inv X pins σ H { s with heap:=h',toks:=tk }:=by
 have any:∀ b o,b∉ch→s.heap.get? b=some o→∃ sl,h'.get? b=some { o with slots:=sl }:=fun b o hc e=>by
  by_cases hb:b∈frs X.stack
  ·exact slot b o hb e
  ·exact⟨o.slots,keep b o hb hc e⟩
 have sub:∀ b,b∈frs X.stack→b=X.env.locals∨b∈X.fs:=fun b hb=>List.mem_cons.mp (I.stkSub b hb)
 refine I.step (g':=s.gens) (d':=s.drawn) (ch:=ch) (fun b hb=>?_) (fun b o hL hf hc e _=>keep b o (fun z=>(sub b z).elim hL hf) hc e) (fun b o _ _ hc e _=>any b o hc e) (fun _ _ _ _ n=>n) (fun b o hc e=>?_)
  (fun _ _ e=>e) (fun _ _ _ e=>e) (fun _ _ _ e=>e) (fun m hm=>?_) (fun b u e=>?_) I.bare
 ·obtain⟨_,f1,_,f3,f4,f5⟩:=hch b hb
  exact⟨f3,f1,f4,f5⟩
 ·obtain⟨sl,q⟩:=any b o hc e
  exact⟨_,q⟩
 ·obtain⟨o,es,ep,ho,r⟩:=hm
  obtain⟨sl,q⟩:=any _ o (fun z=>(hch _ z).2.1 rfl) ho
  exact⟨_,es,ep,q,r⟩
 ·have nf:∀ d v,H d=some v→d∉frs X.stack∧d∉ch:=fun d v q=>⟨fun z=>(by rw[I.stkFree d z] at q;cases q),fun z=>(by rw[(hch d z).1] at q;cases q)⟩
  refine(I.hok b u e).stay (fun d v hd q=>?_) (fun _ q=>q) fun _ _ q=>q
  rcases hd with z|z
  ·subst z
   exact keep d v (nf d _ e).1 (nf d _ e).2 q
  ·exact keep d v (nf d _ z).1 (nf d _ z).2 q
theorem Inv.slots {h':Heap}{ch:List Addr}{tk:Nat} (I:Inv X pins σ H s) (hch:∀ b∈ch,zdf X pins H b) (keep:∀ b o,b∉frs X.stack→b∉ch→s.heap.get? b=some o→h'.get? b=some o)
  (slot:∀ b o,b∈frs X.stack→s.heap.get? b=some o→∃ sl,h'.get? b=some { o with slots:=sl }) (_:∀ b∈ch,∀ o,s.heap.get? b=some o→∃ o',h'.get? b=some o'):Inv X pins σ H { s with heap:=h',toks:=tk }:=I.slot0 hch keep slot
def Body (X:Cx):Prop:=X.stack=X.env::X.outer∧X.env.frame=some X.env.locals
theorem zd3 {M:Model}{E:Value→Shared→Prop}{Q:Unit→Shared→Prop}{o:Obj}{vs:Array Value}{head:Value}{hadNext:Bool} (B:Body X) (I:Inv X pins σ H s) (fp:zdf X pins H a) (he:s.heap.get? a=some o) (hd:o.data=.fields vs) (hz:vs.size=6)
  (hQ:∀ s' T,Inv X pins σ H s'→s.heap.objs.size≤T→zdf X pins H T→T≠a→s'.heap.get? a=some (o.mapFields (·.setIfInBounds 1 (.ref T)))→(∃ oT ts,s'.heap.get? T=some oT∧oT.data=.fields ts∧ts[3]?=some (rawInt X.env.locals))→Q () s') :
  wpAny M X.A (do let f ← frameOf X.env;let pl ← entryPlaceOf X.env.locals hadNext;let b ← EntryCells.newEntry head f .none (rawInt X.env.locals) .none pl;setField (.ref a) 1 b) Q E s:=by
 have hl:=I.stack
 rw[B.1] at hl
 have hfr:X.A.frames=some (X.env::X.outer):=by rw[I.ok.frames,B.1]
 have nfr:∀ b,zdf X pins H b→b∉frs X.stack:=fun b f z=>(List.mem_cons.mp (I.stkSub b z)).elim f.2.1 f.2.2.1
 refine wpAny_bind (wpAny_frameOf_fun hfr hl B.2 fun h₁ hs₁=>?_)
 rw[← B.1] at hs₁
 refine wpAny_bind (wpAny_entryPlaceOf fun pl hpl=>?_)
 simp only[EntryCells.newEntry,newFields]
 refine wpAny_bind (wpAny_newObj_type ?_ (hpl.sizeOk5 _ _ _ _ _))
 generalize hoT:({ cls:=.type "traceback",dict:=none,data:=.fields ([head,.ref X.env.locals,.none,rawInt X.env.locals,.none]++(if pl.isEmpty then List.replicate 6 Value.none else pl)).toArray }:Obj)=oT
 have e1:h₁.get? a=some o:=(hs₁.2.1 a (nfr a fp)).trans he
 have e2:(h₁.push oT).get? a=some o:=Heap.get?_push_of_some _ e1
 have hsz:s.heap.objs.size=h₁.objs.size:=hs₁.1.symm
 have hTa:h₁.objs.size≠a:=Nat.ne_of_gt (Heap.lt_size e1)
 have hd3:=Obj.data_mapFields hd (·.setIfInBounds 1 (Value.ref h₁.objs.size))
 have e3:=Heap.get?_update_self (Obj.mapFields (·.setIfInBounds 1 (Value.ref h₁.objs.size))) e2 (Obj.isFreed_of_fields hd3)
 have eT:((h₁.push oT).update a (Obj.mapFields (·.setIfInBounds 1 (Value.ref h₁.objs.size)))).get? h₁.objs.size=some oT:=
  (Heap.get?_update_other _ _ (Ne.symm hTa)).trans (Heap.get?_push_size h₁ (by rw[← hoT];rfl))
 have kp:∀ b q,b≠a→h₁.get? b=some q→((h₁.push oT).update a (Obj.mapFields (·.setIfInBounds 1 (Value.ref h₁.objs.size)))).get? b=some q:=fun b q hb e=>
  (Heap.get?_update_other _ _ (Ne.symm hb)).trans (Heap.get?_push_of_some _ e)
 refine wpAny_setField e2 hd (by rw[hz];decide) ?_
 refine hQ _ h₁.objs.size (I.slots (ch:=[a]) (tk:=s.toks) (fun b hb=>?_) (fun b q hb hc e=>?_) (fun b q hb e=>?_) (fun b hb q e=>?_)) (Nat.le_of_eq hsz) (I.fpOk (Nat.le_of_eq hsz) (I.hok.fresh (Nat.le_of_eq hsz))) hTa e3 ⟨oT,_,eT,by rw[← hoT],?_⟩
 ·rw[List.mem_singleton.mp hb];exact fp
 ·exact kp b q (fun z=>hc (by simp[z])) ((hs₁.2.1 b hb).trans e)
 ·obtain⟨sl,q'⟩:=hs₁.2.2 b q e
  refine⟨sl,kp b _ (fun z=>?_) q'⟩
  subst z
  exact nfr b fp hb
 ·rw[List.mem_singleton.mp hb];exact⟨_,e3⟩
 ·first|(simp;done)|(rcases hpl with rfl|⟨_,_,_,_,_,_,_,rfl⟩ <;> simp)
theorem vs_set {vs:Array Value}{v:Value}{H:Hp} (hz:vs.size=6) (h2:∃ cs,zgz H cs∧vs[2]?=some (nxt cs 0)):(vs.setIfInBounds 1 v).size=6∧(∃ cs,zgz H cs∧(vs.setIfInBounds 1 v)[2]?=some (nxt cs 0))∧(vs.setIfInBounds 1 v)[1]?=some v:=by
 refine⟨by simpa using hz,?_,?_⟩
 ·obtain⟨cs,hc,h2⟩:=h2
  exact⟨cs,hc,by rw[Array.getElem?_setIfInBounds_ne (by decide)];exact h2⟩
 ·simp[hz]
theorem Inv.note {M:Model}{E:Value→Shared→Prop}{Q:Unit→Shared→Prop}{tb:Option (Addr×Value)} (B:Body X) (I:Inv X pins σ H s) (x:Exc X pins H s.heap a c dd tb) (hfl:∀ p,tb=some p→p.2=.none∨p.2=rawInt X.env.locals)
  (hQ:∀ s' T,Inv X pins σ H s'→Exc X pins H s'.heap a c dd (some (T,rawInt X.env.locals))→Q () s'):wpAny M X.A (noteFrame (.ref a) X.env) Q E s:=by
 obtain⟨o,vs,h1,hc,hdd,hd,hz,h2,hv1⟩:=x.at_.ob
 have fin:∀ s' T,Inv X pins σ H s'→zdf X pins H T→T≠a→s'.heap.get? a=some (o.mapFields (·.setIfInBounds 1 (.ref T)))→(∃ oT ts,s'.heap.get? T=some oT∧oT.data=.fields ts∧ts[3]?=some (rawInt X.env.locals))→Q () s':=fun s' T I' fT ne e' tr=>by
  obtain⟨z1,z2,z3⟩:=vs_set (v:=.ref T) hz h2
  refine hQ s' T I' ⟨x.fp,fun p q=>?_,⟨_,_,e',(Obj.cls_mapFields _ _).trans hc,(zdS _ _).trans hdd,Obj.data_mapFields hd _,z1,z2,z3⟩,fun p q=>?_⟩
  ·cases q;exact fT
  ·cases q;exact⟨ne,tr⟩
 unfold noteFrame
 simp only[B.2]
 cases tb with
 | none=>
  refine wpAny_bind (wpAny_field h1 hd hv1 ?_)
  rw[if_neg (by decide)]
  exact zd3 B I x.fp h1 hd hz fun s' T I' _ fT ne e' tr=>fin s' T I' fT ne e' tr
 | some p=>
  obtain⟨T,fl⟩:=p
  obtain⟨ne,oT,ts,hT,hdT,h3⟩:=x.at_.tr _ rfl
  refine wpAny_bind (wpAny_field h1 hd hv1 ?_)
  rw[if_pos (show(Value.ref T != Value.none)=true from by simp)]
  refine wpAny_bind (wpAny_field hT hdT h3 ?_)
  rcases hfl _ rfl with z|z
  ·have z:fl=.none:=z
   subst z
   rw[if_neg (show ¬ ((Value.none == rawInt X.env.locals)=true) from by simp[rawInt])]
   refine wpAny_bind (wpAny_setField hT hdT (Array.getElem?_eq_some_iff.mp h3).1 ?_)
   have other:∀ b,b≠T→(s.heap.update T (Obj.mapFields (·.setIfInBounds 3 Value.none))).get? b=s.heap.get? b:=fun b hb=>Heap.get?_update_other _ _ (Ne.symm hb)
   have nfr:T∉frs X.stack:=fun z=>(List.mem_cons.mp (I.stkSub T z)).elim (x.fpT _ rfl).2.1 (x.fpT _ rfl).2.2.1
   have I1:Inv X pins σ H { s with heap:=s.heap.update T (Obj.mapFields (·.setIfInBounds 3 Value.none)) }:=I.slots (ch:=[T]) (tk:=s.toks) (fun b hb=>by rw[List.mem_singleton.mp hb];exact x.fpT _ rfl)
    (fun b q _ hc e=>(other b fun z=>hc (by simp[z])).trans e) (fun b q hb e=>⟨q.slots,(other b fun z=>nfr (z ▸ hb)).trans e⟩)
    (fun b hb q e=>(by obtain rfl:=List.mem_singleton.mp hb;exact⟨_,Heap.get?_update_self _ hT (Obj.isFreed_of_fields (Obj.data_mapFields hdT _))⟩))
   exact zd3 B I1 x.fp ((other a (Ne.symm ne)).trans h1) hd hz fun s' T' I' _ fT' ne' e' tr=>fin s' T' I' fT' ne' e' tr
  ·have z:fl=rawInt X.env.locals:=z
   subst z
   rw[if_pos (show(rawInt X.env.locals == rawInt X.env.locals)=true from beq_self_eq_true _)]
   exact wpAny_pure (hQ s T I x)
theorem Inv.land {M:Model}{E:Value→Shared→Prop}{Q:Unit→Shared→Prop}{T:Addr}{fl:Value}{A:Around} (I:Inv X pins σ H s) (x:Exc X pins H s.heap a c dd (some (T,fl)))
  (hQ:∀ s',Inv X pins σ H s'→Exc X pins H s'.heap a c dd (some (T,.none))→Q () s'):wpAny M A (setFlight (.ref a) none) Q E s:=by
 obtain⟨o,vs,h1,hc,hdd,hd,hz,h2,hv1⟩:=x.at_.ob
 obtain⟨ne,oT,ts,hT,hdT,h3⟩:=x.at_.tr _ rfl
 have h33:3<ts.size:=(Array.getElem?_eq_some_iff.mp h3).1
 unfold setFlight
 refine wpAny_bind (wpAny_field h1 hd hv1 ?_)
 rw[if_pos (show(Value.ref T != Value.none)=true from by simp)]
 refine wpAny_setField hT hdT h33 ?_
 have other:∀ b,b≠T→(s.heap.update T (Obj.mapFields (·.setIfInBounds 3 ((none:Option Addr).elim Value.none fun f=>rawInt f)))).get? b=s.heap.get? b:=fun b hb=>Heap.get?_update_other _ _ (Ne.symm hb)
 have self:=Heap.get?_update_self (Obj.mapFields (·.setIfInBounds 3 ((none:Option Addr).elim Value.none fun f=>rawInt f))) hT (Obj.isFreed_of_fields (Obj.data_mapFields hdT _))
 have nfr:T∉frs X.stack:=fun z=>(List.mem_cons.mp (I.stkSub T z)).elim (x.fpT _ rfl).2.1 (x.fpT _ rfl).2.2.1
 refine hQ _ (I.slots (ch:=[T]) (tk:=s.toks) (fun b hb=>by rw[List.mem_singleton.mp hb];exact x.fpT _ rfl) (fun b q _ hc e=>(other b fun z=>hc (by simp[z])).trans e)
  (fun b q hb e=>⟨q.slots,(other b fun z=>nfr (z ▸ hb)).trans e⟩) (fun b hb q e=>(by obtain rfl:=List.mem_singleton.mp hb;exact⟨_,self⟩))) ⟨x.fp,fun p q=>?_,⟨o,vs,(other a (Ne.symm ne)).trans h1,hc,hdd,hd,hz,h2,hv1⟩,fun p q=>?_⟩
 ·cases q;exact x.fpT (T,fl) rfl
 ·cases q;exact⟨ne,_,_,self,Obj.data_mapFields hdT _,by simp[h33]⟩
end
def CXe (P:Program) (w:World):CXT:=fun outer H s E e s'=>∃ a c dd T H',e=.ref a∧s'.os=s.os∧AllBare s'.gens∧Un (frs outer) [] H H' s.heap s'.heap∧HOk P w H' s'.heap ∧
 (s.heap.objs.size≤a∧H' a=none)∧(s.heap.objs.size≤T∧H' T=none)∧ExcAt H' s'.heap a c dd (some (T,.none))∧E c dd H'
abbrev RK:=St→XK
def PX (X:Cx) (R:RK):Prop:=∀ (pins:List (Addr×Obj)) (σ:St) (H:Hp) (s:Shared) (a:Addr) (c:Value) (dd:Option Addr) (tb:Option Addr),Inv X pins σ H s→Exc X pins H s.heap a c dd (tb.map fun T=>(T,Value.none))→R σ c dd H→X.xe (.ref a) s
theorem ziT {tb:Option Addr}{v:Value}:∀ p,(tb.map fun T=>(T,Value.none))=some p→p.2=Value.none∨p.2=v:=fun p e=>by
 cases tb with
 | none=>cases e
 | some T=>cases e;exact .inl rfl
theorem zg3 {P:Program}{w:World}{K:PySem.W.Frag}{mg:Str→Option Value}{base:Heap}{N:List Str}{qual:Str}{scope:Scope}{f:Addr}{cd:Value}{A:Around}{outer:List Env}{s:Shared}{H:Hp}{E:XK} :
  PX (zhZ (CXe P w) P w K mg base N qual scope f cd A outer s H E) (fun _=>E):=by
 intro pins σ H' s1 a c dd tb I x hE
 have B:Body (zhZ (CXe P w) P w K mg base N qual scope f cd A outer s H E):=⟨rfl,rfl⟩
 show wpAny _ _ (leaving _ (.ref a)) _ _ s1
 unfold leaving
 refine wpAny_bind (I.note B x ziT fun s2 T I2 x2=>?_)
 refine I2.land x2 fun s3 I3 x3=>?_
 have sz:∀ b,zdf (zhZ (CXe P w) P w K mg base N qual scope f cd A outer s H E) pins H' b→s.heap.objs.size≤b∧H' b=none:=fun b fb=>by
  refine⟨?_,fb.1⟩
  rcases fb.2.2.2.1 with z|z
  ·exact absurd (show b∈([]:List Addr) from z) (by simp)
  ·exact z
 exact⟨a,c,dd,T,H',rfl,I3.os,I3.bare,I3.base,I3.hok,sz a x3.fp,sz T (x3.fpT _ rfl),x3.at_,hE⟩
theorem zjA {X:Cx}{R:RK} (hp:PX X R):∀ (pins:List (Addr×Obj)) (σ:St) (H:Hp) (s:Shared) (e:Value) (s':Shared),Inv X pins σ H s→CXe X.prog X.w X.stack H s (R σ) e s'→X.xe e s':=by
 intro pins σ H s e s' I h
 obtain⟨a,c,dd,T,H',rfl,os,bare,un,hok,ha,hT,x,hE⟩:=h
 have I':Inv X pins σ H' s':=I.call' os un hok bare fun b z=>absurd z (by simp)
 refine hp pins σ H' s' a c dd (some T) I' ⟨I.fpOk ha.1 ha.2,fun p q=>?_,x⟩ hE
 cases q
 exact I.fpOk hT.1 hT.2
end L2
namespace L2
open PySem PySem.Spec PyProof.Rows
section
variable {prog:Program}{w:World}{A:Around}{E:Value→Shared→Prop}{h:Heap}{g:Array GenState}{d:Drawn}{t:Nat}{os:OsState}
variable {nm q:Str}{C N:Addr}{bs bm bmB:List Value}{hdct:Bool}{sn:List Str}{sub:List Value}{ab:Bool}{col:Option Bool}{dd:Option Addr}{k0 k1 k2 k3 k5:Option Value}{B newId initId:String}
abbrev zcw (C t:Addr):Obj:={ cls:=.ref C,data:=.fields #[.ref t,.none,.none,.none,.bool false,.none] }
abbrev zcY (zbt:List Value):Obj:={ cls:=.type "tuple",data:=.seq zbt.toArray }
theorem zg4 (F:ExcBaseFacts B newId initId bmB) (T:OwnTail h bmB bm){zbt:List Value}{Q:Value→Shared→Prop}
  (oC:h.get? C=some (excClassObj nm q C N bs bm hdct sn sub ab col dd k0 k1 k2 k3 k5 newId)) (lk:PySem.W.Looks (model prog w) h (typeLookup (.ref C) "__init__") (some (.builtin initId))) (few:zbt.length≤sizeLine)
  (fin:∀ h',(∀ b o,h.get? b=some o→h'.get? b=some o)→h'.get? (h.objs.size + 1)=some (zcw C (h.objs.size + 2))→Q (.ref (h.objs.size + 1)) ⟨h',g,d,t,os⟩) :
  wpAny (model prog w) A (call (.ref C) zbt) Q E ⟨h,g,d,t,os⟩:=by
 have l1:=tc_lookup
 have l2:=tc_bind (.ref C)
 have tyC:(⟨h,g,d,t,os⟩:Shared).TypeIs (.ref C) "type":=⟨_,oC,rfl⟩
 refine wpAny_call (codeAny_of_tree ?_)
 show wpAny _ _ (callAny (.ref C) _) _ _ _
 repeat (any_goals (first|assumption|(with_reducible refine wpAny_loadPart_at oC ?_)|wp_step))
 refine⟨rfl,codeAny_call_builtin_at (Code.quiet_builtin _ (by decide +kernel)) entry_typeCall (wpAny_check_type_call_sub oC ?_)⟩
 show wpAny _ (A.under (.builtin "type.__call__" ⟨.ref C::zbt,[]⟩)) (Builtin.«type.__call__» ⟨.ref C::zbt,[]⟩) _ _ _
 repeat (first|(with_reducible refine wpAny_loadPart_at oC ?_)|(with_reducible refine wpAny_madeBy_exc oC ?_)|wp_step)
 refine codeAny_call_builtin_code (Code.quiet_builtin _ F.quiet) (wpAny_check_new_subT F T oC (codeAny_exc_new_subT F T oC ?_ few))
 show wpAny _ _ _ _ _ _
 have kk:∀ b o,h.get? b=some o→((h.push (zcY zbt)).push (zcw C h.objs.size)).get? b=some o:=fun b o e=>Heap.get?_push_of_some _ (Heap.get?_push_of_some _ e)
 have oC1:=kk _ _ oC
 have oX:((h.push (zcY zbt)).push (zcw C h.objs.size)).get? (h.objs.size + 1)=some { cls:=.ref C,data:=.fields #[.ref h.objs.size,.none,.none,.none,.bool false,.none] }:=by heap_get
 have isC:(Value.ref C::bm).contains (.ref C)=true:=by simp
 have T1:=T.keeps kk
 unfold isInstance
 repeat (first|(with_reducible refine wpAny_loadPart_at oX ?_)|(with_reducible refine wpAny_isSubtype_exc oC1 ?_;rw[isC])|wp_step)
 show wpAny _ _ (typeLookup (.ref C) _) _ _ _
 refine lk _ _ _ _ kk ?_
 refine wpAny_holding (wpAny_bind (wpAny_of_eq (F.init.bind _) (wpAny_bind (wpAny_call (codeAny_call_builtin F.init.plain F.initEntry (wpAny_check_init_subT F T1 oC1 oX rfl ?_))))))
 wp_walk
 refine fin _ (fun b o hb=>?_) ?_
 ·rw[Heap.get?_update_other _ _ (Nat.ne_of_gt (Nat.lt_succ_of_lt (Heap.lt_size hb)))]
  exact Heap.get?_push_of_some _ (kk b o hb)
 ·rw[Heap.get?_update_self _ (Heap.get?_push_of_some _ oX) rfl]
  simp only[Heap.size_push];rfl
theorem zg5 (F:ExcBaseFacts B newId initId bmB) (T:OwnTail h bmB bm){zbt:List Value}{fI:Addr}{oI:Obj}{Q:Value→Shared→Prop}
  (oC:h.get? C=some (excClassObj nm q C N bs bm hdct sn sub ab col dd k0 k1 k2 k3 k5 newId)) (lk:PySem.W.Looks (model prog w) h (typeLookup (.ref C) "__init__") (some (.ref fI))) (oF:h.get? fI=some oI) (fF:oI.cls=.type "function") (few:zbt.length≤sizeLine)
  (fin:wpAny (model prog w) (A.under (.builtin "type.__call__" ⟨.ref C::zbt,[]⟩)) (call (.ref fI) (.ref (h.objs.size + 1)::zbt)) (fun r s'=>r=.none∧Q (.ref (h.objs.size + 1)) s') E ⟨(h.push (zcY zbt)).push (zcw C h.objs.size),g,d,t,os⟩) :
  wpAny (model prog w) A (call (.ref C) zbt) Q E ⟨h,g,d,t,os⟩:=by
 have l1:=tc_lookup
 have l2:=tc_bind (.ref C)
 have tyC:(⟨h,g,d,t,os⟩:Shared).TypeIs (.ref C) "type":=⟨_,oC,rfl⟩
 refine wpAny_call (codeAny_of_tree ?_)
 show wpAny _ _ (callAny (.ref C) _) _ _ _
 repeat (any_goals (first|assumption|(with_reducible refine wpAny_loadPart_at oC ?_)|wp_step))
 refine⟨rfl,codeAny_call_builtin_at (Code.quiet_builtin _ (by decide +kernel)) entry_typeCall (wpAny_check_type_call_sub oC ?_)⟩
 show wpAny _ (A.under (.builtin "type.__call__" ⟨.ref C::zbt,[]⟩)) (Builtin.«type.__call__» ⟨.ref C::zbt,[]⟩) _ _ _
 repeat (first|(with_reducible refine wpAny_loadPart_at oC ?_)|(with_reducible refine wpAny_madeBy_exc oC ?_)|wp_step)
 refine codeAny_call_builtin_code (Code.quiet_builtin _ F.quiet) (wpAny_check_new_subT F T oC (codeAny_exc_new_subT F T oC ?_ few))
 show wpAny _ _ _ _ _ _
 have kk:∀ b o,h.get? b=some o→((h.push (zcY zbt)).push (zcw C h.objs.size)).get? b=some o:=fun b o e=>Heap.get?_push_of_some _ (Heap.get?_push_of_some _ e)
 have oC1:=kk _ _ oC
 have oF1:=kk _ _ oF
 have oX:((h.push (zcY zbt)).push (zcw C h.objs.size)).get? (h.objs.size + 1)=some { cls:=.ref C,data:=.fields #[.ref h.objs.size,.none,.none,.none,.bool false,.none] }:=by heap_get
 have isC:(Value.ref C::bm).contains (.ref C)=true:=by simp
 unfold isInstance
 repeat (first|(with_reducible refine wpAny_loadPart_at oX ?_)|(with_reducible refine wpAny_isSubtype_exc oC1 ?_;rw[isC])|wp_step)
 show wpAny _ _ (typeLookup (.ref C) _) _ _ _
 refine lk _ _ _ _ kk ?_
 refine wpAny_holding (wpAny_bind ?_)
 unfold bindSpecial
 refine wpAny_bind (wpAny_typeOf (T:="function") ⟨_,oF1,fF⟩ ?_)
 rw[if_pos (by decide)]
 refine wpAny_pure (wpAny_bind (wpAny_mono fin (fun r s' z=>?_) fun _ _ x=>x))
 obtain⟨rfl,z⟩:=z
 wp_walk
 exact z
theorem zgd {M:Model}{env:Env}{s:Shared}{x:Sem Value}{Q:Flow→Shared→Prop} (hb:bm.contains (.type "BaseException")=true)
  (hx:wpAny M A x (fun v s₁=>∃ e t dx,v=.ref e∧s₁.heap.get? C=some (excClassObj nm q C N bs bm hdct sn sub ab col dd k0 k1 k2 k3 k5 newId)∧s₁.heap.get? e=some { cls:=.ref C,dict:=dx,data:=.fields #[.ref t,.none,.none,.none,.bool false,.none] }∧wpAny M A (raiseNew (.ref e):Sem Flow) Q E s₁) E s) :
  wpAny M A (raiseStmt env (some x) none) Q E s:=by
 have isB:(Value.ref C::bm).contains (.type "BaseException")=true:=by rw[List.contains_cons,hb,Bool.or_true]
 unfold raiseStmt
 refine wpAny_bind (wpAny_mono hx (fun v s₁ z=>?_) fun _ _ y=>y)
 obtain⟨e,t,dx,rfl,oC,oe,z⟩:=z
 obtain⟨hp,g,d,tk,os⟩:=s₁
 repeat (first|exact z|(with_reducible refine wpAny_loadPart_at oe ?_)|(with_reducible refine wpAny_loadPart_at oC ?_)|(with_reducible refine wpAny_isSubtype_exc oC ?_;rw[isB])|wp_step)
end
def zg6 (K:PySem.W.Frag) (C:Addr) (bmB:List Value) (newId:String):Bool:=match K.lookup C with
 | some ⟨.type "type",_,.cls cd,sl⟩=>(match cd.mro,sl.toList with
  | .ref C1::bm,[_,_,_,_,some (.builtin n),_]=>C1 == C && n == newId && !cd.hasDel && PySem.W.tailIn K bmB bm
  | _,_=>false)
 | _=>false
structure XCls (h:Heap) (C:Addr) (bmB bm:List Value) (newId:String):Prop where
 obj:∃ nm q N bs hdct sn sub ab col dd k0 k1 k2 k3 k5,h.get? C=some (excClassObj nm q C N bs bm hdct sn sub ab col dd k0 k1 k2 k3 k5 newId)
 tail:OwnTail h bmB bm
theorem zcx {K:PySem.W.Frag}{h:Heap}{C:Addr}{bmB:List Value}{newId:String} (X:K.In h) (e:zg6 K C bmB newId=true):∃ bm,XCls h C bmB bm newId:=by
 unfold zg6 at e
 split at e
 ·rename_i d1 c1 s1 at1
  split at e
  ·rename_i C1 bm j0 j1 j2 j3 n1 j5 m1 z1
   simp only[Bool.and_eq_true,beq_iff_eq,Bool.not_eq_true'] at e
   obtain⟨⟨⟨rfl,rfl⟩,nd⟩,tl⟩:=e
   obtain⟨f1,f2,f3,f4,f5,f6,f7,f8,f9,f10,f11⟩:=c1
   dsimp only at m1 nd
   subst m1 nd
   obtain rfl:s1=#[j0,j1,j2,j3,some (.builtin n1),j5]:=by
    obtain⟨l1⟩:=s1
    simp only at z1
    rw[z1]
   exact⟨bm,⟨f1,f5,f4,f2,f6,f7,f8,f9,f10,d1,j0,j1,j2,j3,j5,X _ _ at1⟩,PySem.W.tail_of_in X tl⟩
  ·cases e
 ·cases e
end L2
namespace L2
open PySem PySem.Spec PyProof.Rows PySem.Builtin.ObjectAttr
abbrev bmV:List Value:=[.type "ValueError",.type "Exception",.type "BaseException",.type "object"]
theorem passV (self:Value):refuseLoop self "__setattr__" bmV=pure ():=by kernel_rfl
def zkk:List Value→Bool
 | .ref _::r=>zkk r
 | l=>l == bmV
theorem zeP (self:Value):∀ {l:List Value},zkk l=true→refuseLoop self "__setattr__" l=pure ()
 | .ref c::r,e=>by rw[refuseLoop_ref];exact zeP self (l:=r) (by simpa [zkk] using e)
 | [],e=>by cases e
 | .type n::r,e=>by rw[beq_iff_eq.mp (show((Value.type n::r) == bmV)=true from e)];exact passV self
 | .none::r,e=>by cases e
 | .bool _::r,e=>by cases e
 | .int _ _::r,e=>by cases e
 | .str _ _::r,e=>by cases e
 | .bytes _ _::r,e=>by cases e
 | .float _ _::r,e=>by cases e
 | .builtin _::r,e=>by cases e
 | .notImplemented::r,e=>by cases e
 | .ellipsis::r,e=>by cases e
theorem zfL:∀ {l:List Value},zkk l=true→l.contains (.type "object")=true
 | .ref c::r,e=>by rw[List.contains_cons,zfL (l:=r) (by simpa [zkk] using e),Bool.or_true]
 | [],e=>by cases e
 | .type n::r,e=>by rw[beq_iff_eq.mp (show((Value.type n::r) == bmV)=true from e)];rfl
 | .none::r,e=>by cases e
 | .bool _::r,e=>by cases e
 | .int _ _::r,e=>by cases e
 | .str _ _::r,e=>by cases e
 | .bytes _ _::r,e=>by cases e
 | .float _ _::r,e=>by cases e
 | .builtin _::r,e=>by cases e
 | .notImplemented::r,e=>by cases e
 | .ellipsis::r,e=>by cases e
def ownVIn (K:PySem.W.Frag) (C:Addr):Bool:=(PySem.W.clsIn K C).any fun cd=>zkk cd.mro
structure XSet (K:PySem.W.Frag) (C:Addr) (f:Str):Prop where
 sa:PySem.W.findIn K (.ref C) "__setattr__"=some (some (.builtin "object.__setattr__"))
 ov:ownVIn K C=true
 tk:PySem.W.takerIn K C f=some none
 hd:PySem.W.hasDictIn K C=true
section
variable {prog:Program}{w:World}{A:Around}{E:Value→Shared→Prop}{s:Shared}{K:PySem.W.Frag}{C x:Addr}{name:Str}{v:Value}{vs:Array Value}
theorem zjB {Q:Unit→Shared→Prop} (X:K.In s.heap) (hx:s.heap.get? x=some { cls:=.ref C,data:=.fields vs }) (Z:XSet K C name)
  (fin:∀ h',(∀ b o,b≠x→s.heap.get? b=some o→h'.get? b=some o)→h'.get? x=some { cls:=.ref C,dict:=some s.heap.objs.size,data:=.fields vs } →
   h'.Ns1 s.heap.objs.size (fun y=>if y=name then some v else none)→Q () { s with heap:=h',toks:=s.toks + 2 }):wpAny (model prog w) A (setAttr (.ref x) name v) Q E s:=by
 have J:PySem.W.InstAt s.heap x { cls:=.ref C,data:=.fields vs } C none:=⟨hx,rfl,rfl,True.intro⟩
 refine PySem.W.set_plain X J Z.sa ?_
 have SF:=PySem.F.store_object
 obtain⟨cd,hc,ho⟩:=PySem.W.any_some Z.ov
 have ne:cd.mro.isEmpty=false:=by cases q:cd.mro with|nil=>rw[q] at ho;cases ho|cons _ _=>rfl
 have isO:PySem.W.Looks (model prog w) s.heap (isInstance (.ref x) (.type "object")) true:=J.type.andThen (PySem.W.looks_mroIn X (by unfold PySem.W.mroIn;rw[hc,Option.bind_some,if_neg (by rw[ne];decide),zfL ho]))
 refine codeAny_call_builtin SF.slot.plain SF.entry (@PySem.W.check_slot (model prog w) _ _ { s with toks:=s.toks + 1 } "object.__setattr__" "object" "__setattr__" (.ref x) [.str name s.toks,v] [] _ SF.kind SF.split isO (SF.args (.ref x) (.str name s.toks) v) ?_)
 obtain⟨attr,ha,hr⟩:=Option.bind_eq_some_iff.mp Z.tk
 have mr:PySem.W.Looks (model prog w) s.heap (mroOf (.ref C)) cd.mro:=(PySem.W.looks_clsIn X hc).andThen .now
 have tk:PySem.W.Looks (model prog w) s.heap (storeTaker? attr) none:=by
  cases attr with
  | none=>cases hr;exact .now
  | some a=>
   obtain⟨b,hb,z⟩:=Option.map_eq_some_iff.mp hr
   refine(PySem.W.looks_takesIn X hb).andThen ?_
   cases b with
   | true=>cases z
   | false=>exact .now
 rw[PySem.W.osa_eq,refuse_eq]
 refine wpAny_bind (wpAny_bind (PySem.W.Looks.here (s:={ s with toks:=s.toks + 1 }) J.type (wpAny_bind (PySem.W.Looks.here (s:={ s with toks:=s.toks + 1 }) mr ?_))))
 rw[zeP _ ho]
 refine wpAny_pure (wpAny_bind (PySem.W.Looks.here (s:={ s with toks:=s.toks + 1 }) J.type (wpAny_bind (PySem.W.Looks.here (s:={ s with toks:=s.toks + 1 }) (PySem.W.looks_findIn X ha) (wpAny_bind (PySem.W.Looks.here (s:={ s with toks:=s.toks + 1 }) tk ?_))))))
 obtain⟨cd',hc',hd'⟩:=PySem.W.any_some Z.hd
 refine wpAny_bind (wpAny_pure (wpAny_bind (wpAny_bind (wpAny_loadPart hx (wpAny_bind (PySem.W.Looks.here (s:={ s with toks:=s.toks + 1 }) (PySem.W.looks_clsIn X hc') ?_))))))
 rw[hd']
 have lt:=Heap.lt_size hx
 have xs:x≠s.heap.objs.size:=Nat.ne_of_lt lt
 have hx1:(s.heap.push { cls:=.type "dict",data:=.dict #[] }).get? x=some { cls:=.ref C,data:=.fields vs }:=Heap.get?_push_of_some _ hx
 refine wpAny_bind (wpAny_alloc' (wpAny_bind (wpAny_update' hx1 (wpAny_pure (wpAny_bind (wpAny_pure (wpAny_bind ?_)))))))
 generalize hG:(s.heap.push { cls:=.type "dict",data:=.dict #[] }).update x (fun o=>{ cls:=o.cls,dict:=some s.heap.objs.size,data:=o.data,slots:=o.slots })=G
 have oth:∀ b,b≠x→G.get? b=(s.heap.push { cls:=.type "dict",data:=.dict #[] }).get? b:=fun b hb=>by rw[← hG];exact Heap.get?_update_other _ _ (Ne.symm hb)
 have gd:G.get? s.heap.objs.size=some { cls:=.type "dict",data:=.dict #[] }:=(oth _ (Ne.symm xs)).trans (Heap.get?_push_size _ rfl)
 have gx:G.get? x=some { cls:=.ref C,dict:=some s.heap.objs.size,data:=.fields vs }:=by rw[← hG,Heap.get?_update_self _ hx1 rfl]
 have n0:G.Ns s.heap.objs.size (fun _=>none):=⟨_,#[],_,gd,rfl,fun e he=>absurd he (by simp),fun _=>rfl⟩
 refine wpAny_nsSet1 (s:=⟨G,s.gens,s.drawn,s.toks + 1,s.os⟩) (Heap.Ns1.of_empty n0) fun h' hn2 hs2=>?_
 obtain⟨oD,esD,epD,hoD,hdD,hcD⟩:=hn2.count (ns:=[name]) (fun y hy=>by
  split at hy
  ·rename_i z;simp[z]
  ·exact absurd rfl hy)
 refine wpAny_bind (wpAny_lookBehind hoD (by rw[hdD];exact pastItsLine_dict (Nat.le_trans hcD (by simp[sizeLine_eq]))) ?_)
 refine wpAny_pure (fin h' (fun b o hb q=>?_) ((hs2.2 _ xs).trans gx) hn2)
 exact(hs2.2 b (Nat.ne_of_lt (Heap.lt_size q))).trans ((oth b hb).trans (Heap.get?_push_of_some _ q))
end
structure XGet (K:PySem.W.Frag) (C:Addr) (f:Str):Prop where
 ga:PySem.W.findIn K (.ref C) "__getattribute__"=some (some (.builtin "BaseException.__getattribute__"))
 gt:PySem.W.findIn K (.ref C) "__getattr__"=some none
 ba:PySem.W.mroIn K C (.type "BaseException")=some true
 na:PySem.W.findIn K (.ref C) f=some none
 hd:PySem.W.hasDictIn K C=true
section
variable {prog:Program}{w:World}{A:Around}{E:Value→Shared→Prop}{s:Shared}{K:PySem.W.Frag}{C x dx:Addr}{name:Str}{v:Value}{o:Obj}{mA:Str→Option Value}
theorem zjC {expr:Bool}{Q:Value→Shared→Prop} (X:K.In s.heap) (hx:s.heap.get? x=some o) (hc:o.cls=.ref C) (hf:∃ vs,o.data=.fields vs) (hdx:o.dict=some dx) (hn:s.heap.Ns1 dx mA) (Z:XGet K C name) (hv:mA name=some v) (hh:PySem.W.handedIn v=true)
  (fin:Q v { s with toks:=s.toks + 1 }):wpAny (model prog w) A (getAttr (.ref x) name expr) Q E s:=by
 obtain⟨od,hod,hl⟩:=zdi hn
 have J:PySem.W.InstAt s.heap x o C (some od):=⟨hx,hc,by obtain⟨vs,hf⟩:=hf;unfold PySem.W.notCls;rw[hf],by rw[hdx];exact hod⟩
 have L1:=PySem.W.looks_findIn (M:=model prog w) X Z.ga
 have L2:=PySem.W.looks_findIn (M:=model prog w) X Z.gt
 have L3:=PySem.W.looks_find (M:=model prog w) X J (PySem.W.findObj_own Z.hd Z.na rfl (by rw[hl,hv]))
 have L0:=J.type (M:=model prog w)
 have isB:PySem.W.Looks (model prog w) s.heap (isInstance (.ref x) (.type "BaseException")) true:=J.type.andThen (PySem.W.looks_mroIn X Z.ba)
 obtain⟨hp,g,d,t,os⟩:=s
 unfold getAttr getAttrBy
 refine wpAny_bind (wpAny_mkText (wpAny_holding (wpAny_bind (L0.at (wpAny_bind (L1.at ?_))))))
 show wpAny _ _ (if _ then _ else _) _ _ _
 rw[if_neg (by rw[show(Value.builtin "BaseException.__getattribute__" == Value.builtin "object.__getattribute__")=false by decide +kernel,Bool.and_false];decide)]
 unfold getAttrByItsOwn
 refine wpAny_bind (L2.at (wpAny_bind (wpAny_attempt (wpAny_holding ?_))))
 unfold callGetattribute
 rw[if_neg (by cases expr <;> decide)]
 unfold boundAndCalled
 have G:=PySem.F.excAttr_ValueError.ga
 refine wpAny_bind ?_
 rw[G.bind]
 refine wpAny_pure (wpAny_call (codeAny_call_builtin G.plain PySem.F.entry_bexc_ga (@PySem.W.check_slot (model prog w) _ _ ⟨hp,g,d,t + 1,os⟩ "BaseException.__getattribute__" "BaseException" "__getattribute__" (.ref x) [.str name t] [] _ (by decide +kernel) (by decide +kernel) isB (PySem.F.args_bexc_ga (.ref x) (.str name t)) ?_)))
 refine wpAny_bind (wpAny_pure (wpAny_bind (wpAny_pure (wpAny_bind (L0.at (wpAny_bind (L3.at (wpAny_pure ?_))))))))
 show wpAny _ _ (handedOut v) _ _ _
 rw[PySem.W.handedOut_of hh]
 exact wpAny_pure fin
end
end L2
namespace L2
open PySem PySem.Spec PyProof.Rows
def del (H:Hp) (a:Addr):Hp:=fun b=>if b=a then none else H b
theorem zfM {H:Hp}{a:Addr}:del H a a=none:=by unfold del;rw[if_pos rfl]
theorem zdt {H:Hp}{a b:Addr} (h:b≠a):del H a b=H b:=by unfold del;rw[if_neg h]
def zh0 (C t a:Addr) (dx:Option Addr):HO:=.ext fun h=>h.get? a=some { cls:=.ref C,dict:=dx,data:=.fields #[.ref t,.none,.none,.none,.bool false,.none] }
section
variable {X:Cx}{pins:List (Addr×Obj)}{σ:St}{H:Hp}{s:Shared}
theorem Inv.del {a:Addr}{φ:Heap→Prop} (I:Inv X pins σ H s) (e:H a=some (.ext φ)):Inv X pins σ (del H a) s:=by
 have ne:∀ b u,H b=some u→(∀ ψ,u≠.ext ψ)→b≠a:=fun b u q n z=>by rw[z,e] at q;cases q;exact n _ rfl
 have un:Un X.fs X.ex X.H₀ (L2.del H a) X.s₀.heap s.heap:=by
  obtain⟨b1,b2,b3,b4,b5,b6,b7⟩:=I.base
  refine⟨b1,b2,fun b o q n x=>?_,b4,fun b xs q=>?_,fun b o u q=>?_,fun b pp pq q=>?_⟩
  ·unfold L2.del;split
   ·rfl
   ·exact b3 b o q n x
  ·have:=b5 b xs q
   rw[zdt (ne b _ this (by intro ψ z;cases z))];exact this
  ·have:=b6 b o u q
   rw[zdt (ne b _ this (by intro ψ z;cases z))];exact this
  ·have:=b7 b pp pq q
   rw[zdt (ne b _ this (by intro ψ z;cases z))];exact this
 have none_of:∀ b,H b=none→L2.del H a b=none:=fun b q=>by unfold L2.del;split <;> first|rfl|exact q
 refine { I with base:=un,free:=none_of _ I.free,freeC:=fun x c q=>none_of _ (I.freeC x c q),pin:=fun p hp=>?_,hok:=fun b o q=>?_ }
 ·obtain⟨p1,p2,p3⟩:=I.pin p hp
  exact⟨p1,none_of _ p2,p3⟩
 ·by_cases hb:b=a
  ·subst hb;rw[zfM] at q;cases q
  ·rw[zdt hb] at q
   refine(I.hok b o q).stay (fun c u _ r=>r) (fun c r=>?_) (fun c xs r=>?_) fun c ob r=>?_
   ·rw[zdt (ne c _ r (by intro ψ z;cases z))];exact r
   ·rw[zdt (ne c _ r (by intro ψ z;cases z))];exact r
   ·rw[zdt (ne c _ r (by intro ψ z;cases z))];exact r
theorem zeQ {R:RK}{C t a:Addr}{dx:Option Addr}{Q:Flow→Shared→Prop} (hp:PX X R) (I:Inv X pins σ H s) (fp:zdf X pins H a)
  (he:s.heap.get? a=some { cls:=.ref C,dict:=dx,data:=.fields #[.ref t,.none,.none,.none,.bool false,.none] }) (hR:R σ (.ref C) dx H):wpAny (model X.prog X.w) X.A (raiseNew (.ref a):Sem Flow) Q X.xe s:=by
 obtain⟨f0,f1,f2,f3,f4,f5⟩:=id fp
 refine zed (s:=s) ?_ he rfl (by simp) fun h' o' vs' k1 k2 k3 k4 k5 k6 k7 k8=>?_
 ·rcases I.hdAt with z|⟨b,cs,z,c⟩
  ·exact .inl z
  ·exact .inr ⟨b,cs,z,c.chn I.hok,c.not_mem f0⟩
 ·have I':Inv X pins σ H { s with heap:=h' }:=I.turned (t':=s.toks) k1 f0 f1 f3 f4 f5
  refine hp pins σ H _ a (.ref C) dx none I' ⟨fp,fun p q=>(by cases q),⟨⟨o',vs',k2,k3,k4,k5,k6,?_,?_⟩,fun p q=>(by cases q)⟩⟩ hR
  ·rcases I.hdAt with z|⟨b,cs,z,c⟩
   ·rw[z] at k8
    exact⟨[],⟨List.nodup_nil,fun j a q=>by simp at q⟩,k8⟩
   ·rw[z] at k8
    exact⟨b::cs,c,k8⟩
  ·exact k7
end
structure XC0 (K:PySem.W.Frag) (C:Addr):Prop where
 at_:zg6 K C bmV "ValueError.__new__"=true
 kp:PySem.W.keepIn K (.ref C)=true
 init:PySem.W.findIn K (.ref C) "__init__"=some (some (.builtin "ValueError.__init__"))
structure XCI (K:PySem.W.Frag) (C f:Addr):Prop where
 at_:zg6 K C bmV "ValueError.__new__"=true
 kp:PySem.W.keepIn K (.ref C)=true
 init:PySem.W.findIn K (.ref C) "__init__"=some (some (.ref f))
 fn:PySem.W.isFn K (.ref f)=true
def zjD (C:Addr) (R:RK) (t:TA):TS:=fun _ σ H=>t σ H fun vs H1=>vs.length≤sizeLine∧R σ (.ref C) none H1
def zg7 (C:Addr) (sp:Sp) (dvs:List V) (R:RK) (t:TA):TS:=fun _ σ H=>t σ H fun vs H1=>vs.length≤sizeLine∧∀ a t',H1 a=none →
 sp (.ref a::(vs++dvs)) (upd H1 a (zh0 C t' a none)) (fun v H2=>v=.non∧∃ dx,H2 a=some (zh0 C t' a dx)∧R σ (.ref C) dx (del H2 a)) (R σ)
section
variable {X:Cx}{R:RK}{C:Addr}{x:Str}{np cpos pos:Pos}{e:Expr}{es:List Expr}{t:TA}
theorem zfN {a:List Expr}{s:Shared}{bm:List Value}{Q:Flow→Shared→Prop} (hx:XCls s.heap C bmV bm "ValueError.__new__")
  (h:wpAny (model X.prog X.w) X.A (eval (.Call (.Name x np) a [] cpos) X.env) (fun v s₁=>∃ b t dx,v=.ref b∧(∀ o,s.heap.get? C=some o→s₁.heap.get? C=some o)∧s₁.heap.get? b=some { cls:=.ref C,dict:=dx,data:=.fields #[.ref t,.none,.none,.none,.bool false,.none] }∧wpAny (model X.prog X.w) X.A (raiseNew (.ref b):Sem Flow) Q X.xe s₁) X.xe s) :
  wpAny (model X.prog X.w) X.A (exec (.Raise (some (.Call (.Name x np) a [] cpos)) none pos) X.env) Q X.xe s:=by
 obtain⟨⟨nm,q,N,bs,hdct,sn,sub,ab,col,dd,k0,k1,k2,k3,k5,oC⟩,T⟩:=hx
 rw[arm_exec_Raise]
 refine wpAny_bind (wpAny_standAt (zgd (C:=C) (nm:=nm) (q:=q) (N:=N) (bs:=bs) (bm:=bm) (hdct:=hdct) (sn:=sn) (sub:=sub) (ab:=ab) (col:=col) (dd:=dd) (k0:=k0) (k1:=k1) (k2:=k2) (k3:=k3) (k5:=k5) (newId:="ValueError.__new__") (T.hasType rfl) (wpAny_bind (wpAny_mono h (fun v s1 z=>wpAny_bind (wpAny_standAt (wpAny_pure ?_))) fun _ _ y=>y))))
 obtain⟨b,t,dx,z1,z2,z3,z4⟩:=z
 exact⟨b,t,dx,z1,z2 _ oC,z3,z4⟩
theorem zge {pins:List (Addr×Obj)}{σ:St}{H:Hp}{s0 s:Shared}{us:List Value}{Q:Flow→Shared→Prop} (hp:PX X R) (c:XC0 X.K C) (I:Inv X pins σ H s) (hz:us.length≤sizeLine) (hs:∀ o,s0.heap.get? C=some o→s.heap.get? C=some o) (hR:R σ (.ref C) none H) :
  wpAny (model X.prog X.w) X.A (call (.ref C) us) (fun v s₁=>∃ b t dx,v=.ref b∧(∀ o,s0.heap.get? C=some o→s₁.heap.get? C=some o)∧s₁.heap.get? b=some { cls:=.ref C,dict:=dx,data:=.fields #[.ref t,.none,.none,.none,.bool false,.none] }∧wpAny (model X.prog X.w) X.A (raiseNew (.ref b):Sem Flow) Q X.xe s₁) X.xe s:=by
 obtain⟨bm,⟨nm,q,N,bs,hdct,sn,sub,ab,col,dd,k0,k1,k2,k3,k5,oC⟩,T⟩:=zcx I.kIn c.at_
 have I0:=I
 obtain⟨h,g,d,tk,os⟩:=s
 refine zg4 PySem.F.excBase_ValueError T oC (PySem.W.looks_findIn I.kIn c.init) hz fun h' k' e'=>?_
 have I':Inv X pins σ H ⟨h',g,d,tk,os⟩:=I0.kept (t':=tk) k'
 refine⟨_,_,none,rfl,fun o q=>k' _ _ (hs o q),e',zeQ hp I' ?_ e' hR⟩
 exact I0.fpOk (s:=⟨h,g,d,tk,os⟩) (Nat.le_succ _) (I0.hok.fresh (Nat.le_succ _))
theorem zg8 (hp:PX X R) (c:XC0 X.K C) (hg:Gl X x) (hm:X.mg x=some (.ref C)) (hdb:(x == ("__debug__":Str))=false:=by decide):PS X (.Raise (some (.Call (.Name x np) [] [] cpos)) none pos) (zjD C R zhY):=by
 intro pins s σ H D I h
 obtain⟨bm,xc⟩:=zcx I.kIn c.at_
 refine zfN xc (wpAny_Call_Name_kw (zcL I hg hm ?_ hdb))
 exact PySem.W.callWith_K0 I.kIn c.kp (zge hp c I h.1 (fun _ q=>q) h.2)
variable {CX:CXT}{k:Nat}{f:Addr}{fd:FuncData}{ps:List Str}{sp:Sp}{dvs:List V}{ds:List Value}
theorem zg9 (hp:PX X R) (c:XCI X.K C f) (F:zc5 X.prog X.w X.K X.mg X.base CX k f fd ps sp) (hr:zb7 (k + 1) X.A) (hb:zbO X.K fd ps ds) (hd:zaK dvs ds) (hxx:∀ σ,zcW CX X (R σ)) (hg:Gl X x) (hm:X.mg x=some (.ref C)) (ha:PA X (e::es) t)
  (hdb:(x == ("__debug__":Str))=false:=by decide) (he:starEach (e::es) X.env=(false,eval e X.env)::starEach es X.env:=by rfl) (hpl:(backTo cpos (starEach es X.env)).any (·.1)=false:=by rfl) :
  PS X (.Raise (some (.Call (.Name x np) (e::es) [] cpos)) none pos) (zg7 C sp dvs R t):=by
 intro pins s σ H D I h
 obtain⟨bm0,xc⟩:=zcx I.kIn c.at_
 refine zfN xc (wpAny_Call_Name_kw (zcL I hg hm ?_ hdb))
 refine PySem.W.callWith_K (h₀:=X.base) I.ok.mod.kin c.kp (thn (ha cpos pins s σ H _ I h) fun us s1 ⟨vs,H1,I1,r,z,q⟩=>⟨I1.kIn,?_⟩) he hpl
 obtain⟨bm2,⟨nm2,q2,N2,bs2,hdct2,sn2,sub2,ab2,col2,dd2,l0,l1,l2,l3,l5,oC2⟩,_⟩:=zcx I.ok.mod.kin c.at_
 have C0:∀ o,s.heap.get? C=some o→X.base.get? C=some o:=fun o q=>by rw[I.bk _ _ oC2] at q;rw[← q];exact oC2
 obtain⟨bm,⟨nm,qn,N,bs,hdct,sn,sub,ab,col,dd,k0,k1,k2,k3,k5,oC⟩,T⟩:=zcx I1.kIn c.at_
 have fnC:(X.K.lookup f).map (·.cls)=some (.type "function"):=beq_iff_eq.mp c.fn
 obtain⟨oF,hF,hFc⟩:∃ oF,X.K.lookup f=some oF∧oF.cls=.type "function":=by
  cases hk:X.K.lookup f with
  | none=>rw[hk] at fnC;cases fnC
  | some oF=>rw[hk] at fnC;exact⟨oF,rfl,Option.some.inj fnC⟩
 have hz:us.length≤sizeLine:=by rw[← r.length];exact z
 have J:=I1
 obtain⟨hp1,g,d,tk,os⟩:=s1
 refine zg5 PySem.F.excBase_ValueError T oC (PySem.W.looks_findIn I1.kIn c.init) (I1.kIn _ _ hF) hFc hz ?_
 have kk:∀ b o,hp1.get? b=some o→((hp1.push (zcY us)).push (zcw C hp1.objs.size)).get? b=some o:=fun b o e=>Heap.get?_push_of_some _ (Heap.get?_push_of_some _ e)
 have oX:((hp1.push (zcY us)).push (zcw C hp1.objs.size)).get? (hp1.objs.size + 1)=some { cls:=.ref C,data:=.fields #[.ref hp1.objs.size,.none,.none,.none,.bool false,.none] }:=by heap_get
 have fr:H1 (hp1.objs.size + 1)=none:=J.hok.fresh (Nat.le_succ _)
 have I2:Inv X pins σ (upd H1 (hp1.objs.size + 1) (zh0 C hp1.objs.size (hp1.objs.size + 1) none)) ⟨(hp1.push (zcY us)).push (zcw C hp1.objs.size),g,d,tk,os⟩:=
  J.laid (t':=tk) kk (Nat.le_succ _) ⟨oX,⟨_,oX⟩,fun h1 h2 p1 p2=>p2 _ p1⟩
 have q':=q (hp1.objs.size + 1) hp1.objs.size fr
 have r2:zaK (V.ref (hp1.objs.size + 1)::(vs++dvs)) (Value.ref (hp1.objs.size + 1)::(us++ds)):=.cons rfl (r.append hd)
 have hl:(Value.ref (hp1.objs.size + 1)::us++ds).length=ps.length:=by
  have e:=r2.length
  rw[F.len _ _ _ _ q'] at e
  exact e.symm
 refine wpAny_call (codeAny_mono (F.run _ X.stack _ _ ⟨Value.ref (hp1.objs.size + 1)::us,[]⟩ (Value.ref (hp1.objs.size + 1)::(us++ds)) _ _ (R σ) (hr.make C us []) (I2.env0.make C us []) (hb _ (Value.ref (hp1.objs.size + 1)::us) I2.kIn hl) r2 q') fun rr s' hq'=>?_)
 cases rr with
 | error e=>exact hxx σ pins σ _ _ e s' I2 hq'
 | ok fl=>
  cases fl with
  | ret u=>
   obtain⟨v,H',I3,rv,ev,dx,e3,q3⟩:=I2.after hq'
   subst ev
   refine⟨rv,_,hp1.objs.size,dx,rfl,fun o q=>I3.bk _ _ (C0 o q),(I3.hok _ _ e3).1,?_⟩
   refine zeQ hp (I3.del e3) ?_ (I3.hok _ _ e3).1 q3
   exact J.fpOk (s:=⟨hp1,g,d,tk,os⟩) (Nat.le_succ _) zfM
  | next=>exact False.elim hq'
  | brk=>exact False.elim hq'
  | cont=>exact False.elim hq'
def sFldX (K:PySem.W.Frag) (ta tv:TE) (f:Str):TS:=fun D σ H=>tv σ H fun y H1=>ta σ H1 fun x H2=>∃ a C t,x=.ref a∧H2 a=some (zh0 C t a none)∧XSet K C f ∧
 ∀ dx,H2 dx=none→D.nx σ (upd (upd H2 dx (.xd [(f,y)])) a (zh0 C t a (some dx)))
theorem zjE {o value:Expr}{ta tv:TE}{f:Str}{pos':Pos} (ha:PE X o ta) (hv:PE X value tv) (hs:swapsWith value (some (.Attribute o f pos')) pos.line X.env=pure false):PS X (.Assign [.Attribute o f pos'] value pos) (sFldX X.K ta tv f):=by
 intro pins s σ H D I h
 refine plainObj_wpAny_Assign_Attribute (thn (hv pins s σ H _ I h) fun v s1=>L2.ex5 fun y H1 I1 ry q1=>thn (ha pins s1 σ H1 _ I1 q1) fun u s2=>L2.ex5 fun x H2 I2 rx q2=>?_) hs
 obtain⟨a,C,t,rfl,e2,Z,q2⟩:=q2
 obtain rfl:u=Value.ref a:=rx
 have oa:=(I2.hok _ _ e2).1
 refine zjB I2.kIn oa Z fun h' k1 k2 k3=>?_
 have dn:H2 s2.heap.objs.size=none:=I2.hok.fresh (Nat.le_refl _)
 have da:s2.heap.objs.size≠a:=(zai e2 dn).symm
 have old:∀ b o,s2.heap.get? b=some o→b≠s2.heap.objs.size:=fun b o q=>Nat.ne_of_lt (Heap.lt_size q)
 have na:∀ b u,H2 b=some u→(∀ ψ,u≠.ext ψ)→b≠a:=fun b u q n z=>by rw[z,e2] at q;cases q;exact n _ rfl
 have nd:∀ b u,H2 b=some u→b≠s2.heap.objs.size:=fun b u q=>zai q dn
 have keepH:∀ b u,H2 b=some u→(∀ ψ,u≠.ext ψ)→upd (upd H2 s2.heap.objs.size (.xd [(f,y)])) a (zh0 C t a (some s2.heap.objs.size)) b=some u:=fun b u q n=>by rw[zaf (na b u q n),zaf (nd b u q)];exact q
 refine⟨σ,_,I2.un (t':=s2.toks + 2) ⟨fun b o q n _ _=>k1 b o (fun z=>?_) q,fun b o q n _ _=>⟨o.slots,k1 b o (fun z=>?_) q⟩,fun b o q n _=>?_,fun b o q _=>?_,fun b xs q=>?_,fun b o u q=>?_,fun b pp pq q=>?_⟩ (fun b o q=>?_),q2 _ dn⟩
 ·rw[z,e2] at n;cases n
 ·rw[z,e2] at n;cases n
 ·rw[zaf (fun z=>by rw[z,e2] at n;cases n),zaf (old b o q)];exact n
 ·by_cases z:b=a
  ·subst z;exact⟨_,k2⟩
  ·exact⟨o,k1 b o z q⟩
 ·exact keepH b _ q (by intro ψ z;cases z)
 ·exact keepH b _ q (by intro ψ z;cases z)
 ·exact keepH b _ q (by intro ψ z;cases z)
 ·by_cases z:b=a
  ·subst z
   rw[zab] at q;cases q
   exact⟨k2,⟨_,k2⟩,fun h1 h2 p1 p2=>p2 _ p1⟩
  ·rw[zaf z] at q
   by_cases z2:b=s2.heap.objs.size
   ·subst z2
    rw[zab] at q;cases q
    refine⟨_,k3,fun g=>?_⟩
    by_cases hg:g=f
    ·subst hg;simpa [zex] using ry
    ·have e0:([(f,y)]:List (Str×V)).lookup g=none:=by rw[List.lookup_cons,show(g == f)=false from by simpa using hg];rfl
     rw[e0,if_neg hg];exact True.intro
   ·rw[zaf z2] at q
    refine(I2.hok b o q).stay (fun c u hc r=>k1 c u ?_ r) (fun c r=>keepH c _ r (by intro ψ z;cases z)) (fun c xs r=>keepH c _ r (by intro ψ z;cases z)) fun c ob r=>keepH c _ r (by intro ψ z;cases z)
    rcases hc with hc|hc
    ·rw[hc];exact z
    ·exact na c _ hc (by intro ψ z;cases z)
end
end L2
namespace L2
open PySem PySem.Spec PyProof.Rows PySem.Builtin.ObjectAttr
structure XIs (K:PySem.W.Frag) (C:Addr):Prop where
 ga:PySem.W.findIn K (.ref C) "__getattribute__"=some (some (.builtin "BaseException.__getattribute__"))
 gt:PySem.W.findIn K (.ref C) "__getattr__"=some none
 ba:PySem.W.mroIn K C (.type "BaseException")=some true
 ob:PySem.W.mroIn K C (.type "object")=some true
 cl:PySem.W.findIn K (.ref C) "__class__"=some (some (.builtin "object.__class__"))
 gs:PySem.W.specialIn K (.builtin "object.__class__") "__get__"=some (some (.builtin "getset_descriptor.__get__"))
 tk:PySem.W.takesIn K (.builtin "object.__class__")=some true
 hd:PySem.W.hasDictIn K C=true
theorem zfk {K:PySem.W.Frag}{C:Addr}{od:Option Obj} (Z:XIs K C):PySem.W.findObj K C od "__class__"=some (.bind (.builtin "getset_descriptor.__get__") (.builtin "object.__class__")):=by
 obtain⟨cd,hc,_⟩:=PySem.W.any_some Z.hd
 unfold PySem.W.findObj
 rw[hc,Option.bind_some,Z.cl,Option.bind_some]
 dsimp only
 rw[Z.gs,Option.bind_some]
 dsimp only
 rw[Z.tk,Option.bind_some]
section
variable {prog:Program}{w:World}{A:Around}{E:Value→Shared→Prop}{s:Shared}{K:PySem.W.Frag}{C x:Addr}{ox:Obj}{od:Option Obj}
theorem zha {Q:Option Value→Shared→Prop} (Z:XIs K C) (X:K.In s.heap) (J:PySem.W.InstAt s.heap x ox C od) (fin:Q (some (.ref C)) { s with toks:=s.toks + 1 }):wpAny (model prog w) A (getAttr? (.ref x) "__class__") Q E s:=by
 have L1:=PySem.W.looks_findIn (M:=model prog w) X Z.ga
 have L2:=PySem.W.looks_findIn (M:=model prog w) X Z.gt
 have L3:=PySem.W.looks_find (M:=model prog w) X J (zfk Z)
 have L0:=J.type (M:=model prog w)
 have isB:PySem.W.Looks (model prog w) s.heap (isInstance (.ref x) (.type "BaseException")) true:=J.type.andThen (PySem.W.looks_mroIn X Z.ba)
 obtain⟨hp,g,d,t,os⟩:=s
 unfold getAttr? getAttrBy? getAttrBy
 refine wpAny_bind (wpAny_mkText (wpAny_bind (wpAny_attempt (wpAny_holding (wpAny_bind (L0.at (wpAny_bind (L1.at ?_))))))))
 show wpAny _ _ (if _ then _ else _) _ _ _
 rw[if_neg (by rw[show(Value.builtin "BaseException.__getattribute__" == Value.builtin "object.__getattribute__")=false by decide +kernel,Bool.and_false];decide)]
 unfold getAttrByItsOwn
 refine wpAny_bind (L2.at (wpAny_bind (wpAny_attempt (wpAny_holding ?_))))
 unfold callGetattribute
 rw[if_neg (by decide)]
 unfold boundAndCalled
 have G:=PySem.F.excAttr_ValueError.ga
 refine wpAny_bind ?_
 rw[G.bind]
 refine wpAny_pure (wpAny_call (codeAny_call_builtin G.plain PySem.F.entry_bexc_ga (@PySem.W.check_slot (model prog w) _ _ ⟨hp,g,d,t + 1,os⟩ "BaseException.__getattribute__" "BaseException" "__getattribute__" (.ref x) [.str "__class__" t] [] _ (by decide +kernel) (by decide +kernel) isB (PySem.F.args_bexc_ga (.ref x) (.str "__class__" t)) ?_)))
 refine wpAny_bind (wpAny_pure (wpAny_bind (wpAny_pure (wpAny_bind (L0.at (wpAny_bind (L3.at ?_)))))))
 refine wpAny_bind (wpAny_holding (wpAny_call (PySem.W.class_get (s:=⟨hp,g,d,t + 1,os⟩) (ox:=ox) (od:=od) X J Z.ob (wpAny_pure ?_))))
 show wpAny _ _ (handedOut (.ref C)) _ _ _
 exact wpAny_pure (wpAny_pure fin)
theorem zig (Z:XIs K C):PySem.W.KitX K (.ref x) (.ref C) (fun h=>PySem.W.InstAt h x ox C od) where
 ty:=fun _ _ _ I=>I.type
 it:=fun _ _ X _=>by
  obtain⟨cD,hcD,_⟩:=PySem.W.any_some Z.hd
  unfold PySem.W.clsIn at hcD
  split at hcD
  ·rename_i c1 d1 e1 s1 at1
   intro A' Q' E' s' k q
   unfold isType loadHead
   exact wpAny_bind (wpAny_loadPart (k _ _ (X _ _ at1)) (wpAny_pure q))
  ·cases hcD
 ne:=fun h tp dd its n sl X htp=>by
  obtain⟨cD,hcD,_⟩:=PySem.W.any_some Z.hd
  refine Bool.eq_false_iff.mpr fun q=>?_
  obtain rfl:C=tp:=Value.ref.inj (beq_iff_eq.mp q)
  unfold PySem.W.clsIn at hcD
  split at hcD
  ·rename_i c1 d1 e1 s1 at1
   have z:=(X _ _ at1).symm.trans htp
   cases z
  ·cases hcD
 ca:=fun X I k=>zha Z X I k
end
structure IsX (H:Hp) (a C:Addr) (dd:Option Addr):Prop where
 at_:∃ o u,H a=some (.frz o u)∧o.cls=.ref C∧o.dict=dd∧∃ vs,o.data=.fields vs
section
variable {X:Cx}
theorem IsX.inst {pins:List (Addr×Obj)}{σ:St}{H:Hp}{s:Shared}{a C:Addr} (I:Inv X pins σ H s) (x:IsX H a C none):∃ o,PySem.W.InstAt s.heap a o C none:=by
 obtain⟨o,u,h1,h2,h3,vs,h4⟩:=x.at_
 exact⟨o,(I.hok _ _ h1).1,h2,by unfold PySem.W.notCls;rw[h4],by rw[h3];exact True.intro⟩
theorem IsX.instD {pins:List (Addr×Obj)}{σ:St}{H:Hp}{s:Shared}{a C dx:Addr}{fs:List (Str×V)} (I:Inv X pins σ H s) (x:IsX H a C (some dx)) (hd:H dx=some (.xd fs)):∃ o od,PySem.W.InstAt s.heap a o C (some od):=by
 obtain⟨o,u,h1,h2,h3,vs,h4⟩:=x.at_
 obtain⟨mA,n,_⟩:=I.hok _ _ hd
 obtain⟨od,hod,_⟩:=zdi n
 exact⟨o,od,(I.hok _ _ h1).1,h2,by unfold PySem.W.notCls;rw[h4],by rw[h3];exact hod⟩
def XDs (H:Hp):Option Addr→Prop
 | none=>True
 | some dx=>∃ fs,H dx=some (.xd fs)
theorem IsX.any {pins:List (Addr×Obj)}{σ:St}{H:Hp}{s:Shared}{a C:Addr}{dd:Option Addr} (I:Inv X pins σ H s) (x:IsX H a C dd) (hd:XDs H dd):∃ o od,PySem.W.InstAt s.heap a o C od:=by
 cases dd with
 | none=>obtain⟨o,h⟩:=x.inst I;exact⟨o,none,h⟩
 | some dx=>obtain⟨fs,hd⟩:=hd;obtain⟨o,od,h⟩:=x.instD I hd;exact⟨o,some od,h⟩
theorem zeR:zdh X (.builtin "isinstance") (fun xs H Q=>∃ a C dd vc c b,xs=[.ref a,vc]∧IsX H a C dd∧XDs H dd∧XIs X.K C∧(∀ u,zaQ vc u→u=c)∧PySem.W.kitOne X.K (.ref C) c=some b∧Q (.bl b) H):=by
 intro pins s σ H xs us Q I r h
 obtain⟨a,C,dd,vc,c,b,rfl,x,hd,Z,hc,e,q⟩:=h
 obtain⟨u,u',rfl,rx,ry⟩:=zjh r
 obtain rfl:u=Value.ref a:=rx
 obtain rfl:=hc u' ry
 obtain⟨o,od,J⟩:=x.any I hd
 exact PySem.W.kia_one (zig Z) I.kIn J e (fun z=>nomatch z) fun tk=>⟨.bl b,H,I.tok _,rfl,q⟩
def tFldX (K:PySem.W.Frag) (ta:TE) (f:Str):TE:=fun σ H Q=>ta σ H fun x H1=>∃ a C dx fs v,x=.ref a∧IsX H1 a C (some dx)∧H1 dx=some (.xd fs)∧XGet K C f∧fs.lookup f=some v∧Q v H1
theorem zjF {e:Expr}{ta:TE}{f:Str}{pos:Pos} (he:PE X e ta) (hb:attributeBase e f X.env (eval e X.env)=eval e X.env):PE X (.Attribute e f pos) (tFldX X.K ta f):=by
 intro pins s σ H Q I h
 refine zgK hb (thn (he pins s σ H _ I h) fun u s1=>L2.ex5 fun x H1 I1 rx hq_=>?_)
 obtain⟨a,C,dx,fs,v,ex,ix,hd,Z,l,q⟩:=hq_
 subst ex
 obtain rfl:u=Value.ref a:=rx
 obtain⟨o,u',h1,h2,h3,hf⟩:=ix.at_
 obtain⟨mA,n,hm⟩:=I1.hok _ _ hd
 have r:=hm f
 rw[l] at r
 obtain⟨w',e',r'⟩:=r.some_of
 exact zjC I1.kIn (I1.hok _ _ h1).1 h2 hf h3 n Z e' (zeD r') ⟨v,H1,I1.tok _,r',q⟩
end
end L2
namespace L2
open PySem PySem.Spec PyProof.Rows
abbrev Cx.tr (X:Cx) (pn:List (Addr×Obj)) (E:Value→Shared→Prop):Cx:={ X with pn:=pn,xe:=E }
abbrev Cx.hnd (X:Cx) (a:Addr) (H₀:Hp):Cx:={ X with A:=X.A.mark (some (.ref a)),H₀:=H₀,xe:=fun _ _=>False }
def zel (H H₀:Hp):Hp:=fun b=>match H b with|some (.frz o u)=>some (.frz o u)|_=>H₀ b
theorem zem {H H₀:Hp}{b:Addr}{o:Obj}{u:HO} (e:H b=some (.frz o u)):zel H H₀ b=some (.frz o u):=by unfold zel;rw[e]
theorem zc7 {H H₀:Hp}{b:Addr} (n:∀ o u,H b≠some (.frz o u)):zel H H₀ b=H₀ b:=by
 unfold zel
 split
 ·rename_i o u e;exact absurd e (n o u)
 ·rfl
section
variable {X:Cx}{pins:List (Addr×Obj)}{σ:St}{H:Hp}{s:Shared}{a:Addr}{c:Value}{dd:Option Addr}{tb:Option (Addr×Value)}
theorem Inv.enter (hex:X.ex=[]) (I:Inv X pins σ H s) (x:Exc X pins H s.heap a c dd tb):∃ o,o.cls=c∧o.dict=dd∧(∃ vs,o.data=.fields vs)∧Inv (X.hnd a (zel (upd H a (.frz o (.own a))) X.H₀)) pins σ (upd H a (.frz o (.own a))) s:=by
 obtain⟨o,vs,h1,hc,hdd,hd,hz,⟨cs,ch,h2⟩,hv1⟩:=x.at_.ob
 obtain⟨f0,f1,f2,f3,f4,f5⟩:=x.fp
 have f3':X.s₀.heap.objs.size≤a:=by
  rcases f3 with z|z
  ·rw[hex] at z;cases z
  ·exact z
 refine⟨o,hc,hdd,⟨vs,hd⟩,?_⟩
 have na:∀ b u,H b=some u→b≠a:=fun b u q=>zai q f0
 have old:∀ b ob,X.s₀.heap.get? b=some ob→b≠a:=fun b ob q=>Nat.ne_of_lt (Nat.lt_of_lt_of_le (Heap.lt_size q) f3')
 have keepH:∀ b u,H b=some u→upd H a (.frz o (.own a)) b=some u:=fun b u q=>by rw[zaf (na b u q)];exact q
 have noneH:∀ b,b≠a→H b=none→upd H a (.frz o (.own a)) b=none:=fun b z q=>by rw[zaf z];exact q
 have noneO:∀ b,b≠a→H b=none→zel (upd H a (.frz o (.own a))) X.H₀ b=X.H₀ b:=fun b z q=>zc7 fun o' u' q'=>by rw[noneH b z q] at q';cases q'
 have K:=I.ok
 refine { I with ok:=?_,base:=?_,free:=noneH _ (Ne.symm f1) I.free,freeC:=fun y cl q=>noneH _ (f4 y cl q) (I.freeC y cl q),pin:=fun p hp=>?_,hok:=fun b u q=>?_ }
 ·refine { mod:=K.mod,kind:=K.kind,glob:=K.glob,blt:=K.blt,above:=K.above,inj:=K.inj,has:=K.has,cab:=K.cab,hd:=?_,frames:=K.frames,stk:=K.stk,exf:=K.exf,bs:=fun b ob q=>?_,bsz:=K.bsz,noex:=K.noex,exfs:=K.exfs,funs:=K.funs,frf:=fun b hb=>?_ }
  ·refine .inr ⟨a,cs,rfl,List.nodup_cons.mpr ⟨ch.not_mem f0,ch.1⟩,fun j b hj=>?_⟩
   cases j with
   | zero=>
    obtain rfl:a=b:=by simpa using hj
    exact⟨o,.own a,vs,zem zab,hd,h2⟩
   | succ j=>
    have hj':cs[j]?=some b:=by simpa using hj
    obtain⟨o',u',vs',q1,q2,q3⟩:=ch.2 j b hj'
    exact⟨o',u',vs',zem (keepH _ _ q1),q2,q3⟩
  ·obtain⟨q1,q2⟩:=K.bs b ob q
   obtain⟨_,q3⟩:=I.bs b ob q
   exact⟨q1,(noneO b (old b ob q1) q3).trans q2⟩
  ·have hb':b∈X.fs:=hb
   have:=K.frf b hb'
   have hbn:b≠a:=fun z=>f2 (z ▸ hb')
   have h3:H b=none:=I.stkFree b (by
    rcases K.stk with z|⟨z,y⟩
    ·rw[z];exact hb'
    ·rw[z];unfold frs;rw[List.filterMap_cons,y];exact List.mem_cons_of_mem _ hb')
   exact(noneO b hbn h3).trans this
 ·obtain⟨b1,b2,b3,b4,b5,b6,b7⟩:=I.base
  have back:∀ b ob,X.s₀.heap.get? b=some ob→zel (upd H a (.frz o (.own a))) X.H₀ b=none→X.H₀ b=none:=fun b ob q n=>by
   unfold zel at n
   split at n
   ·cases n
   ·exact n
  refine⟨fun b ob q n=>b1 b ob q (back b ob q n),fun b ob q n=>b2 b ob q (back b ob q n),fun b ob q n z=>noneH b (old b ob q) (b3 b ob q (back b ob q n) z),b4,fun b xs q=>?_,fun b ob u q=>?_,fun b pp pq q=>?_⟩
  ·replace q:zel (upd H a (.frz o (.own a))) X.H₀ b=_:=q
   unfold zel at q
   split at q
   ·cases q
   ·exact keepH _ _ (b5 b xs q)
  ·replace q:zel (upd H a (.frz o (.own a))) X.H₀ b=_:=q
   unfold zel at q
   split at q
   ·rename_i e;rw[← q];exact e
   ·exact keepH _ _ (b6 b ob u q)
  ·replace q:zel (upd H a (.frz o (.own a))) X.H₀ b=_:=q
   unfold zel at q
   split at q
   ·cases q
   ·exact keepH _ _ (b7 b pp pq q)
 ·obtain⟨p1,p2,p3⟩:=I.pin p hp
  exact⟨p1,noneH _ (f5 p hp) p2,p3⟩
 ·by_cases z:b=a
  ·subst z
   rw[zab] at q;cases q
   exact⟨h1,⟨_,h1⟩⟩
  ·rw[zaf z] at q
   exact(I.hok b u q).stay (fun c' u' _ r=>r) (fun c' r=>keepH _ _ r) (fun c' xs r=>keepH _ _ r) fun c' ob r=>keepH _ _ r
theorem Inv.leave {σ':St}{H':Hp}{s':Shared}{o:Obj} (hex:X.ex=[]) (I:Inv X pins σ H s) (fp:zdf X pins H a) (J:Inv (X.hnd a (zel (upd H a (.frz o (.own a))) X.H₀)) pins σ' H' s'):Inv X pins σ' H' s':=by
 obtain⟨f0,f1,f2,f3,f4,f5⟩:=fp
 have f3':X.s₀.heap.objs.size≤a:=by
  rcases f3 with z|z
  ·rw[hex] at z;cases z
  ·exact z
 have na:∀ b u,H b=some u→b≠a:=fun b u q=>zai q f0
 have old:∀ b ob,X.s₀.heap.get? b=some ob→b≠a:=fun b ob q=>Nat.ne_of_lt (Nat.lt_of_lt_of_le (Heap.lt_size q) f3')
 have e1:∀ b ob,X.s₀.heap.get? b=some ob→X.H₀ b=none→zel (upd H a (.frz o (.own a))) X.H₀ b=none:=fun b ob q n=>by
  have hb:H b=none:=I.base.free b ob q n (by rw[hex];simp)
  rw[zc7 fun o' u' q'=>by rw[zaf (old b ob q),hb] at q';cases q'];exact n
 obtain⟨b1,b2,b3,b4,b5,b6,b7⟩:=J.base
 refine { J with ok:=I.ok,base:=⟨fun b ob q n=>b1 b ob q (e1 b ob q n),fun b ob q n=>b2 b ob q (e1 b ob q n),fun b ob q n=>b3 b ob q (e1 b ob q n),b4,fun b xs q=>b5 b xs ?_,fun b ob u q=>b6 b ob u ?_,fun b pp pq q=>b7 b pp pq ?_⟩ }
 ·have h:=I.base.tups b xs q
  show zel _ _ _=_
  rw[zc7 fun o' u' q'=>by rw[zaf (na _ _ h),h] at q';cases q'];exact q
 ·have h:=I.base.frzs b ob u q
  exact zem (by rw[zaf (na _ _ h)];exact h)
 ·have h:=I.base.tbls b pp pq q
  show zel _ _ _=_
  rw[zc7 fun o' u' q'=>by rw[zaf (na _ _ h),h] at q';cases q'];exact q
theorem zd4 {M:Model}{A:Around}{E:Value→Shared→Prop}{Q:Bool→Shared→Prop}{K:PySem.W.Frag}{e C D:Addr}{oe:Obj}{b:Bool} (X:K.In s.heap) (he:s.heap.get? e=some oe) (hc:oe.cls=.ref C) (hb:PySem.W.mroIn K C (.ref D)=some b)
  (hB:PySem.W.mroIn K D (.type "BaseException")=some true) (hT:PySem.W.typeIn K (.ref D)=some (.type "type")) (fin:Q b s):wpAny M A (excMatches (.ref e) (.ref D)) Q E s:=by
 have L1:=PySem.W.looks_typeIn (M:=M) X hT
 have L2:=PySem.W.looks_mroIn (M:=M) X hB
 have L3:=PySem.W.looks_mroIn (M:=M) X hb
 have L4:PySem.W.Looks M s.heap (isType (.ref D)) true:=by
  obtain⟨cd,h1,_⟩:=Option.bind_eq_some_iff.mp hB
  unfold PySem.W.clsIn at h1
  split at h1
  ·rename_i c1 d1 e1 s1 at1
   intro A' Q' E' s' k q
   unfold isType loadHead
   exact wpAny_bind (wpAny_loadPart (k _ _ (X _ _ at1)) (wpAny_pure q))
  ·cases h1
 have L5:PySem.W.Looks M s.heap (isInstance (.ref D) (.type "tuple")) false:=L1.andThen (PySem.W.Looks.of_pure tc_notTuple)
 have L6:PySem.W.Looks M s.heap (typeOf (.ref e)) (.ref C):=(PySem.W.Looks.ld he).andThen (by rw[hc];exact .now)
 have L7:PySem.W.Looks M s.heap (isExcClass (.ref D)) true:=L4.andThen L2
 unfold excMatches
 refine wpAny_bind (L5.here ?_)
 simp only[Bool.false_eq_true,if_false]
 refine wpAny_bind (wpAny_pure (wpAny_bind ?_))
 simp only[List.forIn_cons,List.forIn_nil]
 refine wpAny_bind (wpAny_bind (L7.here ?_))
 simp only[Bool.not_true,Bool.false_eq_true,if_false]
 refine wpAny_pure (wpAny_pure (wpAny_bind (L6.here (wpAny_bind (wpAny_bind (wpAny_bind (L3.here ?_)))))))
 cases b with
 | true=>
  simp only[if_true]
  exact wpAny_pure (wpAny_pure (wpAny_pure fin))
 | false=>
  simp only[Bool.false_eq_true,if_false]
  exact wpAny_pure (wpAny_pure (wpAny_pure fin))
theorem zcy {M:Model}{A:Around}{E:Value→Shared→Prop}{i:Nat}{n:Str}{pos:Pos}{Q:Unit→Shared→Prop} (I:Inv X pins σ H s) (hN:X.N.Nodup) (hi:X.N[i]?=some n) (hk:X.env.kindOf n=some .local)
  (fin:∀ s',Inv X pins (σ.set i none) H s'→Q () s'):wpAny M A (do bindName X.env n .none;unbindBehindTheSuite X.env n pos) Q E s:=by
 obtain⟨m,hn,hl⟩:=id I.loc
 have hcls:(X.env.scope.kind == .class || (X.env.scope.kind == .module && X.env.locals != X.env.globals))=false:=by rw[I.ok.kind];rfl
 obtain⟨oL,_,_,hoL,_⟩:=id hn
 refine wpAny_nameGoes_keeps hk hn hcls fun h' v hn' hs=>fin _ ?_
 have lo:∀ b o,X.s₀.heap.get? b=some o→b≠X.env.locals:=fun b o e=>Nat.ne_of_lt (Nat.lt_of_lt_of_le (Heap.lt_size e) I.ok.above)
 refine { ok:=I.ok,os:=I.os,bare:=I.bare,base:=⟨fun b o e n hb hx=>(hs.2 b (lo b o e)).trans (I.base.keep b o e n hb hx),fun b o e n hb hx=>?_,I.base.free,fun b o e hx=>?_,I.base.tups,I.base.frzs,I.base.tbls⟩,loc:=⟨_,hn',fun j y v' e1 e2 e3=>?_⟩,cell:=fun y c e=>?_,free:=I.free,freeC:=I.freeC,pin:=fun p hp=>?_,hok:=fun b ob e=>?_,len:=by simpa using I.len }
 ·obtain⟨sl,e1⟩:=I.base.slot b o e n hb hx
  exact⟨sl,(hs.2 b (lo b o e)).trans e1⟩
 ·obtain⟨o',e1⟩:=I.base.there b o e hx
  exact⟨o',(hs.2 b (lo b o e)).trans e1⟩
 ·have hj:j≠i:=fun z=>by
   subst z
   have hiσ:j<σ.length:=by rw[I.len];exact(List.getElem?_eq_some_iff.mp hi).1
   rw[List.getElem?_set_self hiσ] at e2
   cases e2
  rw[List.getElem?_set_ne (Ne.symm hj)] at e2
  obtain⟨u',r',q⟩:=hl j y v' e1 e2 e3
  refine⟨u',r',?_⟩
  rcases q with⟨k,e⟩|⟨k,c,e,z⟩
  ·refine .inl ⟨k,?_⟩
   have:y≠n:=fun e=>hj (zef hN e1 (e ▸ hi))
   simp[this,e]
  ·exact .inr ⟨k,c,e,z.sameBut hs (I.cne y c e)⟩
 ·obtain⟨w',z⟩:=I.cell y c e
  exact⟨w',z.sameBut hs (I.cne y c e)⟩
 ·obtain⟨e,n,ne,nf,d⟩:=I.pin p hp
  exact⟨(hs.2 p.1 ne).trans e,n,ne,nf,d⟩
 ·refine(I.hok b ob e).stay (fun c w' hc q=>(hs.2 c ?_).trans q) (fun _ q=>q) fun _ _ q=>q
  rintro rfl
  rcases hc with hc|hc
  ·rw[← hc,I.free] at e;cases e
  ·rw[I.free] at hc;cases hc
end
abbrev Hd1:=Addr×Option Nat×TS
def ze7.as (D:ze7) (i:Nat):ze7:=⟨fun σ H=>D.nx (σ.set i none) H,D.rt,fun σ H=>D.bk (σ.set i none) H,fun σ H=>D.ct (σ.set i none) H⟩
def zih (K:PySem.W.Frag):List Hd1→ze7→RK
 | [],_,_,_,_,_=>False
 | (D,i,t)::r,En,σ,c,dd,H=>∃ C b,c=.ref C∧PySem.W.mroIn K C (.ref D)=some b∧if b=true then ∀ a o,H a=none→o.cls=c→o.dict=dd→(∃ vs,o.data=.fields vs) →
   (match i with|none=>t En σ (upd H a (.frz o (.own a)))|some i=>t (En.as i) (σ.set i (some (.ref a))) (upd H a (.frz o (.own a)))) else zih K r En σ c dd H
inductive PHs (X:Cx):List ExceptHandler→List Hd1→Prop where
 | nil:PHs X [] []
 | one {x:Str}{np pos:Pos}{b₀:Stmt}{su:List Stmt}{D:Addr}{t:TS}{hs:List ExceptHandler}{ts:List Hd1} (hg:Gl X x) (hm:X.mg x=some (.ref D)) (hB:PySem.W.mroIn X.K D (.type "BaseException")=some true) (hT:PySem.W.typeIn X.K (.ref D)=some (.type "type"))
   (hdb:(x == ("__debug__":Str))=false) (hb:∀ a H₀,PSs (X.hnd a H₀) (b₀::su) t) (r:PHs X hs ts):PHs X (.ExceptHandler (some (.Name x np)) none (b₀::su) pos::hs) ((D,none,t)::ts)
 | as_ {x n:Str}{i:Nat}{np pos:Pos}{b₀:Stmt}{su:List Stmt}{D:Addr}{t:TS}{hs:List ExceptHandler}{ts:List Hd1} (hg:Gl X x) (hm:X.mg x=some (.ref D)) (hB:PySem.W.mroIn X.K D (.type "BaseException")=some true) (hT:PySem.W.typeIn X.K (.ref D)=some (.type "type"))
   (hdb:(x == ("__debug__":Str))=false) (hN:X.N.Nodup) (hi:X.N[i]?=some n) (hk:X.env.kindOf n=some .local) (hb:∀ a H₀,PSs (X.hnd a H₀) (b₀::su) t) (r:PHs X hs ts):PHs X (.ExceptHandler (some (.Name x np)) (some n) (b₀::su) pos::hs) ((D,some i,t)::ts)
section
variable {X:Cx}
theorem zfO {A:Around}{E:Value→Shared→Prop}{pins:List (Addr×Obj)}{s:Shared}{σ:St}{H:Hp}{x:Str}{u:Value}{pos:Pos}{Q:Value→Shared→Prop} (I:Inv X pins σ H s) (hg:Gl X x) (hm:X.mg x=some u) (h:Q u s)
  (hd:(x == ("__debug__":Str))=false):wpAny (model X.prog X.w) A (eval (.Name x pos) X.env) Q E s:=
 Calls.Name_function_global I.ok.kind hg (Calls.loadGlobal_global (by rw[I.ok.glob];exact I.mod.glob.keeps I.bk) hm h) hd
theorem SP.leave {pins:List (Addr×Obj)}{σ:St}{H:Hp}{s s':Shared}{a:Addr}{o:Obj}{D:ze7}{f:Flow} (hex:X.ex=[]) (I:Inv X pins σ H s) (fp:zdf X pins H a) (h:SP (X.hnd a (zel (upd H a (.frz o (.own a))) X.H₀)) pins D f s'):SP X pins D f s':=by
 cases f with
 | next=>obtain⟨σ',H',J,q⟩:=h;exact⟨σ',H',I.leave hex fp J,q⟩
 | brk=>obtain⟨σ',H',J,q⟩:=h;exact⟨σ',H',I.leave hex fp J,q⟩
 | cont=>obtain⟨σ',H',J,q⟩:=h;exact⟨σ',H',I.leave hex fp J,q⟩
 | ret u=>obtain⟨v,σ',H',J,q⟩:=h;exact⟨v,σ',H',I.leave hex fp J,q⟩
theorem SP.as_ {A:Around}{E:Value→Shared→Prop}{pins:List (Addr×Obj)}{s:Shared}{i:Nat}{n:Str}{pos:Pos}{D:ze7}{f:Flow} (hN:X.N.Nodup) (hi:X.N[i]?=some n) (hk:X.env.kindOf n=some .local) (h:SP X pins (D.as i) f s) :
  wpAny (model X.prog X.w) A (do bindName X.env n .none;unbindBehindTheSuite X.env n pos) (fun _ s'=>SP X pins D f s') E s:=by
 cases f with
 | next=>obtain⟨σ',H',J,q⟩:=h;exact zcy J hN hi hk fun s' J'=>⟨_,H',J',q⟩
 | brk=>obtain⟨σ',H',J,q⟩:=h;exact zcy J hN hi hk fun s' J'=>⟨_,H',J',q⟩
 | cont=>obtain⟨σ',H',J,q⟩:=h;exact zcy J hN hi hk fun s' J'=>⟨_,H',J',q⟩
 | ret u=>obtain⟨v,σ',H',J,q⟩:=h;exact zcy J hN hi hk fun s' J'=>⟨v,_,H',J',q⟩
theorem zhb {hs:List ExceptHandler}{ts:List Hd1} (hex:X.ex=[]) (P:PHs X hs ts):∀ {pins:List (Addr×Obj)}{σ:St}{H:Hp}{s:Shared}{a:Addr}{c:Value}{dd:Option Addr}{T:Addr}{D:ze7},Inv X pins σ H s→Exc X pins H s.heap a c dd (some (T,.none))→zih X.K ts D σ c dd H →
  wpAny (model X.prog X.w) X.A (handleBy (.ref a) X.env hs) (SP X pins D) X.xe s:=by
 induction P with
 | nil=>intro pins σ H s a c dd T D I x h;exact h.elim
 | @one x np pos b₀ su Dc t hs ts hg hm hB hT hdb hb r ih=>
  intro pins σ H s a c dd T D I x h
  obtain⟨C,b,rfl,hmro,h⟩:=h
  obtain⟨o,vs,h1,hc,_⟩:=x.at_.ob
  refine wpAny_handleBy_cons (codeAny_handlers_test (zfO I hg hm (zd4 I.kIn h1 hc hmro hB hT ?_) hdb)) (by intro q;cases q)
  cases b with
  | false=>exact ih I x (by simpa using h)
  | true=>
   refine codeAny_handlers_suite (I.land x fun s1 I1 x1=>?_)
   obtain⟨o1,g1,g2,g3,J⟩:=I1.enter hex x1
   rw[if_pos rfl] at h
   refine wpAny_mono (hb a _ pins s1 σ _ D J (h a o1 x1.fp.1 g1 g2 g3)) (fun f s2 z=>z.leave hex I1 x1.fp) fun _ _ z=>z.elim
 | @as_ x n i np pos b₀ su Dc t hs ts hg hm hB hT hdb hN hi hk hb r ih=>
  intro pins σ H s a c dd T D I x h
  obtain⟨C,b,rfl,hmro,h⟩:=h
  obtain⟨o,vs,h1,hc,_⟩:=x.at_.ob
  refine wpAny_handleBy_cons (codeAny_handlers_test (zfO I hg hm (zd4 I.kIn h1 hc hmro hB hT ?_) hdb)) (by intro q;cases q)
  cases b with
  | false=>exact ih I x (by simpa using h)
  | true=>
   refine codeAny_handlers_suite_as (I.land x fun s1 I1 x1=>?_)
   obtain⟨o1,g1,g2,g3,J⟩:=I1.enter hex x1
   rw[if_pos rfl] at h
   refine zc4 (X:=X.hnd a _) J hN hi (.inl hk) (v:=.ref a) rfl (fun s2 J2=>?_) (.inr hk)
   exact wpAny_mono (hb a _ pins s2 _ _ (D.as i) J2 (h a o1 x1.fp.1 g1 g2 g3)) (fun f s3 z=>(z.leave hex I1 x1.fp).as_ hN hi hk) fun _ _ z=>z.elim
def tTry (K:PySem.W.Frag) (ts:List Hd1) (tb:RK→TS) (te:TS):TS:=fun D σ H=>tb (zih K ts D) { D with nx:=fun σ H=>te D σ H } σ H
theorem ziU {body orelse:List Stmt}{h₀:ExceptHandler}{hs:List ExceptHandler}{pos:Pos}{ts:List Hd1}{tb:RK→TS}{te:TS} (B:Body X) (hex:X.ex=[]) (P:PHs X (h₀::hs) ts)
  (hb:∀ (pn:List (Addr×Obj)) (E:Value→Shared→Prop) (R:RK),PX (X.tr pn E) R→PassesOwn (model X.prog X.w) X.A X.env E→PSs (X.tr pn E) body (tb R)) (he:PSs X orelse te):PS X (.Try body (h₀::hs) orelse [] pos) (tTry X.K ts tb te):=by
 intro pins s σ H D I h
 refine wpAny_Try_except ?_
 have to:∀ {pins' σ' H' s'},Inv X pins σ' H' s'→Inv (X.tr (X.pn++pins) pins') [] σ' H' s':=fun {pins' σ' H' s'} J=>{ J with pin:=fun p hp=>J.pin p (by simpa using hp),ok:={ J.ok with } }
 have fro:∀ {E' pins' σ' H' s'},Inv (X.tr (X.pn++pins) E') pins' σ' H' s'→Inv X pins σ' H' s':=fun {E' pins' σ' H' s'} J=>{ J with pin:=fun p hp=>J.pin p (List.mem_append_left _ hp),ok:={ J.ok with } }
 refine wpAny_mono (hb (X.pn++pins) (fun e s₁=>wpAny (model X.prog X.w) X.A (noteFrame e X.env) (fun _ s₂=>wpAny (model X.prog X.w) X.A (setFlight e none) (fun _ s₃=>wpAny (model X.prog X.w) X.A (handleBy e X.env (h₀::hs)) (SP X pins D) X.xe s₃) X.xe s₂) X.xe s₁)
  (zih X.K ts D) ?_ PassesOwn.looking [] s σ H _ (to I) h) (fun f s1 z=>?_) fun _ _ z=>z
 ·intro pins' σ' H' s' a c dd tb J x hR
  have J':=fro J
  have x':Exc X pins H' s'.heap a c dd (tb.map fun T=>(T,Value.none)):=⟨⟨x.fp.1,x.fp.2.1,x.fp.2.2.1,x.fp.2.2.2.1,x.fp.2.2.2.2.1,fun p hp=>x.fp.2.2.2.2.2 p (List.mem_append_left _ hp)⟩,fun p q=>by
   have y:=x.fpT p q
   exact⟨y.1,y.2.1,y.2.2.1,y.2.2.2.1,y.2.2.2.2.1,fun p hp=>y.2.2.2.2.2 p (List.mem_append_left _ hp)⟩,x.at_⟩
  refine J'.note B x' ziT fun s2 T I2 x2=>?_
  exact I2.land x2 fun s3 I3 x3=>zhb hex P I3 x3 hR
 ·cases f with
  | next=>obtain⟨σ',H',J,q⟩:=z;exact he pins s1 σ' H' D (fro J) q
  | brk=>obtain⟨σ',H',J,q⟩:=z;exact⟨σ',H',fro J,q⟩
  | cont=>obtain⟨σ',H',J,q⟩:=z;exact⟨σ',H',fro J,q⟩
  | ret u=>obtain⟨v,σ',H',J,q⟩:=z;exact⟨v,σ',H',fro J,q⟩
end
end L2
namespace L2
open PySem PySem.Spec PyProof.Rows
structure zfP (K:PySem.W.Frag) (x qual:Str) (st:Stmt) (f:Addr) (fd:FuncData):Prop where
 ex:∃ (oc:Value) (od:Option Addr) (dV kV doc pm:Value) (an:Option Addr) (cdv ct:Value) (osl:Array (Option Value)),
  fd=PySem.W.fnOf x qual (zdn st) (zci st) (zag st) dV kV doc pm an cdv ct∧K.lookup f=some ⟨oc,od,.func fd,osl⟩∧PySem.W.codeIn K cdv qual=true
theorem zdu {K:PySem.W.Frag}{x qual:Str}{st:Stmt}{f:Addr}{oc:Value}{od an:Option Addr}{osl:Array (Option Value)}{dV kV doc pm cdv ct:Value} (l:K.lookup f=some ⟨oc,od,.func (PySem.W.fnOf x qual (zdn st) (zci st) (zag st) dV kV doc pm an cdv ct),osl⟩)
  (c:PySem.W.codeIn K cdv qual=true):zfP K x qual st f (PySem.W.fnOf x qual (zdn st) (zci st) (zag st) dV kV doc pm an cdv ct):=⟨⟨oc,od,dV,kV,doc,pm,an,cdv,ct,osl,rfl,l,c⟩⟩
section
variable {P:Program}{w:World}{K:PySem.W.Frag}{mg:Str→Option Value}{base:Heap}
theorem zfP.ok {x qual:Str}{st:Stmt}{f:Addr}{fd:FuncData}{N ps:List Str}{k:Nat}{sp:Sp} (F:zfP K x qual st f fd) (S:zan N ps (zag st)) (len:∀ vs H Q E,sp vs H Q E→vs.length=ps.length)
  (hbody:∀ (cdv:Value) (A:Around) (outer:List Env) (s:Shared) (H:Hp) (vs:List V) (Q:VK) (E:XK),zb7 k (A.deeper (envOfC qual (zag st) s.heap.objs.size f cdv))→sp vs H Q E →
   ∃ t,PSs (zhZ CX0 P w K mg base N qual (zag st) f cdv A outer s H E).nox (zci st) t∧t { nx:=fun _ H'=>Q .non H',rt:=Q } (zei N vs) H):zc5 P w K mg base CX0 (k + 1) f fd ps sp:=by
 obtain⟨oc,od,dV,kV,doc,pm,an,cdv,ct,osl,rfl,lk,hcd⟩:=F.ex
 refine fn_of lk hcd S len fun A outer s H vs Q E hr hsp=>?_
 obtain⟨t,h,q⟩:=hbody cdv A outer s H vs Q E hr hsp
 exact⟨t,h.nox,q⟩
theorem zfP.okX {x qual:Str}{st:Stmt}{f:Addr}{fd:FuncData}{N ps:List Str}{k:Nat}{sp:Sp} (F:zfP K x qual st f fd) (S:zan N ps (zag st)) (len:∀ vs H Q E,sp vs H Q E→vs.length=ps.length)
  (hbody:∀ (cdv:Value) (A:Around) (outer:List Env) (s:Shared) (H:Hp) (vs:List V) (Q:VK) (E:XK),zb7 k (A.deeper (envOfC qual (zag st) s.heap.objs.size f cdv))→sp vs H Q E →
   ∃ t,PSs (zhZ (CXe P w) P w K mg base N qual (zag st) f cdv A outer s H E) (zci st) t∧t { nx:=fun _ H'=>Q .non H',rt:=Q } (zei N vs) H):zc5 P w K mg base (CXe P w) (k + 1) f fd ps sp:=by
 obtain⟨oc,od,dV,kV,doc,pm,an,cdv,ct,osl,rfl,lk,hcd⟩:=F.ex
 exact fn_of lk hcd S len fun A outer s H vs Q E hr hsp=>hbody cdv A outer s H vs Q E hr hsp
end
structure Def (K:PySem.W.Frag) (mg:Str→Option Value) (x:Str) (st:Stmt) (ps:List Str) (dvs:List V):Prop where
 ex:∃ f fd ds,zfP K x x st f fd∧mg x=some (.ref f)∧PySem.W.keepIn K (.ref f)=true∧zbO K fd ps ds∧zaK dvs ds
structure Met (K:PySem.W.Frag) (C:Addr) (m qual:Str) (st:Stmt) (ps:List Str) (dvs:List V):Prop where
 ex:∃ f fd ds,zfP K m qual st f fd∧Meth K C m f∧zbO K fd ps ds∧zaK dvs ds
structure Ini (K:PySem.W.Frag) (mg:Str→Option Value) (C:Addr) (x qual:Str) (st:Stmt) (ps:List Str):Prop where
 ex:∃ f fd,zfP K "__init__" qual st f fd∧Mk K C f∧mg x=some (.ref C)∧zbO K fd ps []
structure XIni (K:PySem.W.Frag) (mg:Str→Option Value) (C:Addr) (x qual:Str) (st:Stmt) (ps:List Str):Prop where
 ex:∃ f fd,zfP K "__init__" qual st f fd∧XCI K C f∧mg x=some (.ref C)∧zbO K fd ps []
structure Cal (P:Program) (w:World) (K:PySem.W.Frag) (mg:Str→Option Value) (base:Heap) (CX:CXT) (k:Nat) (x:Str) (ps:List Str) (dvs:List V) (sp:Sp):Prop where
 ex:∃ f fd ds,zc5 P w K mg base CX k f fd ps sp∧mg x=some (.ref f)∧PySem.W.keepIn K (.ref f)=true∧zbO K fd ps ds∧zaK dvs ds
structure zkl (P:Program) (w:World) (K:PySem.W.Frag) (mg:Str→Option Value) (base:Heap) (CX:CXT) (k:Nat) (C:Addr) (m:Str) (ps:List Str) (dvs:List V) (sp:Sp):Prop where
 ex:∃ f fd ds,zc5 P w K mg base CX k f fd ps sp∧Meth K C m f∧zbO K fd ps ds∧zaK dvs ds
structure CalI (P:Program) (w:World) (K:PySem.W.Frag) (mg:Str→Option Value) (base:Heap) (CX:CXT) (k:Nat) (C:Addr) (x:Str) (ps:List Str) (sp:Sp):Prop where
 ex:∃ f fd,zc5 P w K mg base CX k f fd ps sp∧Mk K C f∧mg x=some (.ref C)∧zbO K fd ps []
structure zjG (P:Program) (w:World) (K:PySem.W.Frag) (mg:Str→Option Value) (base:Heap) (CX:CXT) (k:Nat) (C:Addr) (x:Str) (ps:List Str) (sp:Sp):Prop where
 ex:∃ f fd,zc5 P w K mg base CX k f fd ps sp∧XCI K C f∧mg x=some (.ref C)∧zbO K fd ps []
section
variable {P:Program}{w:World}{K:PySem.W.Frag}{mg:Str→Option Value}{base:Heap}{CX:CXT}{k:Nat}{C:Addr}{x m qual:Str}{st:Stmt}{ps:List Str}{dvs:List V}{sp:Sp}
theorem Def.cal (D:Def K mg x st ps dvs) (h:∀ f fd,zfP K x x st f fd→zc5 P w K mg base CX k f fd ps sp):Cal P w K mg base CX k x ps dvs sp:=
 let ⟨f,fd,ds,F,r⟩:=D.ex;⟨f,fd,ds,h f fd F,r⟩
theorem Met.cal (D:Met K C m qual st ps dvs) (h:∀ f fd,zfP K m qual st f fd→zc5 P w K mg base CX k f fd ps sp):zkl P w K mg base CX k C m ps dvs sp:=
 let ⟨f,fd,ds,F,r⟩:=D.ex;⟨f,fd,ds,h f fd F,r⟩
theorem Ini.cal (D:Ini K mg C x qual st ps) (h:∀ f fd,zfP K "__init__" qual st f fd→zc5 P w K mg base CX k f fd ps sp):CalI P w K mg base CX k C x ps sp:=
 let ⟨f,fd,F,r⟩:=D.ex;⟨f,fd,h f fd F,r⟩
theorem XIni.cal (D:XIni K mg C x qual st ps) (h:∀ f fd,zfP K "__init__" qual st f fd→zc5 P w K mg base CX k f fd ps sp):zjG P w K mg base CX k C x ps sp:=
 let ⟨f,fd,F,r⟩:=D.ex;⟨f,fd,h f fd F,r⟩
end
def tCallR (sp:Sp) (dvs:List V) (R:RK) (t:TA):TE:=fun σ H Q=>t σ H fun vs H1=>sp (vs++dvs) H1 Q (R σ)
section
variable {X:Cx}{CX:CXT}{k:Nat}{C:Addr}{ps:List Str}{sp:Sp}{dvs:List V}{R:RK}{x m:Str}{p pos apos:Pos}{e o:Expr}{es:List Expr}{ta:TE}{t:TA}
theorem zjH {f:Addr}{fd:FuncData}{ds:List Value}{pins:List (Addr×Obj)}{σ:St}{H:Hp}{s:Shared}{Q:VK}{us:List Value}{vs:List V} (F:zc5 X.prog X.w X.K X.mg X.base (CXe X.prog X.w) k f fd ps sp) (hp:PX X R) (hr:zb7 k X.A)
  (hb:zbO X.K fd ps ds) (hd:zaK dvs ds) (I:Inv X pins σ H s) (r:zaK vs us) (h:sp (vs++dvs) H Q (R σ)):wpAny (model X.prog X.w) X.A (call (.ref f) us) (EP X pins σ Q) X.xe s:=by
 have r2:zaK (vs++dvs) (us++ds):=r.append hd
 have hl:(us++ds).length=ps.length:=by rw[← r2.length];exact F.len _ _ _ _ h
 refine wpAny_call (codeAny_mono (F.run X.A X.stack s H ⟨us,[]⟩ (us++ds) (vs++dvs) Q (R σ) hr I.env0 (hb s us I.kIn hl) r2 h) fun r s' hq=>?_)
 cases r with
 | error e=>exact zjA hp pins σ H s e s' I hq
 | ok fl=>cases fl <;> first | exact I.after hq | exact False.elim hq
theorem zaE (c:Cal X.prog X.w X.K X.mg X.base CX0 k x ps dvs sp) (hr:zb7 k X.A) (hg:Gl X x) (ha:PA X (e::es) t) (hdb:(x == ("__debug__":Str))=false:=by decide)
  (he:starEach (e::es) X.env=(false,eval e X.env)::starEach es X.env:=by rfl) (hpl:(backTo pos (starEach es X.env)).any (·.1)=false:=by rfl):PE X (.Call (.Name x p) (e::es) [] pos) (tCall sp dvs E0 t):=by
 obtain⟨f,fd,ds,F,hm,hk,hb,hd⟩:=c.ex
 exact zjm F hr hg hm hk hb hd zjz ha hdb he hpl
theorem zhc (c:Cal X.prog X.w X.K X.mg X.base (CXe X.prog X.w) k x ps dvs sp) (hp:PX X R) (hr:zb7 k X.A) (hg:Gl X x) (ha:PA X (e::es) t) (hdb:(x == ("__debug__":Str))=false:=by decide)
  (he:starEach (e::es) X.env=(false,eval e X.env)::starEach es X.env:=by rfl) (hpl:(backTo pos (starEach es X.env)).any (·.1)=false:=by rfl):PE X (.Call (.Name x p) (e::es) [] pos) (tCallR sp dvs R t):=by
 obtain⟨f,fd,ds,F,hm,hk,hb,hd⟩:=c.ex
 intro pins s σ H Q I h
 refine wpAny_Call_Name_kw (zcL I hg hm ?_ hdb)
 refine PySem.W.callWith_K (h₀:=X.base) I.ok.mod.kin hk (thn (ha pos pins s σ H _ I h) fun us s1=>L2.ex5 fun vs H1 I1 r q=>⟨I1.kIn,?_⟩) he hpl
 exact zjH F hp hr hb hd I1 r q
theorem zaq {pl:Sem Bool} (he:PE X o ta) (cl:Cls X.K C) (c:zkl X.prog X.w X.K X.mg X.base CX0 k C m ps dvs sp) (hr:zb7 k X.A)
  (ht:eval (.Call (.Attribute o m apos) [] [] pos) X.env=(do
   let ov ← eval o X.env
   standAt apos.atName
   let (f,first) ← holding [ov] (getMethod ov m pl)
   callWith pos f first (backTo pos (starEach [] X.env)) (backToKw pos (keywordEach [] X.env))):=by rfl) :
  PE X (.Call (.Attribute o m apos) [] [] pos) (zeh C m sp dvs E0 ta zhY):=by
 obtain⟨f,fd,ds,F,hm,hb,hd⟩:=c.ex
 exact zh9 (pl:=pl) he cl hm F hr hb hd zjz ht
theorem zhd (c:CalI X.prog X.w X.K X.mg X.base CX0 k C x ps sp) (hr:zb7 (k + 1) X.A) (hg:Gl X x) (ha:PA X (e::es) t) (hdb:(x == ("__debug__":Str))=false:=by decide)
  (he:starEach (e::es) X.env=(false,eval e X.env)::starEach es X.env:=by rfl) (hpl:(backTo pos (starEach es X.env)).any (·.1)=false:=by rfl):PE X (.Call (.Name x p) (e::es) [] pos) (tMake C sp [] E0 t):=by
 obtain⟨f,fd,F,M,hm,hb⟩:=c.ex
 exact zjn M F hr hg hm hb .nil zjz ha hdb he hpl
theorem zhe {np cpos:Pos} (hp:PX X R) (c:zjG X.prog X.w X.K X.mg X.base CX0 k C x ps sp) (hr:zb7 (k + 1) X.A) (hg:Gl X x) (ha:PA X (e::es) t)
  (hdb:(x == ("__debug__":Str))=false:=by decide) (he:starEach (e::es) X.env=(false,eval e X.env)::starEach es X.env:=by rfl) (hpl:(backTo cpos (starEach es X.env)).any (·.1)=false:=by rfl) :
  PS X (.Raise (some (.Call (.Name x np) (e::es) [] cpos)) none pos) (zg7 C sp [] R t):=by
 obtain⟨f,fd,F,c',hm,hb⟩:=c.ex
 exact zg9 hp c' F hr hb .nil (fun _ _ _ _ _ _ _ _ z=>z.elim) hg hm ha hdb he hpl
theorem zdv {i:Int} (hg:Gl X x) (hm:∃ t,X.mg x=some (.int i t)) (hd:(x == ("__debug__":Str))=false:=by decide):PE X (.Name x pos) (tC (.int i)):=let ⟨t,h⟩:=hm;zfc hg h ⟨t,rfl⟩ hd
theorem zhf {i:Str} (hg:Gl X x) (hm:∃ t,X.mg x=some (.str i t)) (hd:(x == ("__debug__":Str))=false:=by decide):PE X (.Name x pos) (tC (.str i)):=let ⟨t,h⟩:=hm;zfc hg h ⟨t,rfl⟩ hd
theorem zhg {n:String} (hg:Gl X x) (hm:X.mg x=none) (hv:bootBuiltins x=some (.type n)) (hn:x≠"__name__":=by decide) (hd:(x == ("__debug__":Str))=false:=by decide):PE X (.Name x pos) (tC (.ty n)):=zjd hg hm hv rfl hn hd
end
end L2
namespace L2
open PySem PySem.Spec PyProof.Rows
def HdC (A:Around) (cs:List Addr):Prop:=(A.handled=none∧cs=[])∨∃ a r,cs=a::r∧A.handled=some (.ref a)
theorem Hd.chain {A:Around}{h:Heap} (x:Hd A h):∃ cs,HdC A cs∧Chn h cs:=by
 rcases x with e|⟨a,cs,e,c⟩
 ·exact⟨[],.inl ⟨e,rfl⟩,List.nodup_nil,fun j a z=>by simp at z⟩
 ·exact⟨a::cs,.inr ⟨a,cs,rfl,e⟩,c⟩
theorem HdC.hd {A:Around}{h:Heap}{cs:List Addr} (x:HdC A cs) (c:Chn h cs):Hd A h:=by
 rcases x with⟨e,rfl⟩|⟨a,r,rfl,e⟩
 ·exact .inl e
 ·exact .inr ⟨a,r,e,c⟩
theorem Chn.but {h h':Heap}{cs:List Addr}{it:Addr} (c:Chn h cs) (hI:it∉cs) (k:∀ b o,b≠it→h.get? b=some o→h'.get? b=some o):Chn h' cs:=
 c.mono fun b o hb e=>k b o (fun z=>hI (z ▸ hb)) e
section
variable {prog:Program}{w:World}{A:Around}{E:Value→Shared→Prop}{s:Shared}{cs:List Addr}
theorem zd5 (hc:HdC A cs) (I ax:Addr) (hne:ax≠I) (hI:I∉cs) (items:Array Value) :
  Walks prog w A I (I::ax::cs) [I] items.size (fun i v=>items[i]?=some v) (fun i h=>h.IsListIter I ax i∧h.IsList ax items∧Chn h cs) where
 sub:=fun b hb=>by simp at hb;simp[hb]
 frame:=fun _ _ _ st hk=>⟨st.1.at fun o e=>hk I (by simp) o e,st.2.1.at fun o e=>hk ax (by simp) o e,st.2.2.mono fun b o hb e=>hk b (by simp[hb]) o e⟩
 item:=fun i s Q E hi st hQ=>by
  refine wpAny_pyNext_list_item st.1 st.2.1 (x:=items[i]) (by simp[hi]) fun h' hit' hs'=>?_
  exact hQ _ h' s.toks (by simp[hi]) ⟨hit',st.2.1.extBut hs'.extBut hne,st.2.2.but hI hs'.extBut⟩ fun b o hb e=>hs'.extBut b o (fun h=>hb (by simp[h])) e
 done:=fun s Q E st hQ=>zew (hc.hd st.2.2) st.1 st.2.1 (by simp) fun h' he'=>hQ h' s.toks fun b o hb e=>he' b o (fun h=>hb (by simp[h])) e
 self:=fun _ _ _ _ st hQ=>wpAny_pyIter_listiter st.1 hQ
theorem zgf {it:Addr}{x:Str}{t:Tok}{i:Nat}{Q:Option Value→Shared→Prop} (hd:Hd A s.heap) (hit:s.heap.IsStrIter it "str_ascii_iterator" x t i) (hx:x.cps[i]?=none)
  (hQ:∀ h',Heap.ExtBut it s.heap h'→Q none { s with heap:=h' }):wpAny (model prog w) A (pyNext (.ref it)) Q E s:=by
 obtain⟨o,ho,hc,hdat⟩:=id hit
 unfold pyNext
 refine wpAny_bind (wpAny_attempt (wpAny_callSpecial?_slot (name:=Str.ofString "__next__") hit.typeIs F.slot_str_ascii_iterator_next (wpAny_call_entry F.slot_str_ascii_iterator_next hit.typeIs F.entry_str_ascii_iterator_next ?_ (F.args_str_ascii_iterator_next_1 _))))
 refine(show wpAny _ _ (field (.ref it) 0 >>= _) _ _ s from wpAny_bind (wpAny_field ho hdat (x:=.str x t) rfl ?_))
 refine(show wpAny _ _ (field (.ref it) 1 >>= _) _ _ s from wpAny_bind (wpAny_field ho hdat (x:=.int i 0) rfl ?_))
 simp only[Int.toNat_natCast,hx]
 refine wpAny_bind (wpAny_rule (wpAny_bind (wpAny_setField ho hdat (by simp) (wpAny_bind (wpAny_letGo ?_)))))
 refine zce (A:=A.in1) (hd.but ho (fun vs q=>.inl (by rw[hdat] at q;cases q;simp)) (Heap.SameBut.update ..).extBut) fun h' e k' ⟨o',e',c'⟩=>?_
 exact wpAny_bind (wpAny_isInstance (T:="StopIteration") (b:=true) ⟨o',e',c'⟩ isSubtype_stop (wpAny_pure (hQ h' fun b q hb hq=>k' b q ((Heap.SameBut.update ..).extBut b q hb hq))))
theorem zhh {it:Addr}{x:Str}{t:Tok}{i:Nat}{Q:Option Value→Shared→Prop} (hd:Hd A s.heap) (hit:s.heap.IsStrIter it "str_iterator" x t i) (hx:x.cps[i]?=none)
  (hQ:∀ h',Heap.ExtBut it s.heap h'→Q none { s with heap:=h' }):wpAny (model prog w) A (pyNext (.ref it)) Q E s:=by
 obtain⟨o,ho,hc,hdat⟩:=id hit
 unfold pyNext
 refine wpAny_bind (wpAny_attempt (wpAny_callSpecial?_slot (name:=Str.ofString "__next__") hit.typeIs F.slot_str_iterator_next (wpAny_call_entry F.slot_str_iterator_next hit.typeIs F.entry_str_iterator_next ?_ (F.args_str_iterator_next_1 _))))
 refine(show wpAny _ _ (field (.ref it) 0 >>= _) _ _ s from wpAny_bind (wpAny_field ho hdat (x:=.str x t) rfl ?_))
 refine(show wpAny _ _ (field (.ref it) 1 >>= _) _ _ s from wpAny_bind (wpAny_field ho hdat (x:=.int i 0) rfl ?_))
 simp only[Int.toNat_natCast,hx]
 refine wpAny_bind (wpAny_rule (wpAny_bind (wpAny_setField ho hdat (by simp) (wpAny_bind (wpAny_letGo ?_)))))
 refine zce (A:=A.in1) (hd.but ho (fun vs q=>.inl (by rw[hdat] at q;cases q;simp)) (Heap.SameBut.update ..).extBut) fun h' e k' ⟨o',e',c'⟩=>?_
 exact wpAny_bind (wpAny_isInstance (T:="StopIteration") (b:=true) ⟨o',e',c'⟩ isSubtype_stop (wpAny_pure (hQ h' fun b q hb hq=>k' b q ((Heap.SameBut.update ..).extBut b q hb hq))))
def zeS (h:Heap) (I:Addr) (x:Str) (t:Tok) (i:Nat):Prop:=h.IsStrIter I "str_ascii_iterator" x t i∨h.IsStrIter I "str_iterator" x t i
theorem zeS.keep {h h':Heap}{I:Addr}{x:Str}{t:Tok}{i:Nat} (y:zeS h I x t i) (k:∀ o,h.get? I=some o→h'.get? I=some o):zeS h' I x t i:=by
 rcases y with⟨o,e,r⟩|⟨o,e,r⟩
 ·exact .inl ⟨o,k o e,r⟩
 ·exact .inr ⟨o,k o e,r⟩
theorem zhi {it:Addr}{x:Str}{t:Tok}{i c:Nat}{Q:Option Value→Shared→Prop} (hit:zeS s.heap it x t i) (hx:x.cps[i]?=some c)
  (hQ:∀ h' u tk,zeS h' it x t (i + 1)→Heap.SameBut it s.heap h'→Q (some (.str ⟨#[c]⟩ u)) { s with heap:=h',toks:=tk }):wpAny (model prog w) A (pyNext (.ref it)) Q E s:=by
 rcases hit with y|y
 ·exact wpAny_pyNext_ascii_item y hx fun h' y' hs=>hQ h' _ _ (.inl y') hs
 ·exact wpAny_pyNext_wide_item y hx fun h' y' hs=>hQ h' _ _ (.inr y') hs
theorem zii {it:Addr}{x:Str}{t:Tok}{i:Nat}{Q:Option Value→Shared→Prop} (hd:Hd A s.heap) (hit:zeS s.heap it x t i) (hx:x.cps[i]?=none)
  (hQ:∀ h',Heap.ExtBut it s.heap h'→Q none { s with heap:=h' }):wpAny (model prog w) A (pyNext (.ref it)) Q E s:=by
 rcases hit with y|y
 ·exact zgf hd y hx hQ
 ·exact zhh hd y hx hQ
theorem zhj {it l:Addr}{i:Nat} {items}{Q:Value→Shared→Prop} (hd:Hd A s.heap) (hit:s.heap.IsListIter it l i) (hl:s.heap.IsList l items) (hx:items[i]?=none)
  (hE:∀ h' e,Heap.ExtBut it s.heap h'→(∃ o,h'.get? e=some o∧o.cls=.type "StopIteration")→E (.ref e) { s with heap:=h' }):wpAny (model prog w) A (Builtin.SmallTypes.nextOf (.ref it)) Q E s:=by
 obtain⟨o,ho,hc,hdat⟩:=id hit
 obtain⟨ol,hol,_,nl,hdl⟩:=hl
 unfold Builtin.SmallTypes.nextOf
 refine wpAny_bind (wpAny_callSpecial?_slot (name:=Str.ofString "__next__") hit.typeIs slot_listiter_next (wpAny_call_entry slot_listiter_next hit.typeIs entry_listiter_next ?_ (args_listiter_next _)))
 refine(show wpAny _ _ (field (.ref it) 0 >>= _) _ _ s from wpAny_bind (wpAny_field ho hdat (x:=.ref l) rfl ?_))
 refine(show wpAny _ _ (if (Value.ref l == Value.none)=true then _ else _) _ _ s from ?_)
 rw[if_neg (show ¬ ((Value.ref l == Value.none)=true) from Bool.false_ne_true)]
 refine(show wpAny _ _ (field (.ref it) 1 >>= _) _ _ s from wpAny_bind (wpAny_field ho hdat (x:=.int i 0) rfl ?_))
 refine(show wpAny _ _ (seqItems? (.ref l) >>= _) _ _ s from wpAny_bind (wpAny_seqItems hol hdl ?_))
 simp only[Int.toNat_natCast,hx]
 refine wpAny_bind (wpAny_rule (wpAny_bind (wpAny_setField ho hdat (by simp) ?_)))
 refine zce (A:=A.in1) (hd.but ho (fun vs q=>.inl (by rw[hdat] at q;cases q;simp)) (Heap.SameBut.update ..).extBut) fun h' e k' x=>hE h' e (fun b q hb hq=>k' b q ((Heap.SameBut.update ..).extBut b q hb hq)) x
section
variable {κ:Type} [DecidableEq κ] {knd:KeyKind prog w κ}
theorem zhk {it d:Addr}{i ep:Nat}{kvs:List (κ×Value)}{Q:Option Value→Shared→Prop} (hd:Hd A s.heap) (hit:s.heap.IsKeyIter it d i kvs.length ep) (hm:s.heap.DictAt knd d kvs ep) (hx:kvs[i]?=none)
  (hQ:∀ h',Heap.ExtBut it s.heap h'→Q none { s with heap:=h' }):wpAny (model prog w) A (pyNext (.ref it)) Q E s:=by
 obtain⟨o,ho,hc,hdat⟩:=id hit
 obtain⟨od,es,hod,hcd,hdd,hk,hp,hn⟩:=id hm
 have hsz:es.size=kvs.length:=by rw[← hp.length];simp
 have hge:es.size≤i:=by rw[hsz];simpa using hx
 have hown:Builtin.Dict_items.ownsTuple "dict_keyiterator"=false:=by decide
 unfold pyNext
 refine wpAny_bind (wpAny_attempt (wpAny_callSpecial?_slot (name:=Str.ofString "__next__") hit.typeIs F.slot_dict_keyiterator_next (wpAny_call_entry F.slot_dict_keyiterator_next hit.typeIs F.entry_dict_keyiterator_next ?_ (F.args_dict_keyiterator_next_1 _))))
 refine wpAny_bind (wpAny_pure (wpAny_bind (wpAny_bind ?_)))
 first|refine wpAny_bind (wpAny_typeNameOfWhole_keyiter hit.typeIs (wpAny_pure (wpAny_bind (wpAny_fieldsOf ho hdat ?_))))|refine wpAny_bind (wpAny_typeNameOf_keyiter hit.typeIs (wpAny_pure (wpAny_bind (wpAny_fieldsOf ho hdat ?_))))
 simp only[hown,Bool.false_eq_true,if_false]
 show wpAny _ _ (if (Value.ref d == Value.none)=true then _ else _) _ _ s
 rw[if_neg (show ¬ ((Value.ref d == Value.none)=true) from Bool.false_ne_true)]
 refine wpAny_bind (wpAny_pure (wpAny_bind (wpAny_dictEntries hod hdd ?_)))
 rw[if_neg (by rw[hsz];simp)]
 refine wpAny_bind (wpAny_pure (wpAny_bind (wpAny_dictEpoch hod hdd ?_)))
 rw[if_neg (by simp)]
 refine wpAny_pure ?_
 simp only[show ¬ ((i:Int)<0) from by omega,if_false,Int.toNat_natCast,Array.getElem?_eq_none hge]
 refine wpAny_bind ?_
 first|refine wpAny_bind (wpAny_typeNameOfWhole_keyiter hit.typeIs (wpAny_pure ?_))|refine wpAny_bind (wpAny_typeNameOf_keyiter hit.typeIs (wpAny_pure ?_))
 refine(show wpAny _ _ (setField (.ref it) 0 .none >>= _) _ _ s from wpAny_bind (wpAny_setField ho hdat (by simp) ?_))
 refine zce (A:=A.in1) (hd.but ho (fun vs q=>.inr (by rw[hdat] at q;cases q;simp)) (Heap.SameBut.update ..).extBut) fun h' e k' ⟨o',e',c'⟩=>?_
 exact wpAny_bind (wpAny_isInstance (T:="StopIteration") (b:=true) ⟨o',e',c'⟩ isSubtype_stop (wpAny_pure (hQ h' fun b q hb hq=>k' b q ((Heap.SameBut.update ..).extBut b q hb hq))))
theorem zgg (hc:HdC A cs) (I d:Addr) (hne:d≠I) (hI:I∉cs) (kvs:List (κ×Value)) (ep:Nat) :
  Walks prog w A I (I::d::cs) [I] kvs.length (fun i v=>∃ k x,kvs[i]?=some (k,x)∧knd.is k v=true) (fun i h=>h.IsKeyIter I d i kvs.length ep∧h.DictAt knd d kvs ep∧Chn h cs) where
 sub:=fun b hb=>by simp at hb;simp[hb]
 frame:=fun _ _ _ st hk=>⟨st.1.at fun o e=>hk I (by simp) o e,st.2.1.at' fun o e=>hk d (by simp) o e,st.2.2.mono fun b o hb e=>hk b (by simp[hb]) o e⟩
 item:=fun i s Q E hi st hQ=>by
  obtain⟨⟨k,x⟩,hx⟩:∃ p,kvs[i]?=some p:=⟨kvs[i],by simp[hi]⟩
  refine wpAny_pyNext_dict_item st.1 st.2.1 hx fun key h' hkey hit' hs'=>?_
  exact hQ key h' s.toks ⟨k,x,hx,hkey⟩ ⟨hit',st.2.1.extBut hs'.extBut hne,st.2.2.but hI hs'.extBut⟩ fun b o hb e=>hs'.extBut b o (fun h=>hb (by simp[h])) e
 done:=fun s Q E st hQ=>zhk (hc.hd st.2.2) st.1 st.2.1 (by simp) fun h' he'=>hQ h' s.toks fun b o hb e=>he' b o (fun h=>hb (by simp[h])) e
 self:=fun _ _ _ _ st hQ=>wpAny_pyIter_keyiter st.1 hQ
theorem zdw:typeLookup (.type "dict") "__len__"=pure (some (.builtin "dict.__len__")):=by rw[typeLookup_type,builtinLookup_eq_fast];kernel_rfl
theorem zfl {R:Result→Shared→Prop} (hc:HdC A cs){d S:Addr}{kvs:List (κ×Value)}{ep c₀:Nat}{res:Value} (hd:(d == sysModules)=false) (hm:s.heap.DictAt knd d kvs ep) (c:Chn s.heap cs) (hS:s.heap.get? S=some { cls:=.type "list",data:=.seq #[] c₀ }) (hSd:S≠d) (hSc:S∉cs) (hn:kvs.length≤sizeLine)
  (hR:∀ s' acc c',Moved (S::[s.heap.objs.size]) (fun a b=>b=a) s s'→s'.heap.get? S=some { cls:=.type "list",dict:=none,data:=.seq acc c',slots:=#[] }→ItemsOf (fun i v=>∃ k x,kvs[i]?=some (k,x)∧knd.is k v=true) acc kvs.length→R (.ok (.ret res)) s') :
  wpAny (model prog w) A.in1 (Builtin.List.listExtendWith (.ref S) (.ref d) res) (fun fin s'=>match fin with|.done f=>R (.ok f) s'|.again c'=>c'.quiet=true∧codeAny (model prog w) A c' R s') (fun e s'=>R (.error e) s') s:=by
 have hT:s.TypeIs (.ref d) "dict":=hm.dictOf.typeIs
 have h1:Builtin.List.listSameRef (.ref S) (.ref d)=false:=by simp[Builtin.List.listSameRef,hSd]
 unfold Builtin.List.listExtendWith
 refine wpAny_bind (wpAny_typeOf hT ?_)
 rw[if_neg (by rw[h1];decide)]
 refine wpAny_bind (wpAny_pyIter_dict hd hm ?_)
 have m1:=hm.push { cls:=.type "dict_keyiterator",data:=.fields #[.ref d,.int 0 0,.int kvs.length 0,.int ep 0] }
 have hT1:Shared.TypeIs { s with heap:=s.heap.push { cls:=.type "dict_keyiterator",data:=.fields #[.ref d,.int 0 0,.int kvs.length 0,.int ep 0] } } (.ref d) "dict":=m1.dictOf.typeIs
 refine wpAny_bind (wpAny_holding ?_)
 unfold Builtin.List.listLengthHint
 refine wpAny_bind (wpAny_specialOf hT1 zdw ?_)
 generalize hid:("dict.__len__":String)=id0
 wp_delta
 rw[show splitId id0=some ("dict","__len__") from by subst hid;decide +kernel]
 subst hid
 refine wpAny_bind (wpAny_isInstance (b:=true) hT1 (by rw[isSubtype_type];kernel_rfl) ?_)
 simp only[Bool.not_true,Bool.false_eq_true,if_false]
 rw[if_pos (by decide +kernel)]
 refine wpAny_bind (wpAny_typeOf hT1 (wpAny_pure ?_))
 rw[if_pos (by decide +kernel)]
 refine wpAny_bind (wpAny_rule (wpAny_bind ?_))
 have hlt:S<s.heap.objs.size:=Heap.lt_size hS
 have hSI:S≠s.heap.objs.size:=Nat.ne_of_lt hlt
 have hdI:d≠s.heap.objs.size:=Nat.ne_of_lt hm.lt_size
 have hIc:s.heap.objs.size∉cs:=fun z=>Nat.lt_irrefl _ (c.lt _ z)
 have hS1:=Heap.get?_push_of_some { cls:=.type "dict_keyiterator",data:=.fields #[.ref d,.int 0 0,.int kvs.length 0,.int ep 0] } hS
 refine(show wpAny _ A.in1 (updateSeq S (·.push .none) >>= fun _=>updateSeq S (·.pop)) _ _ _ from wpAny_bind (wpAny_updateSeq hS1 rfl ?_))
 have hS2:=Heap.get?_update_self (Obj.mapSeq (·.push Value.none)) hS1 rfl
 refine wpAny_updateSeq (hz:=by seq_fits) hS2 rfl ?_
 have hS3:=Heap.get?_update_self (Obj.mapSeq (·.pop)) hS2 rfl
 generalize hG:((s.heap.push { cls:=.type "dict_keyiterator",data:=.fields #[.ref d,.int 0 0,.int kvs.length 0,.int ep 0] }).update S (Obj.mapSeq (·.push Value.none))).update S (Obj.mapSeq (·.pop))=G at hS3
 have oth:∀ b o,b≠S→(s.heap.push { cls:=.type "dict_keyiterator",data:=.fields #[.ref d,.int 0 0,.int kvs.length 0,.int ep 0] }).get? b=some o→G.get? b=some o:=fun b o hb e=>by
  rw[← hG];exact(Heap.get?_update_other _ _ (Ne.symm hb)).trans ((Heap.get?_update_other _ _ (Ne.symm hb)).trans e)
 have W:=(zgg (prog:=prog) (w:=w) (knd:=knd) (A:=A.in1) hc s.heap.objs.size d hdI hIc kvs ep).toS
 have it0:G.IsKeyIter s.heap.objs.size d 0 kvs.length ep:=⟨_,oth _ _ (Ne.symm hSI) (Heap.get?_push_size _ rfl),rfl,rfl⟩
 have d0:G.DictAt knd d kvs ep:=m1.at' fun o e=>oth d o (Ne.symm hSd) e
 have c0:Chn G cs:=c.mono fun b o hb e=>oth b o (fun z=>hSc (z ▸ hb)) (Heap.get?_push_of_some _ e)
 have hSf:S∉s.heap.objs.size::d::cs:=by simp[hSI,hSd,hSc]
 refine wpAny_pure ⟨plainId_quiet F.plain_extend_loop _,codeAny_extend_loopS W hn S hSf res kvs.length 0 _ _ _ rfl (Nat.zero_le _) ⟨it0,d0,c0⟩ hS3 (ItemsOf.nil _) fun s' acc' c' hm' hS' hacc=>?_⟩
 have mv0:Moved (S::[s.heap.objs.size]) (fun a b=>b=a) s { s with heap:=G }:=⟨fun b o hb e=>oth b o (fun z=>hb (List.mem_cons.mpr (.inl z))) (Heap.get?_push_of_some _ e),rfl,rfl,rfl,Nat.le_refl _⟩
 exact hR s' acc' c' (Moved.trans (fun _ _ _ h1 h2=>h2.trans h1) mv0 hm') hS' hacc
theorem zdT {Q:Value→Shared→Prop} (hc:HdC A cs){d:Addr}{kvs:List (κ×Value)}{ep:Nat} (hd:(d == sysModules)=false) (hm:s.heap.DictAt knd d kvs ep) (c:Chn s.heap cs) (hn:kvs.length≤sizeLine)
  (hQ:∀ s' acc c',(∀ b o,s.heap.get? b=some o→s'.heap.get? b=some o)→s'.gens=s.gens→s'.drawn=s.drawn→s'.os=s.os→s'.heap.get? s.heap.objs.size=some { cls:=.type "list",dict:=none,data:=.seq acc c',slots:=#[] } →
   ItemsOf (fun i v=>∃ k x,kvs[i]?=some (k,x)∧knd.is k v=true) acc kvs.length→Q (.ref s.heap.objs.size) s'):wpAny (model prog w) A (call (.type "list") [.ref d]) Q E s:=by
 refine callType_codes (Q₁:=fun obj s₁=>obj=.ref s.heap.objs.size∧s₁={ s with heap:=s.heap.push { cls:=.type "list",data:=.seq #[] } }) F.called_list (F.typeCall_list_1 _) F.entry_list_init (code_list_new _ ⟨rfl,rfl⟩) fun obj s₁ h₁=>?_
 obtain⟨rfl,rfl⟩:=h₁
 have hS:(s.heap.push { cls:=.type "list",data:=.seq #[] }).get? s.heap.objs.size=some { cls:=.type "list",data:=.seq #[] }:=Heap.get?_push_size _ rfl
 have hdI:s.heap.objs.size≠d:=Ne.symm (Nat.ne_of_lt hm.lt_size)
 have hIc:s.heap.objs.size∉cs:=fun z=>Nat.lt_irrefl _ (c.lt _ z)
 refine⟨⟨_,hS,rfl⟩,F.args_list_init_2 _ _,?_⟩
 refine(show wpAny _ A.in1.in1 (do let old ← Builtin.List.listItems (.ref s.heap.objs.size);Builtin.List.listUpdate (.ref s.heap.objs.size) (fun _=>#[]);letGo old.toList.reverse;Builtin.List.listExtendWith (.ref s.heap.objs.size) (.ref d) .none) _ _ _ from wpAny_bind ?_)
 unfold Builtin.List.listItems
 refine wpAny_bind (wpAny_seqItems hS rfl (wpAny_pure ?_))
 refine(show wpAny _ A.in1.in1 (updateSeq s.heap.objs.size (fun _=>#[]) >>= fun _=>letGo (#[]:Array Value).toList.reverse >>= fun _=>Builtin.List.listExtendWith (.ref s.heap.objs.size) (.ref d) .none) _ _ _ from wpAny_bind (wpAny_updateSeq hS rfl (wpAny_bind (wpAny_letGo ?_))))
 have hS2:=Heap.get?_update_self (Obj.mapSeq (fun _=>(#[]:Array Value))) hS rfl
 have oth:∀ b o,s.heap.get? b=some o→((s.heap.push { cls:=.type "list",data:=.seq #[] }).update s.heap.objs.size (Obj.mapSeq (fun _=>(#[]:Array Value)))).get? b=some o:=fun b o e=>
  (Heap.get?_update_other _ _ (Ne.symm (Nat.ne_of_lt (Heap.lt_size e)))).trans (Heap.get?_push_of_some _ e)
 have sz:((s.heap.push { cls:=.type "list",data:=.seq #[] }).update s.heap.objs.size (Obj.mapSeq (fun _=>(#[]:Array Value)))).objs.size=s.heap.objs.size + 1:=by rw[Heap.size_update,Heap.size_push]
 refine zfl (A:=A.in1) hc hd (hm.at' fun o e=>oth d o e) (c.mono fun b o _ e=>oth b o e) hS2 hdI hIc hn fun s' acc c' mv hS' hacc=>⟨rfl,?_⟩
 refine hQ s' acc c' (fun b o e=>mv.heap b o (fun z=>?_) (oth b o e)) mv.gens mv.drawn mv.os hS' hacc
 have lt:=Heap.lt_size e
 simp only[List.mem_cons,List.not_mem_nil,or_false] at z
 rcases z with z|z
 ·exact absurd lt (by rw[z];exact Nat.lt_irrefl _)
 ·exact absurd lt (by rw[z,sz];exact Nat.not_lt.mpr (Nat.le_succ _))
end
end
end L2
namespace L2
open PySem PySem.Spec PyProof.Rows
def Its (x:Str):It:=⟨fun i _=>i<x.cps.size,fun i H v H'=>H'=H∧∃ c,x.cps[i]?=some c∧v=.str ⟨#[c]⟩,fun i _=>x.cps.size≤i⟩
theorem zij {P:Program}{w:World}{K:PySem.W.Frag}{tg:Expr} (x:Str) (t:Tok) (it:Addr):zkh P w K tg (Its x) [it] it (fun i h=>zeS h it x t i) where
 mem:=by simp
 obj:=fun i h st b hb=>by
  have e:b=it:=by simpa using hb
  subst e
  rcases st with⟨o,e,c,d⟩|⟨o,e,c,d⟩ <;> exact⟨o,e,fun v z=>by rw[d] at z;cases z⟩
 keep:=fun i h h' st k=>st.keep fun o e=>k it (by simp) o e
 item:=by
  intro X hP hw hK hc i pins s σ H E I hf st hg
  subst hP hw hK
  obtain⟨f0,f1,f2,f3,f4,f5⟩:=hf it (by simp)
  have hg':i<x.cps.size:=hg
  have hx:x.cps[i]?=some x.cps[i]:=by simp[hg']
  refine zhi st hx fun h' u tk st' sb=>?_
  have I1:Inv X pins σ H { s with heap:=h',toks:=tk }:=I.turned (fun b o hb e=>(sb.2 b hb).trans e) f0 f1 f3 f4 f5
  rcases id st' with⟨o,e,c,d⟩|⟨o,e,c,d⟩
  ·exact⟨_,rfl,zh5 (s:={ s with heap:=h',toks:=tk }) e c d (by decide) ⟨.str ⟨#[x.cps[i]]⟩,H,I1,⟨u,rfl⟩,⟨rfl,_,hx,rfl⟩,st',fun b hb=>(hf b hb).1⟩⟩
  ·exact⟨_,rfl,zh5 (s:={ s with heap:=h',toks:=tk }) e c d (by decide) ⟨.str ⟨#[x.cps[i]]⟩,H,I1,⟨u,rfl⟩,⟨rfl,_,hx,rfl⟩,st',fun b hb=>(hf b hb).1⟩⟩
 done:=by
  intro X hP hw hK hc i pins s σ H E I hf st hg
  subst hP hw hK
  obtain⟨f0,f1,f2,f3,f4,f5⟩:=hf it (by simp)
  exact zii I.hd st (Array.getElem?_eq_none hg) fun h' eb=>⟨rfl,I.turned (t':=s.toks) (fun b o hb e=>eb b o hb e) f0 f1 f3 f4 f5⟩
 self:=fun _ _ _ _ _ st h=>by
  rcases st with y|y
  ·exact wpAny_pyIter_striter_ascii y h
  ·exact wpAny_pyIter_striter_wide y h
def iStr (tl:TE):TI:=fun σ H R=>tl σ H fun x H1=>∃ z,x=.str z∧R (Its z) H1
section
variable {X:Cx}{tg:Expr}
theorem ziV {l:Expr}{tl:TE} (hl:PE X l tl):PI X tg l (iStr tl):=by
 intro pins s σ H R I h
 refine thn (hl pins s σ H _ I h) fun v s1=>L2.ex5 fun x H1 I1 r1 hq_=>?_
 obtain⟨z,e,q⟩:=hq_
 subst e
 obtain⟨t,rfl⟩:=r1
 have fin:∀ ob:Obj,zeS (s1.heap.push ob) s1.heap.objs.size z t 0→PIE X pins σ tg R (.ref s1.heap.objs.size) { s1 with heap:=s1.heap.push ob }:=fun ob st=>
  ⟨s1.heap.objs.size,[s1.heap.objs.size],_,Its z,H1,rfl,I1.kept (t':=s1.toks) fun b o e=>Heap.get?_push_of_some _ e,zij z t _,st,fun b hb=>by
   have e:b=s1.heap.objs.size:=by simpa using hb
   subst e
   exact I1.fpOk (Nat.le_refl _) (I1.hok.fresh (Nat.le_refl _)),q⟩
 cases ha:z.cps.all (·<128)
 ·exact wpAny_pyIter_wide ha (fin _ (.inr ⟨_,Heap.get?_push_size _ rfl,rfl,rfl⟩))
 ·exact wpAny_pyIter_ascii ha (fin _ (.inl ⟨_,Heap.get?_push_size _ rfl,rfl,rfl⟩))
end
section
variable {g:TG}{tt:TT}{te:TE}
theorem zfQ {x:Str}{D:Addr}{τ:St}{H:Hp}{Q:VK} (Pv:Nat→St→Hp→Prop) (h0:Pv 0 τ H)
  (hs:∀ i c τ H,x.cps[i]?=some c→Pv i τ H→g (.str ⟨#[c]⟩) τ H fun τ2 H2=>tt τ2 H2 fun b H3=>
   if b=true then te τ2 H3 fun y H4=>∃ ys,H4 D=some (.lst ys)∧ys.length<sizeLine∧Pv (i + 1) τ2 (upd H4 D (.lst (ys++[y]))) else Pv (i + 1) τ2 H3)
  (hd:∀ τ H,Pv x.cps.size τ H→Q (.ref D) H):zg0 (Its x) D τ H g tt te Q:=by
 refine⟨fun i m τ H=>m=x.cps.size - i∧i≤x.cps.size∧Pv i τ H,⟨x.cps.size,by simp,Nat.zero_le _,h0⟩,?_⟩
 rintro i m τ H ⟨rfl,hi,p⟩
 by_cases hlt:i<x.cps.size
 ·refine .inr ⟨hlt,Pv (i + 1),fun τ' H' p'=>⟨x.cps.size - (i + 1),by omega,rfl,hlt,p'⟩,fun v H' y=>?_⟩
  obtain⟨e,c,hc,ev⟩:=y
  subst e ev
  exact hs i c τ _ hc p
 ·have e:i=x.cps.size:=by omega
  subst e
  exact .inl ⟨Nat.le_refl _,hd τ H p⟩
end
section
variable {X:Cx}
end
theorem kV_of {P:Program}{w:World}{k:Key}{u:Value} (h:(zaR P w).is k u=true):zaQ (kV k) u:=by
 rcases zaB (show ze9 k u=true from h) with⟨i,t,rfl,rfl⟩|⟨x,t,rfl,rfl⟩
 ·exact⟨t,rfl⟩
 ·exact⟨t,rfl⟩
section
variable {X:Cx}
end
end L2
namespace L2
open PySem PySem.Spec PyProof.Rows
section
variable {g:TG}{tt:TT}{te:TE}
end
end L2
namespace L2
open PySem PySem.Spec PyProof.Rows
theorem bt_int:bootBuiltins "int"=some (.type "int"):=by decide +kernel
theorem zhl:bootBuiltins "str"=some (.type "str"):=by decide +kernel
theorem zjI:bootBuiltins "bool"=some (.type "bool"):=by decide +kernel
theorem zjJ:bootBuiltins "list"=some (.type "list"):=by decide +kernel
theorem zjK:bootBuiltins "dict"=some (.type "dict"):=by decide +kernel
theorem za5:bootBuiltins "isinstance"=some (.builtin "isinstance"):=by decide +kernel
theorem zhm:bootBuiltins "all"=some (.builtin "all"):=by decide +kernel
theorem zb9:bootBuiltins "len"=some (.builtin "len"):=by decide +kernel
theorem zhn (bs:List Bool) (d:Bool):(List.range bs.length).all (fun i=>bs.getD i d)=bs.all id:=by
 induction bs with
 | nil=>rfl
 | cons b bs ih=>
  rw[List.length_cons,List.range_succ_eq_map,List.all_cons,List.all_map,List.all_cons,← ih]
  rfl
theorem zho {bs:List Bool}{us:List Value} (r:zaK (bs.map V.bl) us){i:Nat}{v:Value} (h:us[i]?=some v):v=.bool (bs.getD i true):=by
 have hl:(bs.map V.bl).length=us.length:=r.length
 have hi:i<bs.length:=by
  have:=(List.getElem?_eq_some_iff.mp h).1
  rw[List.length_map] at hl
  omega
 obtain⟨u,hu,ru⟩:=r.get (i:=i) (x:=.bl bs[i]) (by simp[hi])
 rw[h] at hu;cases hu
 rw[List.getD_eq_getElem?_getD,List.getElem?_eq_getElem hi]
 exact ru
section
variable {X:Cx}
theorem zdx:zdh X (.builtin "all") (fun xs H Q=>∃ p,∃ bs:List Bool,xs=[.ref p]∧SqL X.K H p (bs.map V.bl)∧Q (.bl (bs.all id)) H):=by
 intro pins s σ H xs us Q I r h
 obtain⟨p,bs,rfl,hq,q⟩:=h
 obtain⟨u,rfl,ru⟩:=zc1 r
 obtain rfl:u=Value.ref p:=ru
 obtain⟨its,rv,pl,_⟩:=I.list hq
 obtain⟨cs,hcs,ch⟩:=I.hd.chain
 have hlt:p<s.heap.objs.size:=by obtain⟨o,e,_⟩:=pl.isList;exact Heap.lt_size e
 have hnc:s.heap.objs.size∉cs:=fun z=>Nat.lt_irrefl _ (ch.lt _ z)
 have hlen:its.length=bs.length:=by rw[← rv.length,List.length_map]
 refine call_all_walk (wpAny_pyIter_list pl.isList ⟨s.heap.objs.size,_,_,_,_,_,fun i=>bs.getD i true,rfl,zd5 (A:=X.A.in1) hcs s.heap.objs.size p (Nat.ne_of_lt hlt) hnc its.toArray,⟨⟨_,Heap.get?_push_size _ rfl,rfl,rfl⟩,pl.isList.push _,ch.mono fun b o _ e=>Heap.get?_push_of_some _ e⟩,?_,fun h' tk hk=>?_⟩)
 ·intro i v s' Q' E' hv hQ'
  have hv':its[i]?=some v:=by simpa using hv
  rw[zho rv hv']
  exact wpAny_truthy_bool hQ'
 ·have e:(List.range its.toArray.size).all (fun i=>bs.getD i true)=bs.all id:=by rw[List.size_toArray,hlen];exact zhn bs true
  rw[e]
  exact⟨.bl _,H,I.kept fun b o e=>hk b o (fun z=>by
   have:b=s.heap.objs.size:=by simpa using z
   exact absurd (Heap.lt_size e) (by rw[this];exact Nat.lt_irrefl _)) (Heap.get?_push_of_some _ e),rfl,q⟩
theorem zhp {P:Program}{w:World}:∀ {kvs:List (Key×V)}{vs:List (Key×Value)}{acc:List Value},KV kvs vs→acc.length=vs.length→(∀ (i:Nat) (v:Value),acc[i]?=some v→∃ k x,vs[i]?=some (k,x)∧(zaR P w).is k v=true)→zaK (kvs.map fun kv=>kV kv.1) acc:=by
 intro kvs vs acc r
 induction r generalizing acc with
 | nil=>
  intro hl _
  cases acc with
  | nil=>exact .nil
  | cons _ _=>simp at hl
 | @cons p q ps qs h t ih=>
  intro hl hk
  cases acc with
  | nil=>simp at hl
  | cons v acc=>
   obtain⟨k,x,e,hv⟩:=hk 0 v rfl
   simp at e
   subst e
   refine .cons ?_ (ih (by simpa using hl) fun i v' hv'=>by simpa using hk (i + 1) v' (by simpa using hv'))
   show zaQ (kV p.1) v
   rw[h.1]
   exact kV_of hv
theorem zgh:zdh X (.type "list") (fun xs H Q=>∃ d kvs,xs=[.ref d]∧H d=some (.dK kvs)∧∀ l,H l=none→Q (.ref l) (upd H l (.lst (kvs.map fun kv=>kV kv.1)))):=by
 intro pins s σ H xs us Q I r h
 obtain⟨d,kvs,rfl,hd,q⟩:=h
 obtain⟨u,rfl,ru⟩:=zc1 r
 obtain rfl:u=Value.ref d:=ru
 obtain⟨z,hsm,vs,rel,dd⟩:=zga I.hok hd
 obtain⟨ep,dat⟩:=dd.dictAt
 obtain⟨cs,hcs,ch⟩:=I.hd.chain
 refine zdT hcs hsm dat ch (by rw[← rel.length];exact z) fun s' acc c' kp g1 g2 g3 hS ha=>?_
 have rv:zaK (kvs.map fun kv=>kV kv.1) acc.toList:=zhp rel (by simpa using ha.1) fun i v hv=>ha.2 i v (by simpa using hv)
 have I':Inv X pins σ (upd H s.heap.objs.size (.lst (kvs.map fun kv=>kV kv.1))) { s with heap:=s'.heap,toks:=s'.toks }:=
  I.laid kp (Nat.le_refl _) ⟨by rw[List.length_map];exact z,acc.toList,c',rv,by simpa using hS⟩
 obtain⟨h',g',d',t',os'⟩:=s'
 dsimp only at g1 g2 g3 I'
 subst g1 g2 g3
 exact⟨.ref s.heap.objs.size,_,I',rfl,q _ (I.hok.fresh (Nat.le_refl _))⟩
theorem zeT {v:Value}{o:Option Int} (p:IsPart v o):∃ l:Option (Int×Tok),v=partValue l∧l.map (·.1)=o:=by
 cases p with
 | none=>exact⟨none,rfl,rfl⟩
 | int i t=>exact⟨some (i,t),rfl,rfl⟩
theorem zd6:SlR X (fun x lo hi H Q=>∃ z,x=.str z∧z.length≤sizeLine∧Q (.str (Txt.slice z lo hi)) H):=by
 intro pins s σ H x v vl vu lo hi sl Q I rx hs pl pu h
 obtain⟨z,rfl,hz,q⟩:=h
 obtain⟨t,rfl⟩:=rx
 obtain⟨l,rfl,rfl⟩:=zeT pl
 obtain⟨u,rfl,rfl⟩:=zeT pu
 refine⟨"str",_,PySem.F.slot_str_getitem.lookup,typeIs_str _ _ _,wpAny_getItem_str_slice (l:=l) (u:=u) (st:=none) hs rfl (post_val_or_str ⟨Nat.le_trans (Txt.slice_le z _ _) hz,fun t' k=>?_⟩)⟩
 exact⟨.str _,H,I.tok _,⟨t',rfl⟩,q⟩
end
end L2
namespace L2
open PySem PySem.Spec PyProof.Rows
section
variable {X:Cx}{K:PySem.W.Frag} (hK:X.K=K)
include hK
theorem zik {e:Expr}{f:Str}{pos:Pos}{ta:TE} (he:PE X e ta) (hb:attributeBase e f X.env (eval e X.env)=eval e X.env):PE X (.Attribute e f pos) (tFldX K ta f):=hK ▸ zjF he hb
theorem zfm {es:List Expr}{k:Nat}{pos:Pos}{t:TGs}{n:Nat} (hc:X.calm=true) (h:PGs X es t) (hn:(assignEach es X.env).length=n:=by rfl) (hst:(assignEach es X.env).findIdx? (·.1)=none:=by rfl):PG X (.Tuple es k pos) (gTup K n t):=hK ▸ zcq hc h hn hst
theorem zil {tg l:Expr}{tl:TE} (hl:PE X l tl):PI X tg l (iList K tl):=hK ▸ zaF hl
end
end L2
namespace L2
open PySem PySem.Spec PyProof.Rows
section
variable {prog:Program}{w:World}{A:Around}{E:Value→Shared→Prop}{s:Shared}{cs:List Addr}
section
variable {κ:Type} [DecidableEq κ] {knd:KeyKind prog w κ}
end
end
section
variable {X:Cx}
end
end L2
namespace L2
open PySem PySem.Spec PyProof.Rows
section
variable {prog:Program}{w:World}{A:Around}{E:Value→Shared→Prop}{s:Shared}{cs:List Addr}
end
section
variable {X:Cx}
end
end L2
namespace L2
open PySem
theorem len0 {P:List Value→Prop} (h:P []) (us:List Value) (e:us.length=0):P us:=by
 rw[List.length_eq_zero_iff.mp e]
 exact h
theorem zkm {n:Nat}{P:List Value→Prop} (h:∀ a us,us.length=n→P (a::us)) (us:List Value) (e:us.length=n + 1):P us:=by
 cases us with
 | nil=>cases e
 | cons a us=>exact h a us (Nat.succ.inj e)
theorem len1 {P:List Value→Prop} (h:∀ a0,P [a0]):∀ us:List Value,us.length=1→P us:=zkm fun a=>len0 (P:=fun r=>P (a::r)) (h a)
theorem len2 {P:List Value→Prop} (h:∀ a0 a1,P [a0,a1]):∀ us:List Value,us.length=2→P us:=zkm fun a=>len1 (P:=fun r=>P (a::r)) (h a)
theorem len3 {P:List Value→Prop} (h:∀ a0 a1 a2,P [a0,a1,a2]):∀ us:List Value,us.length=3→P us:=zkm fun a=>len2 (P:=fun r=>P (a::r)) (h a)
theorem len4 {P:List Value→Prop} (h:∀ a0 a1 a2 a3,P [a0,a1,a2,a3]):∀ us:List Value,us.length=4→P us:=zkm fun a=>len3 (P:=fun r=>P (a::r)) (h a)
theorem len5 {P:List Value→Prop} (h:∀ a0 a1 a2 a3 a4,P [a0,a1,a2,a3,a4]):∀ us:List Value,us.length=5→P us:=zkm fun a=>len4 (P:=fun r=>P (a::r)) (h a)
theorem len6 {P:List Value→Prop} (h:∀ a0 a1 a2 a3 a4 a5,P [a0,a1,a2,a3,a4,a5]):∀ us:List Value,us.length=6→P us:=zkm fun a=>len5 (P:=fun r=>P (a::r)) (h a)
theorem zhq {A B:Prop}{b:Bool} (hb:b=false) (h:B):if b=true then A else B:=by
 subst hb
 exact iteF h
theorem zcl {A B:Prop}{b:Bool} (h1:b=true→A) (h2:b=false→B):if b=true then A else B:=by
 cases b with
 | true=>exact zgY (h1 rfl)
 | false=>exact iteF (h2 rfl)
def isTup:HO→Bool
 | .tup _=>true
 | .frz _ (.tup _)=>true
 | _=>false
def Tk (H H':Hp):Prop:=∀ b o,H b=some o→isTup o=true→H' b=some o
theorem Tk.of {H H':Hp} (e:zaj H H'):Tk H H':=fun b o h _=>e b o h
theorem Tk.trans {H H1 H2:Hp} (a:Tk H H1) (b:Tk H1 H2):Tk H H2:=fun c o h z=>b c o (a c o h z) z
theorem Tk.upd {H:Hp}{c:Addr}{u o:HO} (h:H c=some u) (n:isTup u=false):Tk H (L2.upd H c o):=fun b w e z=>by
 have:b≠c:=fun q=>by subst q;rw[h] at e;cases e;rw[n] at z;cases z
 rw[zaf this]
 exact e
theorem Tk.sqT {K:PySem.W.Frag}{H H':Hp}{a:Addr}{xs:List V} (e:Tk H H') (h:SqT K H a xs):SqT K H' a xs:=by
 rcases h with(h|⟨o,h⟩)|h
 ·exact .inl (.inl (e _ _ h rfl))
 ·exact .inl (.inr ⟨o,e _ _ h rfl⟩)
 ·exact .inr h
mutual
def noLst:Dt→Bool
 | .lst _=>false
 | .tup ds=>zdy ds
 | _=>true
def zdy:List Dt→Bool
 | []=>true
 | d::ds=>noLst d && zdy ds
end
mutual
theorem Tk.dt {K:PySem.W.Frag}{H H':Hp} (e:Tk H H'):∀ {d:Dt}{x:V},noLst d=true→DtV K H d x→DtV K H' d x
 | .non,_,_,h=>h
 | .bl _,_,_,h=>h
 | .int _,_,_,h=>h
 | .str _,_,_,h=>h
 | .lst ds,_,z,h=>by cases z
 | .tup ds,_,z,h=>by
  obtain⟨a,xs,e1,h1,h2⟩:=h
  exact⟨a,xs,e1,e.sqT h1,e.dts z h2⟩
theorem Tk.dts {K:PySem.W.Frag}{H H':Hp} (e:Tk H H'):∀ {ds:List Dt}{xs:List V},zdy ds=true→zbr K H ds xs→zbr K H' ds xs
 | [],_,_,h=>h
 | d::ds,_,z,h=>by
  obtain⟨y,ys,e1,h1,h2⟩:=h
  have z':=(Bool.and_eq_true _ _).mp z
  exact⟨y,ys,e1,e.dt z'.1 h1,e.dts z'.2 h2⟩
end
theorem zcz {α:Type}{f:α→Dt}{n:Nat} (h:∀ x,zbD n (f x)) (l:List α):zaZ n (l.map f):=zaZ.of fun d hd=>by
 obtain⟨x,_,rfl⟩:=List.mem_map.mp hd
 exact h x
theorem zjL {K:PySem.W.Frag}{H:Hp}{α:Type}{f:α→Dt}{l:List α}{xs:List V}{i:Nat}{x:V} (h:zbr K H (l.map f) xs) (e:xs[i]?=some x):∃ q,l[i]?=some q∧DtV K H (f q) x:=by
 have hi:i<l.length:=by
  have h1:=h.length
  rw[List.length_map] at h1
  have:=(List.getElem?_eq_some_iff.mp e).1
  omega
 obtain⟨q,hq⟩:=zbE hi
 obtain⟨y,hy,hd⟩:=h.get (j:=i) (d:=f q) (by rw[List.getElem?_map,hq];rfl)
 rw[e] at hy
 cases hy
 exact⟨q,hq,hd⟩
theorem zak {α:Type}{l:List α}{i:Nat}{q:α} (h:l[i]?=some q):l.take (i + 1)=l.take i++[q]:=by
 rw[List.take_add_one,h]
 rfl
theorem zim (ns:List Int) (lo hi:Option Int):∃ ms:List Int,zgu (ns.map V.int) lo hi=ms.map V.int∧ms.length≤ns.length:=by
 refine⟨(ns.drop (HT.sIx (ns.map V.int).length 0 lo)).take (HT.sIx (ns.map V.int).length (ns.map V.int).length hi - HT.sIx (ns.map V.int).length 0 lo),?_,?_⟩
 ·unfold zgu
  rw[List.map_take,List.map_drop]
 ·rw[List.length_take,List.length_drop]
  omega
theorem joinS {α:Type}{f:St→Hp→Prop} (σ:α→St) (I:α→Hp→Prop){G:Prop} (h:∀ x H,I x H→f (σ x) H) (g:(∀ x H,I x H→f (σ x) H)→G):G:=g h
theorem ziW {α:Type}{xs:List α}{k:Int} (h0:0≤k):atI xs k=xs[k.toNat]?:=by
 unfold atI ixN
 rw[if_pos h0]
 by_cases h:k<xs.length
 ·rw[if_pos h];rfl
 ·rw[if_neg h]
  show none=_
  rw[List.getElem?_eq_none (by omega)]
end L2
namespace L2
open PySem PySem.Spec PyProof.Rows
def Ite (K:PySem.W.Frag) (l:Addr):It:=
  ⟨fun i H=>∃ xs x,SqL K H l xs∧xs[i]?=some x,
   fun i H v H'=>∃ T x,v=.ref T∧H T=none∧H'=upd H T (.tup [.int i,x])∧∀ xs,SqL K H l xs→xs[i]?=some x,
   fun i H=>∃ xs,SqL K H l xs∧xs.length≤i⟩
section
variable {prog:Program}{w:World}{A:Around}{E:Value→Shared→Prop}{s:Shared}
theorem zhr {e it l:Addr}{i:Nat}{items:Array Value}{old:Value}{Q:Option Value→Shared→Prop} (hd:Hd A s.heap)
  (he:IsEnum s.heap e it i old) (hit:s.heap.IsListIter it l i) (hl:s.heap.IsList l items) (hx:items[i]?=none)
  (hQ:∀ h',Heap.ExtBut it s.heap h'→Q none { s with heap:=h' }):wpAny (model prog w) A (pyNext (.ref e)) Q E s:=by
 have ht:s.TypeIs (.ref e) "enumerate":=⟨_,he,rfl⟩
 unfold pyNext
 refine wpAny_bind (wpAny_attempt (wpAny_callSpecial?_slot (name:=Str.ofString "__next__") ht F.slot_enumerate_next (wpAny_call_entry F.slot_enumerate_next ht F.entry_enumerate_next ?_ (F.args_enumerate_next_1 _))))
 refine(show wpAny _ _ (field (.ref e) 2 >>= _) _ _ _ from wpAny_bind (wpAny_field he rfl (x:=.ref it) rfl ?_))
 refine wpAny_bind (zhj (A:=A.in1) hd hit hl hx fun h' x he' hx'=>?_)
 obtain⟨o,ho,hc⟩:=hx'
 exact wpAny_bind (wpAny_isInstance (T:="StopIteration") (b:=true) ⟨o,ho,hc⟩ isSubtype_stop (wpAny_pure (hQ _ he')))
end
def EnumIt (h:Heap) (e it l:Addr) (i:Nat):Prop:=∃ old,IsEnum h e it (i:Int) old∧h.IsListIter it l i
theorem zhs {P:Program}{w:World}{K:PySem.W.Frag}{es:List Expr}{k:Nat}{pos:Pos}{e it l:Addr} (hne:e≠it) :
  zkh P w K (.Tuple es k pos) (Ite K l) [e,it] e (fun i h=>EnumIt h e it l i) where
 mem:=by simp
 obj:=fun i h st b hb=>by
  obtain⟨old,he,⟨o1,e1,c1,d1⟩⟩:=st
  simp only[List.mem_cons,List.not_mem_nil,or_false] at hb
  rcases hb with rfl|rfl
  ·exact⟨_,he,fun v q=>by simp at q⟩
  ·exact⟨_,e1,fun v q=>by rw[d1] at q;cases q⟩
 keep:=fun i h h' st k=>by
  obtain⟨old,he,h1⟩:=st
  exact⟨old,k e (by simp) _ he,h1.at fun o q=>k it (by simp) o q⟩
 item:=by
  intro X hP hw hK hc i pins s σ H E I hf st hg
  subst hP hw hK
  obtain⟨xs,x,q1,hx⟩:=hg
  obtain⟨old,he,h1⟩:=st
  obtain⟨its,rv,pl,_⟩:=I.list q1
  obtain⟨u,hu,ru⟩:=rv.get hx
  have nf:∀ b∈[e,it],b∉frs X.stack:=fun b hb q=>(List.mem_cons.mp (I.stkSub b q)).elim (hf b hb).2.1 (hf b hb).2.2.1
  refine wpAny_pyNext_enum_item he h1 pl.isList (x:=u) (by simpa using hu) hne fun h' a1 a2 a3 a4 hk=>⟨_,rfl,?_⟩
  refine wpAny_letOwnedTupleGo_enum (s:={ s with heap:=h',toks:=s.toks + 1 }) a1 fun h'' hz' hs'=>?_
  replace hs':Heap.SameBut e h' h'':=hs'
  have hTn:H s.heap.objs.size=none:=I.hok.fresh (Nat.le_refl _)
  have lte:=Heap.lt_size he
  have old':∀ b o,b≠e→b≠it→s.heap.get? b=some o→h''.get? b=some o:=fun b o n1 n2 q=>hs'.extBut b o n1 (hk b o n1 n2 q)
  have I1:Inv X pins σ (upd H s.heap.objs.size (.tup [.int i,x])) { s with heap:=s.heap.push { cls:=.type "tuple",data:=.seq #[.int i s.toks,u] },toks:=s.toks + 1 }:=
   I.laid (t':=s.toks + 1) (fun b o q=>Heap.get?_push_of_some _ q) (Nat.le_refl _) ⟨by show 2≤sizeLine;decide,[.int i s.toks,u],.cons ⟨_,rfl⟩ (.cons ru .nil),⟨_,Heap.get?_push_size _ rfl,rfl,_,rfl⟩⟩
  have fp1:∀ b∈[e,it],zdf X pins (upd H s.heap.objs.size (.tup [.int i,x])) b:=fun b hb=>by
   obtain⟨f0,r⟩:=hf b hb
   refine⟨?_,r⟩
   have lt:b<s.heap.objs.size:=by
    simp only[List.mem_cons,List.not_mem_nil,or_false] at hb
    rcases hb with rfl|rfl
    ·exact lte
    ·obtain⟨o,q,_⟩:=h1;exact Heap.lt_size q
   rw[zaf (Nat.ne_of_lt lt)];exact f0
  have I2:Inv X pins σ (upd H s.heap.objs.size (.tup [.int i,x])) { s with heap:=h'',toks:=s.toks + 1 }:=by
   have back:∀ b o,(s.heap.push { cls:=.type "tuple",data:=.seq #[.int i s.toks,u] }).get? b=some o→b≠e→b≠it→h''.get? b=some o:=fun b o q n1 n2=>by
    rcases Heap.get?_push_cases q with⟨rfl,rfl⟩|q
    ·exact hs'.extBut _ _ n1 a3
    ·exact old' b o n1 n2 q
   refine I1.slots (ch:=[e,it]) (tk:=s.toks + 1) fp1 (fun b o _ hc q=>?_) (fun b o hb q=>⟨o.slots,?_⟩) (fun b hb o q=>?_)
   ·simp only[List.mem_cons,List.not_mem_nil,or_false,not_or] at hc
    exact back b o q hc.1 hc.2
   ·exact back b o q (fun z=>nf e (by simp) (z ▸ hb)) (fun z=>nf it (by simp) (z ▸ hb))
   ·simp only[List.mem_cons,List.not_mem_nil,or_false] at hb
    rcases hb with rfl|rfl
    ·exact⟨_,hz'⟩
    ·obtain⟨o,q,_⟩:=a2;exact⟨_,hs'.extBut _ _ hne.symm q⟩
  refine⟨.ref s.heap.objs.size,_,I2,rfl,⟨_,x,rfl,hTn,rfl,fun xs' q=>by rw[I.list_inj q q1];exact hx⟩,?_,fun b hb=>(fp1 b hb).1⟩
  exact⟨u,hz',a2.extBut hs'.extBut hne.symm⟩
 done:=by
  intro X hP hw hK hc i pins s σ H E I hf st hg
  subst hP hw hK
  obtain⟨xs,q1,hlen⟩:=hg
  obtain⟨old,he,h1⟩:=st
  obtain⟨its,rv,pl,_⟩:=I.list q1
  have e1:=rv.length
  have nf:∀ b∈[e,it],b∉frs X.stack:=fun b hb q=>(List.mem_cons.mp (I.stkSub b q)).elim (hf b hb).2.1 (hf b hb).2.2.1
  refine zhr I.hd he h1 pl.isList (by simp;omega) fun h' hk=>⟨rfl,?_⟩
  refine I.slot0 (ch:=[e,it]) (tk:=s.toks) hf (fun b o _ hc q=>?_) (fun b o hb q=>⟨o.slots,?_⟩)
  ·simp only[List.mem_cons,List.not_mem_nil,or_false,not_or] at hc
   exact hk b o hc.2 q
  ·exact hk b o (fun z=>nf it (by simp) (z ▸ hb)) q
 self:=fun _ _ s _ _ st h=>by
  obtain⟨old,he,_⟩:=st
  exact wpAny_pyIter_enum he h
def iEnum (K:PySem.W.Frag) (ta:TA):TI:=fun σ H R=>ta σ H fun vs H1=>∃ l,vs=[.ref l]∧(∃ xs,SqL K H1 l xs)∧R (Ite K l) H1
section
variable {X:Cx}
theorem za1 {es:List Expr}{k:Nat}{tpos p pos:Pos}{a:Expr}{ta:TA} (hg:Gl X "enumerate") (hm:X.mg "enumerate"=none) (ha:PA X [a] ta) (hs:starEach [a] X.env=[(false,eval a X.env)]:=by rfl) :
  PI X (.Tuple es k tpos) (.Call (.Name "enumerate" p) [a] [] pos) (iEnum X.K ta):=by
 intro pins s σ H R I h
 refine Call_ (zez I hg hm boot_enumerate (PyProof.Rows.callWith_type1 (thn (ha pos pins s σ H _ I h) fun us s1=>L2.ex5 fun vs H1 I1 r1 hq_=>?_) hs rfl))
 obtain⟨l,e,⟨xs,q1⟩,q⟩:=hq_
 subst e
 obtain⟨u,rfl,ru⟩:=zc1 r1
 obtain rfl:u=Value.ref l:=ru
 obtain⟨its,rv,pl,_⟩:=I1.list q1
 refine call_enumerate_list pl.isList fun h' b1 b2 b3 hk=>?_
 refine wpAny_pyIter_enum (s:={ s1 with heap:=h' }) b1 ?_
 refine⟨s1.heap.objs.size + 1,[s1.heap.objs.size + 1,s1.heap.objs.size],_,_,H1,rfl,I1.kept (t':=s1.toks) hk,zhs (Nat.ne_of_gt (Nat.lt_succ_self _)),⟨_,b1,b2⟩,fun b hb=>?_,q⟩
 have ge:s1.heap.objs.size≤b:=by
  simp only[List.mem_cons,List.not_mem_nil,or_false] at hb
  rcases hb with rfl|rfl
  ·exact Nat.le_add_right _ _
  ·exact Nat.le_refl _
 exact I1.fpOk ge (I1.hok.fresh ge)
theorem zb4 {K:PySem.W.Frag}{l:Addr}{xs:List V}{g:TG}{tb:TS}{D:ze7}{σ:St}{H:Hp} (Pv:Nat→St→Hp→Prop) (h0:Pv 0 σ H) (hl:∀ i σ H,i≤xs.length→Pv i σ H→SqL K H l xs)
  (hs:∀ i x T σ H,xs[i]?=some x→H T=none→Pv i σ H→g (.ref T) σ (upd H T (.tup [.int i,x])) fun σ2 H2=>tb { D with nx:=Pv (i + 1),ct:=Pv (i + 1),bk:=D.nx } σ2 H2) (hd:∀ σ H,Pv xs.length σ H→D.nx σ H):ForW (Ite K l) D g tb σ H:=
 wk_ (n:=xs.length) Pv h0 (fun i σ H hi p=>⟨fun h=>⟨xs,xs[i],hl i σ H hi p,by simp[h]⟩,fun h=>⟨xs,hl i σ H hi p,h⟩⟩) (fun i v σ H H' hi p y=>by
 obtain⟨T,x,rfl,hT,rfl,hx⟩:=y
 exact hs i x T σ H (hx xs (hl i σ H (Nat.le_of_lt hi) p)) hT p) hd
end
end L2
namespace L2
open PySem PySem.Spec PyProof.Rows
section
variable {prog:Program}{w:World}{A:Around}{R:Result→Shared→Prop}{I:Addr}{fp wr:List Addr}{n:Nat}{P:Nat→Value→Prop}{St:Nat→Heap→Prop}
end
section
variable {X:Cx}
end
section
variable {prog:Program}{w:World}{A:Around}{R:Result→Shared→Prop}{I:Addr}{fp wr:List Addr}{n:Nat}{P:Nat→Value→Prop}{St:Nat→Heap→Prop}
end
section
variable {X:Cx}
end
section
variable {X:Cx}
end
end L2
namespace L2
open PySem PySem.Spec PyProof.Rows
section
variable {X:Cx}{pins:List (Addr×Obj)}{σ:St}{H:Hp}{s:Shared}
open Classical in
end
end L2
namespace L2
open PySem PySem.Spec PyProof.Rows
section
variable {prog:Program}{w:World}{A:Around}{E:Value→Shared→Prop}{s:Shared}{cs:List Addr}
end
section
variable {X:Cx}
end
end L2
namespace L2
open PySem PySem.Spec PyProof.Rows
section
variable {prog:Program}{w:World}{A:Around}{E:Value→Shared→Prop}{s:Shared}{cs:List Addr}
end
section
variable {X:Cx}
end
end L2
namespace L2
open PySem PySem.Spec PyProof.Rows
section
variable {X:Cx}
end
end L2
namespace L2
open PySem PySem.Spec PyProof.Rows
section
variable {X:Cx}
end
theorem zbv {H:Hp}{a:Addr}{kvs:List (Key×V)}{k:Key}{v:V} (e:H a=some (.dK kvs)) (h:zcp kvs k=some v):zjx H a (kV k) (some v):=h ▸ zjx.k e
theorem zaw {H H':Hp}{d:Addr}{o:HO} (nd:H d=none) (s:zaj H H'):zaj H (upd H' d o):=fun b u e=>by
 rw[zaf (zai e nd)]
 exact s b u e
end L2
namespace L2
open PySem PySem.Spec PyProof.Rows
section
variable {X:Cx}
theorem zgi:zdh X (.type "dict") (fun xs H Q=>∃ d kvs,xs=[.ref d]∧H d=some (.dK kvs)∧∀ l,H l=none→Q (.ref l) (upd H l (.dK kvs))):=by
 intro pins s σ H xs us Q I r h
 obtain⟨d,kvs,rfl,e,q⟩:=h
 obtain⟨u,rfl,ru⟩:=zc1 r
 obtain rfl:u=Value.ref d:=ru
 obtain⟨z,hsm,vs,rel,dd⟩:=zga I.hok e
 refine kt_call_dict hsm dd (by rw[← rel.length];exact z) fun h' hd' hs'=>?_
 have ne:(s.heap.objs.size == sysModules)=false:=(zfI (P:=X.prog) (w:=X.w) (H:=H) s.heap I.big).2.1
 refine⟨.ref s.heap.objs.size,_,I.laid (a:=s.heap.objs.size) (o:=.dK kvs) (t':=s.toks) (fun b o q=>hs'.extBut b o (Nat.ne_of_lt (Heap.lt_size q)) (Heap.get?_push_of_some _ q)) (Nat.le_refl _) ⟨z,ne,vs,rel,hd'⟩,rfl,q _ (I.hok.fresh (Nat.le_refl _))⟩
end
end L2
namespace L2
open PySem PySem.Spec PyProof.Rows
section
variable {X:Cx}
end
end L2
namespace L2
open PySem PySem.Spec PyProof.Rows
section
variable {X:Cx}
end
end L2
namespace L2
open PySem PySem.Spec PyProof.Rows
end L2
namespace L2
open PySem PySem.Spec PyProof.Rows
section
variable {X:Cx}{K:PySem.W.Frag} (hK:X.K=K)
include hK
def rIsX (K:PySem.W.Frag):List V→Hp→VK→Prop:=fun xs H Q=>∃ a C dd vc c b,xs=[.ref a,vc]∧IsX H a C dd∧XDs H dd∧XIs K C∧(∀ u,zaQ vc u→u=c)∧PySem.W.kitOne K (.ref C) c=some b∧Q (.bl b) H
theorem zcA:zdh X (.builtin "isinstance") (rIsX K):=by subst hK;exact zeR
end
end L2
namespace L2
open PySem PySem.Spec PyProof.Rows
section
variable {prog:Program}{w:World}{A:Around}{E:Value→Shared→Prop}{s:Shared}{cs:List Addr}
theorem zeU:typeLookup (.type "list") "keys"=pure none:=am_miss_of_fast (by kernel_rfl)
theorem zjM {α:Type}{o:Value}{name msg:Str}{Q:α→Shared→Prop} (hd:Hd A s.heap)
  (h:∀ h' tk e,(∀ b ob,s.heap.get? b=some ob→h'.get? b=some ob)→(∃ o',h'.get? e=some o'∧o'.cls=.type "AttributeError")→E (.ref e) { s with heap:=h',toks:=tk }) (hm:msg.length≤sizeLine:=by size_fits) :
  wpAny (model prog w) A (raiseAttrError o name msg:Sem α) Q E s:=by
 unfold raiseAttrError
 refine wpAny_bind (wpAny_mkStr (wpAny_bind ?_) hm)
 unfold newExc newTuple
 refine wpAny_bind (wpAny_newObj_type ?_ (by size_fits))
 refine wpAny_bind (m:=firstArgMember _ _) (wpAny_of_eq (a:=Value.none) (by simp only[firstArgMember,attrError_no_first];rfl) ?_)
 rw[ownMembersOf_AttributeError]
 refine wpAny_newObj_type ?_ (by size_fits)
 obtain⟨hp,g,d,tk,os⟩:=s
 have f1:=sub_AttributeError
 repeat (any_goals (first|assumption|wp_step))
 dsimp only
 have lt1:∀ b ob,hp.get? b=some ob→b<hp.objs.size + 1:=fun b ob q=>Nat.lt_succ_of_lt (Heap.lt_size q)
 refine zed ?_ (Heap.get?_update_self _ (Heap.get?_push_size _ rfl) rfl) rfl (by simp) fun h' o' vs' k' e' c' _ _ _ _ _=>
  h h' _ _ (fun b ob q=>k' b ob ?_ ((Heap.get?_update_other _ _ ?_).trans (Heap.get?_push_of_some _ (Heap.get?_push_of_some _ q)))) ⟨o',e',c'⟩
 ·rcases hd with hn|⟨a,cs,ha,c⟩
  ·exact .inl hn
  ·have lt:∀ b∈a::cs,b<hp.objs.size:=c.lt
   refine .inr ⟨a,cs,ha,c.mono fun b ob hb q=>(Heap.get?_update_other _ _ ?_).trans (Heap.get?_push_of_some _ (Heap.get?_push_of_some _ q)),fun z=>?_⟩
   ·simp only[Heap.size_push]
    exact Nat.ne_of_gt (lt1 b ob q)
   ·have:=lt _ z
    simp only[Heap.size_push] at this
    exact absurd (Nat.lt_of_lt_of_le this (Nat.le_succ _)) (Nat.lt_irrefl _)
 ·simp only[Heap.size_push]
  exact Nat.ne_of_lt (lt1 b ob q)
 ·simp only[Heap.size_push]
  exact Nat.ne_of_gt (lt1 b ob q)
theorem zht {l:Addr}{ol:Obj}{tk:Tok}{Q:Fin→Shared→Prop} (hd:Hd A s.heap) (ho:s.heap.get? l=some ol) (hc:ol.cls=.type "list") (hdi:ol.dict=none){its:Array Value}{nn:Nat} (hda:ol.data=.seq its nn)
  (h:∀ h' tk e,(∀ b ob,s.heap.get? b=some ob→h'.get? b=some ob)→(∃ o',h'.get? e=some o'∧o'.cls=.type "AttributeError")→E (.ref e) { s with heap:=h',toks:=tk }) :
  wpAny (model prog w) A (Builtin.«object.__getattribute__» ⟨[.ref l,.str "keys" tk],[]⟩) Q E s:=by
 have hT:s.TypeIs (.ref l) "list":=⟨_,ho,hc⟩
 have f4:=zeU
 unfold Builtin.«object.__getattribute__»
 obtain⟨hp,g,d,tk',os⟩:=s
 obtain⟨oc,od,oda,osl⟩:=ol
 dsimp only at hc hdi hda
 subst hc hdi hda
 repeat (any_goals (first|assumption|wp_step))
 exact zjM hd h (attrMsg_fits (by decide +kernel) (by size_fits))
theorem zjN {l:Addr}{ol:Obj}{Q:Option Value→Shared→Prop} (hd:Hd A s.heap) (ho:s.heap.get? l=some ol) (hc:ol.cls=.type "list") (hdi:ol.dict=none){its:Array Value}{nn:Nat} (hda:ol.data=.seq its nn)
  (h:∀ h' tk,(∀ b ob,s.heap.get? b=some ob→h'.get? b=some ob)→Q none { s with heap:=h',toks:=tk }) :
  wpAny (model prog w) A (getAttr? (.ref l) "keys") Q E s:=by
 unfold getAttr? getAttrBy?
 obtain⟨hp,g,d,tk',os⟩:=s
 have hT:(⟨hp,g,d,tk' + 1,os⟩:Shared).TypeIs (.ref l) "list":=⟨_,ho,hc⟩
 have f1:=sub_AttributeError
 have f2:=F.slot_list_getattribute.lookup
 have f3:=F.slot_list_getattribute.bind (.ref l)
 have f5:typeLookup (.type "list") "__getattr__"=pure none:=am_miss_of_fast (by kernel_rfl)
 unfold getAttrBy
 repeat (any_goals (first|assumption|wp_step))
 refine codeAny_call_builtin F.slot_list_getattribute.plain F.entry_list_ga (F.slot_list_getattribute.check _ _ _ _ _ _ _ _ hT (F.args_list_getattribute_2 _ _) (zht (s:=⟨hp,g,d,tk' + 1,os⟩) hd ho hc hdi hda fun h' tk2 e k' ⟨o',e1,e2⟩=>?_))
 dsimp only
 show wpAny _ _ (getattributeRaised _ _ _ _ _ _ _) _ _ _
 unfold getattributeRaised
 have hE:(⟨h',g,d,tk2,os⟩:Shared).TypeIs (.ref e) "AttributeError":=⟨_,e1,e2⟩
 repeat (any_goals (first|assumption|wp_step))
 exact h h' tk2 k'
end
end L2
namespace L2
open PySem PySem.Spec PyProof.Rows
theorem zbW:entryFor table "dict.update.loop"=some Builtin.«dict.update.loop»:=entryFor_of_tree (by kernel_rfl)
theorem za6:plainId "dict.update.loop"=true:=by decide +kernel
section
variable {prog:Program}{w:World}{A:Around}{R:Result→Shared→Prop}{κ:Type} [DecidableEq κ] {knd:KeyKind prog w κ}{I d:Addr}{fp wr:List Addr}{G:Array GenState→Array GenState→Prop}{n:Nat}{P:Nat→Value→Prop}{St:Nat→Shared→Prop}
theorem zhu (W:WalksS prog w A.in1 I fp wr G n P St) (hdf:d∉fp) (hn:n≤1000) (s0:Shared) (ks:Nat→κ) (vs:Nat→Value) (kvs:Nat→List (κ×Value)) (res:Value)
  (hval:∀ i v,P i v→∃ t key,v=.ref t∧s0.heap.IsTuple t #[key,vs i]∧t∉d::wr∧knd.is (ks i) key=true)
  (hs:∀ i,kvs (i + 1)=stored (kvs i) (ks i) (vs i)) (hl:∀ i,(kvs i).length≤i + 1000) :
  ∀ (k i:Nat) (s:Shared),n - i=k→i≤n→St i s→Moved (d::wr) G s0 s→s.heap.DictOf knd d (kvs i) →
   (∀ s',Moved (d::wr) G s0 s'→s'.heap.DictOf knd d (kvs n)→R (.ok (.ret res)) s') →
   codeAny (model prog w) A (.builtin "dict.update.loop" ⟨[.ref d,.ref I,.int i 0,res],[]⟩) R s:=by
 have hdw:d∉wr:=fun h=>hdf (W.sub _ h)
 have hsub:∀ b∈wr,b∈d::wr:=fun b hb=>List.mem_cons_of_mem _ hb
 intro k
 induction k with
 | zero=>
  intro i s hk hi hst m0 hD hR
  have hin:i=n:=by omega
  subst hin
  refine codeAny_builtin zbW ?_
  rw[Around.under_plainId za6 _]
  show wpAny _ A.in1 (pyNext (.ref I) >>= _) _ _ s
  refine wpAny_bind (W.done s _ _ hst fun s' hm=>?_)
  show wpAny _ A.in1 (pure () >>= fun _=>ret res) _ _ s'
  exact wpAny_bind (wpAny_pure (wpAny_pure (hR s' (Moved.trans W.gtrans m0 (hm.mono hsub)) (by
   obtain⟨o,es,ep,ho,zbt⟩:=hD
   exact⟨o,es,ep,hm.heap d _ hdw ho,zbt⟩))))
 | succ k ih=>
  intro i s hk hi hst m0 hD hR
  have hlt:i<n:=by omega
  refine codeAny_builtin zbW ?_
  rw[Around.under_plainId za6 _]
  show wpAny _ A.in1 (pyNext (.ref I) >>= _) _ _ s
  refine wpAny_bind (W.item i s _ _ hlt hst fun v s' hP hst' hm=>?_)
  obtain⟨t,key,rfl,⟨ot,hot,hct,nt,hdt⟩,htn,hkey⟩:=hval i v hP
  have m1:Moved (d::wr) G s0 s':=Moved.trans W.gtrans m0 (hm.mono hsub)
  have hD':s'.heap.DictOf knd d (kvs i):=by
   obtain⟨o,es,ep,ho,zbt⟩:=hD
   exact⟨o,es,ep,hm.heap d _ hdw ho,zbt⟩
  have hot':=m1.heap t _ htn hot
  have hT:s'.TypeIs (.ref t) "tuple":=⟨_,hot',hct⟩
  dsimp only
  refine wpAny_bind (wpAny_holding (wpAny_bind (wpAny_tryCatch ?_)))
  unfold Builtin.Dict.pairItems
  refine wpAny_bind (wpAny_typeOf hT ?_)
  rw[if_pos (by decide)]
  refine wpAny_bind (wpAny_seqItems hot' hdt (wpAny_pure ?_))
  show wpAny _ _ (holding [key,vs i] (dictSet d key (vs i))) _ _ s'
  refine wpAny_holding (wpAny_dictSet_pairs (knd:=knd) hkey hD' (fun h' hd' hsb=>?_) (by rw[sizeLine_eq];have:=hl i;omega))
  have e1:kvs (i + 1)=stored (kvs i) (ks i) (vs i):=hs i
  rw[← e1] at hd'
  refine wpAny_pure ⟨plainId_quiet za6 _,ih (i + 1) _ (by omega) hlt (W.frame _ s' _ _ hst' (Nat.le_succ _) fun b hb o e=>?_) ?_ hd' hR⟩
  ·rw[hsb.2 b (fun h:b=d=>hdf (by rw[← h];exact hb))];exact e
  ·refine m1.then_heap (Nat.le_succ _) fun b o hb e=>?_
   rw[hsb.2 b (fun h:b=d=>hb (by rw[h];exact List.mem_cons_self))];exact e
end
section
variable {prog:Program}{w:World}{A:Around}{E:Value→Shared→Prop}{s:Shared}{cs:List Addr}{κ:Type} [DecidableEq κ] {knd:KeyKind prog w κ}
end
end L2
namespace L2
open PySem PySem.Spec PyProof.Rows
def zbM (K:PySem.W.Frag) (H:Hp):List (Key×V)→List V→Prop
 | [],ys=>ys=[]
 | kv::r,ys=>∃ t ys',ys=.ref t::ys'∧SqT K H t [kV kv.1,kv.2]∧zbM K H r ys'
def zfR (m:List (Key×V)) (kv:Key×V):List (Key×V):=zdZ m kv.1 kv.2
theorem mkD_len:∀ (kvs m:List (Key×V)),(kvs.foldl zfR m).length≤m.length + kvs.length
 | [],_=>Nat.le_refl _
 | kv::r,m=>by
  have h1:=mkD_len r (zfR m kv)
  have h2:=zcg m kv.1 kv.2
  show(r.foldl zfR (zfR m kv)).length≤_
  unfold zfR at h1 ⊢
  rw[List.length_cons]
  omega
section
variable {X:Cx}{pins:List (Addr×Obj)}{σ:St}{H:Hp}{s:Shared}
theorem zfS (I:Inv X pins σ H s):∀ {kvs:List (Key×V)}{ys:List V}{its:List Value},zbM X.K H kvs ys→zaK ys its→∃ us:List (Key×Value),us.length=its.length∧kvs.length=us.length ∧
  (∀ i v,its[i]?=some v→∃ t key,v=.ref t∧s.heap.IsTuple t #[key,(us.getD i (Sum.inl 0,.none)).2]∧(zaR X.prog X.w).is (us.getD i (Sum.inl 0,.none)).1 key=true) ∧
  ∀ i kv,kvs[i]?=some kv→kv.1=(us.getD i (Sum.inl 0,.none)).1∧zaQ kv.2 (us.getD i (Sum.inl 0,.none)).2
 | [],_,_,h,r=>by
  obtain rfl:_=[]:=h
  cases r
  exact⟨[],rfl,rfl,(fun i v hv=>by simp at hv),fun i kv hk=>by simp at hk⟩
 | kv::kvs,_,_,h,r=>by
  obtain⟨t,ys',rfl,ht,h'⟩:=h
  cases r with
  | cons r1 r2=>
   obtain rfl:=(show _=Value.ref t from r1)
   obtain⟨us,e1,e2,e3,e4⟩:=zfS I h' r2
   obtain⟨ti,rv,hT,_⟩:=I.tuple ht
   obtain⟨key,u,rfl,q1,q2⟩:=zjh rv
   refine⟨(kv.1,u)::us,by rw[List.length_cons,List.length_cons,e1],by rw[List.length_cons,List.length_cons,e2],fun i v hv=>?_,fun i kv' hk=>?_⟩
   ·cases i with
    | zero=>
     obtain rfl:Value.ref t=v:=Option.some.inj hv
     exact⟨t,key,rfl,hT,zie q1⟩
    | succ i=>exact e3 i v hv
   ·cases i with
    | zero=>
     obtain rfl:kv=kv':=Option.some.inj hk
     exact⟨rfl,q2⟩
    | succ i=>exact e4 i kv' hk
end
section
variable {X:Cx}
end
end L2
namespace L2
open PySem PySem.Spec PyProof.Rows
end L2
namespace L2
open PySem PySem.Spec PyProof.Rows PySem.SeqAt
open AutoSeq1 (wpAny_loadPart')
section
variable {prog:Program}{w:World}{A:Around}{s:Shared}
end
section
variable {X:Cx}{pins:List (Addr×Obj)}{σ:St}{H:Hp}{s:Shared}{A:Around}
def zjO (K:PySem.W.Frag) (H:Hp) (kvs:List (Key×V)):Prop:=∀ p∈kvs,∃ d,DtV K H d p.2∧zbD 20 d
theorem zin {kvs:List (Key×V)}:(kvs.map (·.1)).Nodup→∀ p∈kvs,zcp kvs p.1=some p.2:=by
 induction kvs with
 | nil=>intro _ p hp;cases hp
 | cons q r ih=>
  intro nd p hp
  rw[List.map_cons,List.nodup_cons] at nd
  rcases List.mem_cons.mp hp with rfl|hp
  ·exact zaW rfl
  ·rw[zaP (fun e=>nd.1 (by rw[e];exact List.mem_map_of_mem hp))]
   exact ih nd.2 p hp
theorem Inv.dicHits (I:Inv X pins σ H s){kvs:List (Key×V)}{kb:List (Key×Value)} (rb:KV kvs kb) (nd:(kvs.map (·.1)).Nodup) (f:zjO X.K H kvs) (hu:A.units + 20<cLine) :
  ∀ {l:List (Key×V)}{ka:List (Key×Value)},KV l ka→(∀ p∈l,p∈kvs)→PySem.W.KeqHits A s kb ka true:=by
 intro l ka r
 induction r with
 | nil=>exact fun _=>.nil
 | @cons p p' l ka r0 r ih=>
  intro m
  obtain⟨k,y⟩:=p
  obtain⟨k',v⟩:=p'
  have e:k=k':=r0.1
  have ry:zaQ y v:=r0.2
  subst e
  have hv:=zin nd (k,y) (m _ List.mem_cons_self)
  have rel:=rb.val k
  dsimp only at hv
  rw[hv] at rel
  cases e:valueAt kb k with
  | none=>rw[e] at rel;exact rel.elim
  | some v'=>
   rw[e] at rel
   obtain⟨d,hd,dd⟩:=f _ (m _ List.mem_cons_self)
   have q:=I.eqAt (A:=A) hd hd ry rel dd hu
   rw[zb3] at q
   exact .hit e q (ih fun p hp=>m p (List.mem_cons_of_mem _ hp))
end
end L2
namespace L2
open PySem PySem.Spec PyProof.Rows
section
variable {X:Cx}
end
end L2
namespace L2
open PySem PySem.Spec PyProof.Rows
section
variable {X:Cx}{pins:List (Addr×Obj)}{σ:St}{H:Hp}{s:Shared}{scope:Scope}{N:List Str}{cap:List (Option Nat)}{fp:List Addr}
end
section
variable {X:Cx}{elt tg iter:Expr}{ifs:List Expr}{scope:Scope}{pos:Pos}{N:List Str}{cap:List (Option Nat)}{wi:TI}{g:TG}{tt:TT}{te:TE}
end
end L2
namespace L2
open PySem PySem.Spec PyProof.Rows
section
variable {X:Cx}{e st:Expr}{te ts:TE}{pos p2:Pos}
end
end L2
namespace L2
open PySem PySem.Spec PyProof.Rows
theorem zfT {X:Cx}:OpR X (binaryOp .FloorDiv) (rI (fun _ j=>0<j∧j<2 ^ 62) fun i j=>.int (i / j)):=opI fun i j _ _ _ _ _ hc q=>by
 have h1:(0:Int)<j:=hc.1
 have h2:j<2 ^ 62:=hc.2
 refine floordiv_int (by omega) (by rw[Int.fdiv_eq_ediv_of_nonneg i (by omega)];exact q) (.inl (PyProof.noPylong_of_log2 ?_))
 exact(Nat.log2_lt (by omega)).mpr (Nat.lt_of_lt_of_le (by omega:j.natAbs<2 ^ 62) (Nat.pow_le_pow_right (by decide) (by decide)))
end L2
namespace L2
open PySem PySem.Spec PyProof.Rows
open Sem (wp)
section
variable {M:Model}{A:Around}{E:Value→Shared→Prop}{s:Shared}{env:Env}
end
section
variable {prog:Program}{w:World}{A:Around}{E:Value→Shared→Prop}{s:Shared}
end
section
variable {prog:Program}{w:World}{A:Around}{E:Value→Shared→Prop}{s:Shared}
end
section
variable {prog:Program}{w:World}{A:Around}{E:Value→Shared→Prop}{s:Shared}
end
section
variable {prog:Program}{w:World}{A:Around}{E:Value→Shared→Prop}{s:Shared}
end
section
variable {X:Cx}
end
section
end
end L2
namespace L2
open PySem PySem.Spec PyProof.Rows
def alike (c:Int) (l:List Keyed):List Keyed:=l.filter fun p=>numOf p.1 == c
structure Dn (O:List Keyed) (x neq:Nat) (l U B C O1:List Keyed) (b:Int):Prop where
 arr:l=U++B++C
 org:O=O1++B++C
 len:U.length + B.length=x
 lb:B.length=neq + 1
 fil:∀ c,alike c U=(alike c O1).reverse
 eqb:∀ p∈B,numOf p.1=b
 gt:∀ p∈U,b<numOf p.1
 dec:U.Pairwise fun p q=>numOf q.1≤numOf p.1
section
variable {O U B C O1:List Keyed}{x neq:Nat}{b:Int}{xs:Array Keyed}{p:Keyed}
end
section
variable {prog:Program}{w:World}{Ar:Around}{E:Value→Shared→Prop}{s:Shared}{a₀:Array Keyed}{O:List Keyed}
end
end L2
namespace L2
open PySem PySem.Spec PyProof.Rows
section
variable {X:Cx}{pins:List (Addr×Obj)}{σ:St}{H:Hp}{s:Shared}{scope:Scope}{params:Arguments}{body:Expr}{pos:Pos}{c P:Addr}{N:List Str}{cap:List (Option Nat)}
end
end L2
namespace L2
open PySem PySem.Spec PyProof.Rows
section
variable {X:Cx}{pins:List (Addr×Obj)}{σ:St}{H H1:Hp}{s:Shared}
variable {A:Around}{E:Value→Shared→Prop}{P:PySem.Fin→Shared→Prop}{f D kS:Addr}{fo:Obj}{key:V→Int}{xs:List V}{vs:List Value}{e1:Nat}
end
end L2
namespace L2
open PySem PySem.Spec PyProof.Rows
def fdCode (K:PySem.W.Frag) (f:Addr):Option Value:=match K.lookup f with
 | some ⟨_,_,.func fd,_⟩=>some fd.code
 | _=>none
structure LamIn (K:PySem.W.Frag) (f P:Addr):Prop where
 ex:∃ c,fdCode K f=some (.ref c)∧PySem.W.codeHdIn K c P=true
 no:K.lookup P=none
structure LamDef (K:PySem.W.Frag) (mg:Str→Option Value) (x:Str) (P:Addr):Prop where
 ex:∃ f,mg x=some (.ref f)∧LamIn K f P
section
variable {P:Program}{w:World}{K:PySem.W.Frag}{mg:Str→Option Value}{base:Heap}
end
abbrev Tab:=Addr×Pos×Str
def zhv (ts:List Tab) (H:Hp):Prop:=(∀ t∈ts,H t.1=some (.tbl t.2.1 t.2.2))∧∀ b u,H b=some u→(∃ o xs,u=.frz o (.lst xs))∨∃ t∈ts,b=t.1∧u=.tbl t.2.1 t.2.2
def zjP:List Tab→Hp→Hp
 | [],H=>H
 | t::ts,H=>upd (zjP ts H) t.1 (.tbl t.2.1 t.2.2)
theorem zfn:∀ {ts:List Tab}{H:Hp},(ts.map (·.1)).Nodup→∀ t∈ts,zjP ts H t.1=some (.tbl t.2.1 t.2.2)
 | [],_,_,t,h=>by simp at h
 | q::ts,H,nd,t,h=>by
  rcases List.mem_cons.mp h with z|z
  ·rw[z];exact zab
  ·have n:t.1≠q.1:=fun y=>(List.nodup_cons.mp (show(q.1::ts.map (·.1)).Nodup from nd)).1 (List.mem_map.mpr ⟨t,z,y⟩)
   show upd _ _ _ _=_
   rw[zaf n]
   exact zfn (List.nodup_cons.mp nd).2 t z
theorem zen:∀ {ts:List Tab}{H:Hp}{b:Addr}{u:HO},zjP ts H b=some u→H b=some u∨∃ t∈ts,b=t.1∧u=.tbl t.2.1 t.2.2
 | [],_,_,_,h=>.inl h
 | q::ts,H,b,u,h=>by
  have h:upd (zjP ts H) q.1 (.tbl q.2.1 q.2.2) b=some u:=h
  by_cases z:b=q.1
  ·rw[z,zab] at h
   exact .inr ⟨q,List.mem_cons_self,z,(Option.some.inj h).symm⟩
  ·rw[zaf z] at h
   rcases zen h with y|⟨t,h1,h2⟩
   ·exact .inl y
   ·exact .inr ⟨t,List.mem_cons_of_mem _ h1,h2⟩
theorem zhw:∀ {ts:List Tab}{H:Hp}{b:Addr},(∀ t∈ts,b≠t.1)→zjP ts H b=H b
 | [],_,_,_=>rfl
 | q::ts,H,b,h=>by
  show upd _ _ _ _=_
  rw[zaf (h q List.mem_cons_self)]
  exact zhw fun t ht=>h t (List.mem_cons_of_mem _ ht)
theorem zhx {P:Program}{w:World}{K:PySem.W.Frag}{mg mb:Str→Option Value}{CX:CXT}{k:Nat}{fa a:Addr}{fd:FuncData}{x:Str}{sp:Sp}{s₁:Shared}{vs:List Value}{ns:List Int}{ts:List Tab}
  (KX:K.In s₁.heap) (hns:s₁.heap.Ns mainGlobals mg) (hb:s₁.heap.Ns builtinsNs mb) (hbb:∀ x:Str,x≠"__name__"→mb x=bootBuiltins x) (hlim:s₁.heap.NoLimit)
  (hbm:∃ bm ob,mg "__builtins__"=some (.ref bm)∧bm≠builtinsNs∧s₁.heap.get? bm=some ob∧ob.cls=.type "module"∧ob.dict=some builtinsNs∧ob.data=.plain) (hg:s₁.gens=#[])
  (ha:s₁.heap.get? a=some { cls:=.type "list",data:=.seq vs.toArray }) (hi:IntsAre vs ns) (hl:ns.length≤sizeLine) (hr:zb7 k callerA)
  (nd:(ts.map (·.1)).Nodup) (hts:∀ t∈ts,s₁.heap.get? t.1=some (PySem.W.tabObj #[])∧(∃ c,PySem.W.codeHdIn K c t.1=true)∧K.lookup t.1=none)
  (F:∀ base:Heap,K.In base→base.Ns mainGlobals mg→zc5 P w K mg base CX k fa fd [x] sp) (hbind:∀ (s:Shared) (u:Value),BindsTo s fd ⟨[u],[]⟩ [(x,u)])
  (hsp:∀ H:Hp,zhv ts H→SqL K H a (ns.map V.int)→sp [.ref a] H (fun v _=>v=.bl true) fun _ _ _=>False)
  (hCX:∀ H e s',CX [] H s₁ (fun _ _ _=>False) e s'→False) :
  codeAny (model P w) callerA (.call (.ref fa) ⟨[.ref a],[]⟩) (fun r s'=>r=.ok (.ret (.bool true))∧OldK s₁.heap s'.heap∧s'.os=s₁.os∧AllBare s'.gens) s₁:=by
 have rv:=zeM hi
 have lenV:=hi.length
 have core:∀ H:Hp,(∀ t∈ts,H t.1=some (.tbl t.2.1 t.2.2))→(∀ b u,H b=some u→(b=a∧K.lookup a=none∧u=.frz { cls:=.type "list",data:=.seq vs.toArray } (.lst (ns.map V.int)))∨∃ t∈ts,b=t.1∧u=.tbl t.2.1 t.2.2)→SqL K H a (ns.map V.int) →
   codeAny (model P w) callerA (.call (.ref fa) ⟨[.ref a],[]⟩) (fun r s'=>r=.ok (.ret (.bool true))∧OldK s₁.heap s'.heap∧s'.os=s₁.os∧AllBare s'.gens) s₁:=by
  intro H h1 h2 hS
  have hO:zhv ts H:=⟨h1,fun b u q=>(h2 b u q).elim (fun z=>.inl ⟨_,_,z.2.2⟩) .inr⟩
  have hok:HOk P w H s₁.heap:=fun b u q=>by
   rcases h2 b u q with⟨rfl,_,rfl⟩|⟨t,ht,rfl,rfl⟩
   ·exact⟨ha,by rw[List.length_map];exact hl,vs,_,rv,ha⟩
   ·exact .inl (hts t ht).1
  have free:∀ {b:Addr}{o:Obj},s₁.heap.get? b=some o→(∀ xs n,o.data≠.seq xs n)→(∀ xs,o.data≠.fields xs)→H b=none:=fun {b o} e n1 n2=>by
   cases q:H b with
   | none=>rfl
   | some u=>
    rcases h2 b u q with⟨rfl,_,_⟩|⟨t,ht,rfl,_⟩
    ·rw[ha] at e;cases e
     exact(n1 _ _ rfl).elim
    ·rw[(hts t ht).1] at e;cases e
     exact(n2 _ rfl).elim
  have nsK:∀ {b:Addr}{m:Str→Option Value},s₁.heap.Ns b m→(ziL s₁.heap H).Ns b m:=fun {b m} ⟨o,es,ep,e,d,r⟩=>⟨o,es,ep,zee e (free e (by rw[d];intro _ _ z;cases z) (by rw[d];intro _ z;cases z)),d,r⟩
  have hKb:K.In (ziL s₁.heap H):=fun b o e=>zee (KX b o e) (by
   cases q:H b with
   | none=>rfl
   | some u=>
    rcases h2 b u q with⟨rfl,z,_⟩|⟨t,ht,rfl,_⟩
    ·rw[z] at e;cases e
    ·rw[(hts t ht).2.2] at e;cases e)
  have hM:Mod K mg (ziL s₁.heap H):=⟨hKb,nsK hns,⟨mb,nsK hb,hbb⟩,let ⟨mc,y1,y2⟩:=hlim;⟨mc,nsK y1,y2⟩,by
   obtain⟨bm,ob,a1,a2,a3,a4,a5,a6⟩:=hbm
   exact⟨bm,ob,a1,a2,zee a3 (free a3 (by rw[a6];intro _ _ z;cases z) (by rw[a6];intro _ z;cases z)),a4,a5,a6⟩⟩
  have e0:zjl P w K mg (ziL s₁.heap H) callerA [] s₁ H:=⟨rfl,hM,fun b o e=>zjb e,Nat.le_of_eq (zgy _ _),trivial,fun b hb=>absurd (show b∈([]:List Addr) from hb) (by simp),hok,.of_eq hg,.inl rfl⟩
  refine codeAny_mono ((F _ hKb (nsK hns)).run callerA [] s₁ H ⟨[.ref a],[]⟩ [.ref a] [.ref a] _ _ hr e0 (hbind s₁ (.ref a)) (.cons rfl .nil) (hsp H hO hS)) fun r s' h=>?_
  cases r with
  | error e=>exact(hCX H e s' h).elim
  | ok fl=>
   cases fl with
   | next=>exact False.elim h
   | brk=>exact False.elim h
   | cont=>exact False.elim h
   | ret u=>
    obtain⟨v,H',os,bare,un,hok',r',q⟩:=h
    have q':v=.bl true:=q
    subst q'
    obtain rfl:u=Value.bool true:=r'
    have no:∀ b:Addr,b∉frs []:=fun b z=>absurd (show b∈([]:List Addr) from z) (by simp)
    refine⟨rfl,⟨fun b o e=>?_,fun b o e=>un.there b o e (by simp)⟩,os,bare⟩
    cases q:H b with
    | none=>exact .inl (un.keep b o e q (no b) (by simp))
    | some u=>
     rcases h2 b u q with⟨rfl,_,rfl⟩|⟨t,ht,rfl,rfl⟩
     ·obtain⟨y1,_⟩:=hok _ _ q
      obtain⟨y2,_⟩:=hok' _ _ (un.frzs _ _ _ q)
      rw[e] at y1;cases y1
      exact .inl y2
     ·obtain⟨g1,⟨c,g2⟩,_⟩:=hts t ht
      rw[e] at g1;cases g1
      rcases hok' _ _ (un.tbls _ _ _ q) with y|⟨c',oc,xs,tt,_,_,_,y⟩
      ·exact .inl y
      ·exact .inr (.inl ⟨((PySem.W.codeHd_of_K KX g2).tab e).isCodeTable,rfl,#[],#[rawInt t.2.1.line,rawInt t.2.1.col,.ref c'],rfl,y⟩)
 have apart:∀ t∈ts,a≠t.1:=fun t ht z=>by
  have y:=(hts t ht).1
  rw[← z,ha] at y;cases y
 cases hk:K.lookup a with
 | some o=>
  have e:=KX a o hk
  rw[ha] at e
  cases e
  refine core (zjP ts fun _=>none) (zfn nd) (fun b u q=>.inr ((zen q).elim (fun z=>by cases z) id)) (.inr ⟨_,vs.toArray,_,hk,rfl,rfl,rfl,by rw[List.size_toArray,lenV];exact hl,by simpa using rv⟩)
 | none=>
  refine core (zjP ts (upd (fun _=>none) a (.frz { cls:=.type "list",data:=.seq vs.toArray } (.lst (ns.map V.int))))) (zfn nd) (fun b u q=>?_) (.inl (.inr ⟨_,by rw[zhw apart];exact zab⟩))
  rcases zen q with z|z
  ·by_cases y:b=a
   ·rw[y,zab] at z
    exact .inl ⟨y,hk,(Option.some.inj z).symm⟩
   ·rw[zaf y] at z;cases z
  ·exact .inr z
theorem zio {l:PySem.W.OpenLaw}{n k:Nat}{q:Program}{loose:List Str}{XP:(Str→Option Value)→Heap→Prop}{YP:World→Heap→Prop}{d:DefRec}{K:Params→PySem.W.Frag}{x:Str}{TS:List Addr}
  (hn:l.most=some n) (hn2:n≤sizeLine) (hdf:d.params.defaults=[]) (hr:zb7 k callerA)
  (hY:∀ (w:World) (h:Heap),YP w h→(K w.params).In h∧∀ P∈TS,h.get? P=some (PySem.W.tabObj #[]))
  (F:∀ (w:World) (mg:Str→Option Value) (fa:Addr) (h:Heap),(K w.params).In h→h.Ns mainGlobals mg→mg d.name=some (.ref fa) →
   ∃ (fd:FuncData) (ts:List Tab) (sp:Sp),(∀ (s:Shared) (u:Value),BindsTo s fd ⟨[u],[]⟩ [(x,u)])∧(ts.map (·.1)).Nodup∧(∀ t∈ts,t.1∈TS∧(∃ c,PySem.W.codeHdIn (K w.params) c t.1=true)∧(K w.params).lookup t.1=none) ∧
    (∀ (H:Hp) (a:Addr) (ns:List Int),ns.length≤n→zhv ts H→SqL (K w.params) H a (ns.map V.int)→sp [.ref a] H (fun v _=>v=.bl true) fun _ _ _=>False) ∧
    ∀ base:Heap,(K w.params).In base→base.Ns mainGlobals mg→zc5 l.prog w (K w.params) mg base CX0 k fa fd [x] sp) :
  PySem.W.WalkO q loose XP YP l.row.toRowW d [] (fun f vs=>PySem.call f vs):=by
 refine Att.zfh hn hdf fun w s₀ s₁ mg mb fa o pm cd doc a vs ns G Y ho hd hcd hmg hobj hints hlen hg=>?_
 obtain⟨KX,tb⟩:=hY w _ Y
 obtain⟨fd,ts,sp,hb,nd,ht,hsp,hF⟩:=F w mg fa _ KX G.T.g hmg
 exact zhx KX G.T.g G.T.b G.T.builtins G.T.nolimit G.T.bmain hg hobj hints (Nat.le_trans hlen hn2) hr nd (fun t m=>⟨tb _ (ht t m).1,(ht t m).2⟩) hF hb (fun H hO hS=>hsp H a ns hlen hO hS) fun H e s' z=>z
end L2
namespace L2
open PySem PySem.Spec PyProof.Rows
section
variable {X:Cx}{a b:Expr}{zbt:List Expr}{ta tb:TE}{pos:Pos}
end
end L2
namespace L2
open PySem PySem.Spec PyProof.Rows
section
variable {prog:Program}{w:World}{A:Around}{E:Value→Shared→Prop}{s:Shared}
end
end L2
namespace L2
open PySem PySem.Spec PyProof.Rows
section
variable {X:Cx}{pins:List (Addr×Obj)}{σ:St}{H H1:Hp}{s:Shared}{A:Around}{E:Value→Shared→Prop}
variable {f d it S:Addr}{fo o:Obj}{key:V→Int}{kvs:List (Key×V)}{es:Array DictEntry}{ep:Nat}
variable {R:Result→Shared→Prop}
end
end L2
namespace L2
open PySem PySem.Spec PyProof.Rows
section
variable {prog:Program}{w:World}{A:Around}{E:Value→Shared→Prop}{s:Shared}{cs:List Addr}
end
def rng (n:Nat):List V:=(List.range n).map fun i=>V.int (i:Nat)
end L2
namespace L2
open PySem PySem.Spec PyProof.Rows
end L2
namespace L2
open PySem PySem.Spec PyProof.Rows
section
variable {X:Cx}
end
end L2
namespace L2
open PySem PySem.Spec PyProof.Rows
section
variable {X:Cx}
end
end L2
namespace L2
open PySem PySem.Spec PyProof.Rows
section
variable {prog:Program}{w:World}{A:Around}{E:Value→Shared→Prop}{s:Shared}{cs:List Addr}
structure DApart (z TI TO i1 i2 l1 l2 d:Addr):Prop where
 z:z≠d
 TI:TI≠d
 TO:TO≠d
 i1:i1≠d
 i2:i2≠d
 l1:l1≠d
 l2:l2≠d
end
section
variable {prog:Program}{w:World}{A:Around}{R:Result→Shared→Prop}{cs:List Addr}{κ:Type} [DecidableEq κ] {knd:KeyKind prog w κ}
end
section
variable {prog:Program}{w:World}{A:Around}{E:Value→Shared→Prop}{s:Shared}{cs:List Addr}
end
section
variable {prog:Program}{w:World}{A:Around}{E:Value→Shared→Prop}{s:Shared}{cs:List Addr}{κ:Type} [DecidableEq κ] {knd:KeyKind prog w κ}
end
section
variable {X:Cx}
end
end L2
namespace L2
open PySem PySem.Spec PyProof.Rows
section
variable {prog:Program}{w:World}{A:Around}{E:Value→Shared→Prop}{s:Shared}{cs:List Addr}
variable {κ:Type} [DecidableEq κ] {knd:KeyKind prog w κ}
end
section
variable {X:Cx}
end
section
variable {g:TG}{tt:TT}{te:TE}
end
end L2
namespace L2
open PySem PySem.Spec PyProof.Rows
theorem zan.of {N P:List Str}{sc:Scope} (h:sc.kind=.function∧sc.isCoroutine=false∧sc.isGenerator=false∧N.Nodup∧N.take P.length=P∧(∀ x∈P,sc.names.lookup x=some .local∨sc.names.lookup x=some .cell)∧∀ y∈sc.names,y.2≠.free):zan N P sc:=⟨h.1,h.2.1,h.2.2.1,h.2.2.2.1,h.2.2.2.2.1,h.2.2.2.2.2.1,h.2.2.2.2.2.2⟩
section
variable {K:PySem.W.Frag}{h:Heap}{mg:Str→Option Value}{x m qual:Str}{st:Stmt}{ps:List Str}{f C cL TP:Addr}{oc oc2:Value}{od an od2:Option Addr}{osl sl2:Array (Option Value)}{kV doc pm cdv ct:Value}{vs:Array Value}
abbrev fnN (x qual:Str) (st:Stmt) (kV doc pm:Value) (an:Option Addr) (cdv ct:Value):FuncData:=PySem.W.fnOf x qual (zdn st) (zci st) (zag st) .none kV doc pm an cdv ct
theorem def_mk (X:K.In h) (G:h.Ns mainGlobals mg) (a:PySem.W.nsIn K mainGlobals x=some (some (.ref f))) (l:K.lookup f=some ⟨oc,od,.func (fnN x x st kV doc pm an cdv ct),osl⟩) (c:PySem.W.codeIn K cdv x=true) (k:PySem.W.keepIn K (.ref f)=true)
  (b:∀ us:List Value,us.length=ps.length→bindArgs (fnN x x st kV doc pm an cdv ct) ⟨us,[]⟩=pure (ps.zip us)):Def K mg x st ps []:=⟨⟨_,_,[],zdu l c,PySem.W.mg_of X G a,k,.all b,.nil⟩⟩
theorem met_mk (a:PySem.W.findIn K (.ref C) m=some (some (.ref f))) (i:PySem.W.isFn K (.ref f)=true) (l:K.lookup f=some ⟨oc,od,.func (fnN m qual st kV doc pm an cdv ct),osl⟩) (c:PySem.W.codeIn K cdv qual=true) (k:PySem.W.keepIn K (.ref f)=true)
  (b:∀ us:List Value,us.length=ps.length→bindArgs (fnN m qual st kV doc pm an cdv ct) ⟨us,[]⟩=pure (ps.zip us)):Met K C m qual st ps []:=⟨⟨f,_,[],zdu l c,⟨a,i,k⟩,.all b,.nil⟩⟩
theorem ini_mk (X:K.In h) (G:h.Ns mainGlobals mg) (g:PySem.W.nsIn K mainGlobals x=some (some (.ref C))) (mk:PySem.W.makesIn K C=true) (kc:PySem.W.keepIn K (.ref C)=true) (a:PySem.W.findIn K (.ref C) "__init__"=some (some (.ref f))) (i:PySem.W.isFn K (.ref f)=true) (l:K.lookup f=some ⟨oc,od,.func (fnN "__init__" qual st kV doc pm an cdv ct),osl⟩) (c:PySem.W.codeIn K cdv qual=true)
  (b:∀ us:List Value,us.length=ps.length→bindArgs (fnN "__init__" qual st kV doc pm an cdv ct) ⟨us,[]⟩=pure (ps.zip us)):Ini K mg C x qual st ps:=⟨⟨f,_,zdu l c,⟨mk,a,i,kc⟩,PySem.W.mg_of X G g,.all b⟩⟩
theorem zjQ (X:K.In h) (G:h.Ns mainGlobals mg) (g:PySem.W.nsIn K mainGlobals x=some (some (.ref C))) (xa:zg6 K C bmV "ValueError.__new__"=true) (kc:PySem.W.keepIn K (.ref C)=true) (a:PySem.W.findIn K (.ref C) "__init__"=some (some (.ref f))) (i:PySem.W.isFn K (.ref f)=true) (l:K.lookup f=some ⟨oc,od,.func (fnN "__init__" qual st kV doc pm an cdv ct),osl⟩) (c:PySem.W.codeIn K cdv qual=true)
  (b:∀ us:List Value,us.length=ps.length→bindArgs (fnN "__init__" qual st kV doc pm an cdv ct) ⟨us,[]⟩=pure (ps.zip us)):XIni K mg C x qual st ps:=⟨⟨f,_,zdu l c,⟨xa,kc,a,i⟩,PySem.W.mg_of X G g,.all b⟩⟩
theorem int_mk {n:Int}{t:Tok} (X:K.In h) (G:h.Ns mainGlobals mg) (a:PySem.W.nsIn K mainGlobals x=some (some (.int n t))):∃ t,mg x=some (.int n t):=⟨t,PySem.W.mg_of X G a⟩
theorem str_mk {n:Str}{t:Tok} (X:K.In h) (G:h.Ns mainGlobals mg) (a:PySem.W.nsIn K mainGlobals x=some (some (.str n t))):∃ t,mg x=some (.str n t):=⟨t,PySem.W.mg_of X G a⟩
end
end L2
namespace L2
open PySem PySem.Spec PyProof.Rows PySem.SeqAt
open AutoSeq1 (wpAny_loadPart')
section
variable {prog:Program}{w:World}{A:Around}{s:Shared}
end
section
variable {X:Cx}
end
end L2
namespace L2
open PySem PySem.Spec PyProof.Rows
section
variable {prog:Program}{w:World}{A:Around}{E:Value→Shared→Prop}{s:Shared}{cs:List Addr}{κ:Type} [DecidableEq κ] {knd:KeyKind prog w κ}
set_option maxHeartbeats 3200000 in
theorem ziq {d l:Addr}{ol:Obj}{its:Array Value}{nn:Nat}{Q:Value→Shared→Prop} (hc:HdC A cs) (ch:Chn s.heap cs) (ho:s.heap.get? l=some ol) (hcl:ol.cls=.type "list") (hdi:ol.dict=none) (hda:ol.data=.seq its nn) (hz:its.size≤1000)
  (ks:Nat→κ) (vs:Nat→Value) (kvs:Nat→List (κ×Value)) (h0:s.heap.DictOf knd d (kvs 0)) (hs:∀ i,kvs (i + 1)=stored (kvs i) (ks i) (vs i)) (hl:∀ i,(kvs i).length≤i + 1000)
  (hval:∀ i v,its[i]?=some v→∃ t key,v=.ref t∧s.heap.IsTuple t #[key,vs i]∧knd.is (ks i) key=true)
  (h:∀ h' tk,h'.DictOf knd d (kvs its.size)→(∀ b o,b≠d→s.heap.get? b=some o→h'.get? b=some o)→Q .none { s with heap:=h',toks:=tk }) :
  wpAny (model prog w) A (call (.builtin "dict.update") [.ref d,.ref l]) Q E s:=by
 have dl:d<s.heap.objs.size:=let ⟨_,_,_,hg,_⟩:=h0;Heap.lt_size hg
 have ll:l<s.heap.objs.size:=Heap.lt_size ho
 have ndl:d≠l:=fun z=>by
  obtain⟨o,es,ep,hg,_,hd,_⟩:=h0
  rw[z,ho] at hg
  cases hg
  rw[hda] at hd
  cases hd
 have ndt:∀ t is,s.heap.IsTuple t is→t≠d:=fun t is ht z=>by
  obtain⟨ot,hot,_,_,e2⟩:=ht
  obtain⟨o,es,ep,hg,_,hd,_⟩:=h0
  rw[z,hg] at hot
  cases hot
  rw[hd] at e2
  cases e2
 have ndc:d∉cs:=fun z=>by
  obtain⟨j,hj⟩:=List.mem_iff_getElem?.mp z
  obtain⟨o,vs,e1,e2,_⟩:=ch.2 j d hj
  obtain⟨o',es,ep,hg,_,hd,_⟩:=h0
  rw[e1] at hg
  cases hg
  rw[e2] at hd
  cases hd
 have lt:∀ b∈cs,b<s.heap.objs.size:=ch.lt
 refine wpAny_call (codeAny_call_builtin F.slot_dict_update.plain F.entry_dict_update (F.slot_dict_update.check _ _ _ _ _ _ _ _ h0.typeIs (F.args_dict_update_2 _ _) ?_))
 unfold Builtin.«dict.update»
 refine wpAny_bind ?_
 unfold Builtin.Dict.selfAndRest
 refine wpAny_bind (wpAny_notOrdered_dict h0.typeIs ?_)
 show wpAny _ _ (pure (d,[Value.ref l])) _ _ _
 refine wpAny_pure ?_
 show wpAny _ _ (Builtin.Dict.updateFrom "dict.update" d (.ref l) [] .none) _ _ _
 unfold Builtin.Dict.updateFrom
 have hT:Shared.TypeIs s (.ref l) "list":=⟨_,ho,hcl⟩
 refine wpAny_bind (wpAny_typeOf hT ?_)
 rw[if_pos (by decide)]
 refine wpAny_bind ?_
 refine zjN (HdC.hd (A:=A.in1) hc ch) ho hcl hdi hda fun h2 tk2 k2=>?_
 have ho2:=k2 _ _ ho
 have hl2:h2.IsList l its:=⟨_,ho2,hcl,nn,hda⟩
 have ch2:Chn h2 cs:=ch.mono fun b o _ e=>k2 b o e
 rw[if_pos (show(none:Option Value).isNone=true from rfl)]
 refine wpAny_bind (wpAny_rule ?_)
 refine wpAny_bind (wpAny_pyIter_list hl2 ?_)
 have lh2:∀ b o,s.heap.get? b=some o→b<h2.objs.size:=fun b o e=>Heap.lt_size (k2 _ _ e)
 have hdl:d<h2.objs.size:=let ⟨_,_,_,hg,_⟩:=h0;lh2 _ _ hg
 have hll:l<h2.objs.size:=lh2 _ _ ho
 have hcl2:∀ b∈cs,b<h2.objs.size:=ch2.lt
 have W:=(zd5 (prog:=prog) (w:=w) (A:=A.in1) hc h2.objs.size l (Nat.ne_of_lt hll) (fun z=>absurd (hcl2 _ z) (Nat.lt_irrefl _)) its).toS
 refine wpAny_pure ⟨plainId_quiet za6 _,zhu (knd:=knd) (A:=A) W (fun z=>?_) hz _ ks vs kvs .none (fun i v hv=>?_) hs hl (its.size - 0) 0 _ rfl (Nat.zero_le _) ⟨⟨_,Heap.get?_push_size _ rfl,rfl,rfl⟩,hl2.push _,ch2.mono fun b o _ e=>Heap.get?_push_of_some _ e⟩ ⟨fun _ _ _ e=>e,W.grefl _,rfl,rfl,Nat.le_refl _⟩ ?_ fun s' hm hD=>?_⟩
 ·rcases List.mem_cons.mp z with z|z
  ·exact absurd z (Nat.ne_of_lt hdl)
  ·rcases List.mem_cons.mp z with z|z
   ·exact ndl z
   ·exact ndc z
 ·obtain⟨t,key,e1,⟨ot,hot,r⟩,hk⟩:=hval i v hv
  refine⟨t,key,e1,⟨ot,Heap.get?_push_of_some _ (k2 _ _ hot),r⟩,fun z=>?_,hk⟩
  rcases List.mem_cons.mp z with z|z
  ·exact ndt t _ ⟨ot,hot,r⟩ z
  ·exact absurd (List.mem_singleton.mp z) (Nat.ne_of_lt (lh2 _ _ hot))
 ·obtain⟨o,es,ep,hg,zbt⟩:=h0
  exact⟨o,es,ep,Heap.get?_push_of_some _ (k2 _ _ hg),zbt⟩
 ·obtain⟨h',g',d',tk',os'⟩:=s'
  have eg:g'=s.gens:=hm.gens
  have ed:d'=s.drawn:=hm.drawn
  have eo:os'=s.os:=hm.os
  subst eg;subst ed;subst eo
  refine h h' tk' hD fun b o nb e=>hm.heap b o (fun z=>?_) (Heap.get?_push_of_some _ (k2 _ _ e))
  rcases List.mem_cons.mp z with z|z
  ·exact nb z
  ·exact absurd (List.mem_singleton.mp z) (Nat.ne_of_lt (lh2 _ _ e))
end
def stU (b us:List (Key×Value)):Nat→List (Key×Value)
 | 0=>b
 | i + 1=>stored (stU b us i) (us.getD i (Sum.inl 0,.none)).1 (us.getD i (Sum.inl 0,.none)).2
theorem zhy (b us:List (Key×Value)):∀ i,(stU b us i).length≤i + b.length
 | 0=>by show b.length≤_;omega
 | i + 1=>Nat.le_trans (stored_length_le _ _ _) (by have:=zhy b us i;omega)
theorem ziX {m kvs:List (Key×V)}{b us:List (Key×Value)} (h0:KV m b) (h:∀ i kv,kvs[i]?=some kv→kv.1=(us.getD i (Sum.inl 0,.none)).1∧zaQ kv.2 (us.getD i (Sum.inl 0,.none)).2):∀ i,i≤kvs.length→KV ((kvs.take i).foldl zfR m) (stU b us i)
 | 0,_=>by rw[List.take_zero];exact h0
 | i + 1,hi=>by
  obtain⟨kv,hk⟩:∃ kv,kvs[i]?=some kv:=⟨_,List.getElem?_eq_getElem (by omega)⟩
  obtain⟨e1,e2⟩:=h i kv hk
  have ih:=ziX h0 h i (by omega)
  rw[List.take_add_one,hk,List.foldl_append]
  show KV (zfR ((kvs.take i).foldl zfR m) kv) (stored (stU b us i) _ _)
  rw[← e1]
  exact ih.put _ e2
section
variable {X:Cx}
def zjR (K:PySem.W.Frag):V→List V→Hp→VK→Prop:=fun x vs H Q=>∃ d p kvs0 ys kvs,x=.ref d∧vs=[.ref p]∧H d=some (.dK kvs0)∧SqL K H p ys∧zbM K H kvs ys∧kvs0.length≤1000∧kvs.length≤1000∧Q .non (upd H d (.dK (kvs.foldl zfR kvs0)))
theorem zhz:MtR X "dict.update" (zjR X.K):=by
 intro pins s σ H x xs v us Q I rx r h
 obtain⟨d,p,kvs0,ys,kvs,rfl,rfl,e,hq,hP,hl0,hlen,q⟩:=h
 obtain rfl:v=Value.ref d:=rx
 obtain⟨u,rfl,ru⟩:=zc1 r
 obtain rfl:u=Value.ref p:=ru
 obtain⟨z,hd,vs,rel,dd⟩:=zga I.hok e
 obtain⟨its,rv,⟨ol,nn,e1,e2,e3,e4⟩,_⟩:=I.list hq
 obtain⟨us,l1,l2,p1,p2⟩:=zfS I hP rv
 obtain⟨cs,hcs,ch⟩:=I.hd.chain
 have hz:its.toArray.size=kvs.length:=by simp[l2,l1]
 have lv:vs.length≤1000:=by rw[← rel.length];exact hl0
 refine ziq (knd:=zaR X.prog X.w) hcs ch e1 e2 e3 e4 (by rw[hz];exact hlen) (fun i=>(us.getD i (Sum.inl 0,.none)).1) (fun i=>(us.getD i (Sum.inl 0,.none)).2) (stU vs us) dd (fun _=>rfl) (fun i=>Nat.le_trans (zhy vs us i) (by omega)) (fun i v hv=>p1 i v (by simpa using hv)) fun h' tk hD hk=>?_
 have rel':=ziX rel p2 kvs.length (Nat.le_refl _)
 rw[List.take_length] at rel'
 rw[hz] at hD
 have hl2:(kvs.foldl zfR kvs0).length≤sizeLine:=by
  have:=mkD_len kvs kvs0
  rw[sizeLine_eq]
  omega
 have he:∃ q,h'.get? d=some q:=let ⟨q,_,_,hq,_⟩:=hD;⟨q,hq⟩
 exact⟨.non,_,I.write (x:=d) (e:=d) (t':=tk) (by rw[e];exact True.intro) (.inl rfl) (fun b o nb z=>hk b o nb z) he (ziQ hl2 hd rel' hD),rfl,q⟩
theorem zaM {e:Expr}{t1 t2:TE} (h1:PE X e t1) (h2:PE X e t2):PE X e (fun σ H Q=>t1 σ H Q∨t2 σ H Q):=by
 intro pins s σ H Q I h
 rcases h with h|h
 ·exact h1 pins s σ H Q I h
 ·exact h2 pins s σ H Q I h
def rNeK (K:PySem.W.Frag):R2:=fun x y H Q=>∃ a b kvs,x=.ref a∧y=.ref b∧H a=some (.dK kvs)∧H b=some (.dK kvs)∧zjO K H kvs∧Q (.bl false) H
theorem op_neK (hu:X.A.units + 64<cLine):OpR X (compareOp .NotEq) (rNeK X.K):=by
 intro pins s σ H x y v u Q I rx ry h
 obtain⟨a,b,kvs,rfl,rfl,ha,hb,f,q⟩:=h
 obtain rfl:v=Value.ref a:=rx
 obtain rfl:u=Value.ref b:=ry
 obtain⟨_,na,va,ra,da⟩:=zga I.hok ha
 obtain⟨_,nb,vb,rb,db⟩:=zga I.hok hb
 have nd:(kvs.map (·.1)).Nodup:=by
  obtain⟨_,_,_,_,_,_,_,_,nd⟩:=da
  rw[ra.keys]
  exact nd
 refine PySem.W.keq_ne na nb da db (by omega) (fun _=>I.dicHits (A:=X.A.in1) rb nd f (show X.A.units + 1 + 20<cLine by omega) ra fun p hp=>hp) ?_
 rw[← ra.length,← rb.length]
 have q':EP X pins σ Q (.bool false) s:=⟨.bl false,H,I,rfl,q⟩
 simpa using q'
end
end L2
namespace L2
open PySem PySem.Spec PyProof.Rows PySem.Builtin PySem.Builtin.Str
theorem zeV:∀ l:List (Str×Tok),zaK ((l.map (·.1)).map V.str) (strValues l)
 | []=>.nil
 | p::l=>.cons ⟨p.2,rfl⟩ (zeV l)
section
variable {X:Cx}
def rSplit:V→List V→Hp→VK→Prop:=fun x vs H Q=>∃ a b:Str,x=.str a∧vs=[.str b]∧(b.length == 0)=false∧a.length + 2≤sizeLine∧∀ p,H p=none→Q (.ref p) (upd H p (.lst ((Txt.split a b).map V.str)))
theorem zc8:MtR X "str.split" rSplit:=by
 intro pins s σ H x xs v us Q I rx r h
 obtain⟨a,b,rfl,rfl,hb,ha,q⟩:=h
 obtain⟨t,rfl⟩:=rx
 obtain⟨u,rfl,t',rfl⟩:=zc1 r
 have fin:∀ (l:List (Str×Tok)) (k:Nat),l.map (·.1)=Txt.split a b→EP X pins σ Q (.ref s.heap.objs.size) { s with heap:=s.heap.push { cls:=.type "list",data:=.seq (strValues l).toArray },toks:=k }:=fun l k e=>by
  refine⟨.ref _,_,I.lnew (t':=k) (zeV l) ?_,rfl,?_⟩
  ·rw[List.length_map,e]
   exact Nat.le_trans (split_le a b) ha
  ·rw[e]
   exact q _ I.fresh
 have hn:(partsBetween a (occurrences a b 0 a.length (a.length + 1)) b.length).length≤sizeLine:=by
  have e1:=StrLaws.occ_length_le a b 0 a.length (a.length + 1)
  rw[length_partsBetween]
  omega
 cases h1:(decide (a.length<b.length) || decide (strKind a<strKind b))
 ·cases hf:(occurrences a b 0 a.length (a.length + 1)).isEmpty
  ·refine call_meets F.slot_str_split (typeIs_str _ _ _) F.entry_str_split (F.args_str_split_2 _ _) (meets_str_split_sep a b t t' h1 hb hf (by omega) hn) ?_
   show EP X pins σ Q (.ref s.heap.objs.size) { s with toks:=_,heap:=s.heap.push { cls:=.type "list",data:=.seq (strsFrom s.toks (partsBetween a (occurrences a b 0 a.length (a.length + 1)) b.length)).toArray } }
   rw[strsFrom_eq]
   exact fin (numbered s.toks _) _ ((numbered_texts _ _).trans ((if_neg (ne_true_of_eq_false h1)).trans (if_neg (ne_true_of_eq_false hf))).symm)
  ·exact call_meets F.slot_str_split (typeIs_str _ _ _) F.entry_str_split (F.args_str_split_2 _ _) (meets_str_split_not_found a b t t' h1 hb hf) (fin [(a,t)] s.toks ((if_neg (ne_true_of_eq_false h1)).trans (if_pos hf)).symm)
 ·exact call_meets F.slot_str_split (typeIs_str _ _ _) F.entry_str_split (F.args_str_split_2 _ _) (meets_str_split_cannot_occur a b t t' h1) (fin [(a,t)] s.toks (if_pos h1).symm)
def rLjust:V→List V→Hp→VK→Prop:=fun x vs H Q=>∃ (a:Str) (i:Int),x=.str a∧vs=[.int i]∧0≤i∧i<16777217∧Q (.str (Txt.ljust a i)) H
theorem zir:MtR X "str.ljust" rLjust:=by
 intro pins s σ H x xs v us Q I rx r h
 obtain⟨a,i,rfl,rfl,h1,h2,q⟩:=h
 obtain⟨t,rfl⟩:=rx
 obtain⟨u,rfl,t',rfl⟩:=zc1 r
 exact SC.ljust (padOk_of (by omega) h2) fun t' k=>⟨.str _,H,I.tok _,⟨_,rfl⟩,q⟩
def rEnds:V→List V→Hp→VK→Prop:=fun x vs H Q=>∃ a b:Str,x=.str a∧vs=[.str b]∧Q (.bl (Txt.endswith a b)) H
theorem zfo:MtR X "str.endswith" rEnds:=by
 intro pins s σ H x xs v us Q I rx r h
 obtain⟨a,b,rfl,rfl,q⟩:=h
 obtain⟨t,rfl⟩:=rx
 obtain⟨u,rfl,t',rfl⟩:=zc1 r
 exact SC.endswith ⟨.bl _,H,I,rfl,q⟩
def rRepS:R2:=fun x y H Q=>∃ (a:Str) (n:Int),x=.str a∧y=.int n∧MulOk a n∧Q (.str (Txt.mul a n)) H
theorem zjS:OpR X (binaryOp .Mult) rRepS:=by
 intro pins s σ H x y v u Q I rx ry h
 obtain⟨a,n,rfl,rfl,ok,q⟩:=h
 obtain⟨t,rfl⟩:=rx
 obtain⟨t',rfl⟩:=ry
 exact SB.mul ok fun t' k=>⟨.str _,H,I.tok _,⟨_,rfl⟩,q⟩
end
def jl (c:Nat):List (List Nat)→List Nat
 | []=>[]
 | [x]=>x
 | x::y::r=>x++c::jl c (y::r)
theorem zeo (c:Nat):∀ ys:List Str,(Str.join ⟨#[c]⟩ ys).cps.toList=jl c (ys.map fun y=>y.cps.toList)
 | []=>rfl
 | [x]=>rfl
 | x::y::r=>by
  show(x++(⟨#[c]⟩:Str)++Str.join ⟨#[c]⟩ (y::r)).cps.toList=_
  rw[PySem.Str.cps_append,PySem.Str.cps_append,Array.toList_append,Array.toList_append,zeo c (y::r),List.append_assoc]
  rfl
theorem zhA {c:Nat}:∀ {a b a' b':List Nat},c∉a→c∉a'→a++c::b=a'++c::b'→a=a'∧b=b'
 | [],_,[],_,_,_,e=>⟨rfl,(List.cons.inj e).2⟩
 | [],_,x::a',_,_,h',e=>absurd (List.mem_cons.mpr (.inl (List.cons.inj e).1)) h'
 | x::a,_,[],_,h,_,e=>absurd (List.mem_cons.mpr (.inl (List.cons.inj e).1.symm)) h
 | x::a,_,y::a',_,h,h',e=>by
  obtain⟨e1,e2⟩:=List.cons.inj e
  obtain⟨r1,r2⟩:=zhA (fun z=>h (List.mem_cons_of_mem _ z)) (fun z=>h' (List.mem_cons_of_mem _ z)) e2
  exact⟨by rw[e1,r1],r2⟩
theorem ziY {c:Nat}:∀ {xs ys:List (List Nat)},xs≠[]→ys≠[]→(∀ x∈xs,c∉x)→(∀ y∈ys,c∉y)→jl c xs=jl c ys→xs=ys
 | [],_,h,_,_,_,_=>absurd rfl h
 | _,[],_,h,_,_,_=>absurd rfl h
 | [x],[y],_,_,_,_,e=>by rw[show x=y from e]
 | [x],y::y'::r,_,_,hx,_,e=>absurd (show c∈x by rw[show x=y++c::jl c (y'::r) from e];simp) (hx x (List.mem_cons_self ..))
 | x::x'::r,[y],_,_,_,hy,e=>absurd (show c∈y by rw[show y=x++c::jl c (x'::r) from e.symm];simp) (hy y (List.mem_cons_self ..))
 | x::x'::r,y::y'::r',_,_,hx,hy,e=>by
  obtain⟨e1,e2⟩:=zhA (hx x (List.mem_cons_self ..)) (hy y (List.mem_cons_self ..)) (show x++c::jl c (x'::r)=y++c::jl c (y'::r') from e)
  rw[e1,ziY (by simp) (by simp) (fun z hz=>hx z (List.mem_cons_of_mem _ hz)) (fun z hz=>hy z (List.mem_cons_of_mem _ hz)) e2]
theorem zfU:∀ {xs ys:List Str},(xs.map fun y=>y.cps.toList)=(ys.map fun y=>y.cps.toList)→xs=ys
 | [],[],_=>rfl
 | [],_::_,e=>by simp at e
 | _::_,[],e=>by simp at e
 | x::xs,y::ys,e=>by
  rw[List.map_cons,List.map_cons] at e
  obtain⟨e1,e2⟩:=List.cons.inj e
  rw[str_of_list e1,zfU e2]
theorem zd7 {c:Nat}{ys:List Str} (h0:ys≠[]) (h:∀ y∈ys,c∉y.cps.toList):Txt.split (Txt.join ⟨#[c]⟩ ys) ⟨#[c]⟩=ys:=by
 have e1:Txt.join ⟨#[c]⟩ ys=Str.join ⟨#[c]⟩ ys:=StrLaws.glued_eq_join _ _
 rw[e1]
 refine zfU (ziY (c:=c) ?_ (by simpa using h0) (fun x hx=>?_) (fun x hx=>?_) ?_)
 ·intro z
  have:=split_pos (Str.join ⟨#[c]⟩ ys) ⟨#[c]⟩
  rw[List.map_eq_nil_iff.mp z] at this
  simp at this
 ·obtain⟨y,hy,rfl⟩:=List.mem_map.mp hx
  exact StrLaws.split_free _ c y hy
 ·obtain⟨y,hy,rfl⟩:=List.mem_map.mp hx
  exact h y hy
 ·rw[← zeo,← zeo,StrLaws.join_split]
end L2
namespace K71
open PySem L2
def top (i:Nat):Stmt:=PySem.Challenge.pw_layerdraw_k71_pictures_and_back.main.body.getD i (.Pass ⟨0,0,0,0⟩)
abbrev zbF:Stmt:=zch (top 4) 0
theorem zcB:zan ["self","number"] ["self","number"] (zag zbF):=.of (by decide +kernel)
abbrev zca:Stmt:=zch (top 7) 0
theorem zdz:zan ["self","name","wide"] ["self","name","wide"] (zag zca):=.of (by decide +kernel)
abbrev zdA:Stmt:=zch (top 7) 1
theorem zeW:zan ["self"] ["self"] (zag zdA):=.of (by decide +kernel)
abbrev zdB:Stmt:=zch (top 7) 3
theorem zeX:zan ["self"] ["self"] (zag zdB):=.of (by decide +kernel)
abbrev zbN:Stmt:=zch (top 8) 0
theorem zcO:zan ["self","arrow","step"] ["self","arrow","step"] (zag zbN):=.of (by decide +kernel)
abbrev zcC:Stmt:=zch (top 8) 1
theorem zdU:zan ["self"] ["self"] (zag zcC):=.of (by decide +kernel)
abbrev zcD:Stmt:=zch (top 8) 3
theorem zdV:zan ["self"] ["self"] (zag zcD):=.of (by decide +kernel)
abbrev zdC:Stmt:=top 12
theorem zgj:zan ["name"] ["name"] (zag zdC):=.of (by decide +kernel)
abbrev zd8:Stmt:=top 13
theorem zfp:zan ["number"] ["number"] (zag zd8):=.of (by decide +kernel)
abbrev zd9:Stmt:=top 14
theorem zfq:zan ["number","least","greatest"] ["number","least","greatest"] (zag zd9):=.of (by decide +kernel)
abbrev zbX:Stmt:=top 16
theorem zbh:zan ["rows","marks","row"] ["rows"] (zag zbX):=.of (by decide +kernel)
abbrev zcP:Stmt:=top 18
theorem zcm:zan ["rows","marks","row"] ["rows"] (zag zcP):=.of (by decide +kernel)
abbrev zdD:Stmt:=top 23
theorem zbw:zan ["row","places","line","item"] ["row","places"] (zag zdD):=.of (by decide +kernel)
abbrev zcE:Stmt:=top 24
theorem zgk:zan ["rows","places"] ["rows","places"] (zag zcE):=.of (by decide +kernel)
abbrev zbk:Stmt:=top 25
theorem zau:zan ["line","found","column","word"] ["line"] (zag zbk):=.of (by decide +kernel)
abbrev zbb:Stmt:=top 26
theorem zcF:zan ["line"] ["line"] (zag zbb):=.of (by decide +kernel)
abbrev zbz:Stmt:=top 27
theorem za7:zan ["text","rows","number","line"] ["text"] (zag zbz):=.of (by decide +kernel)
abbrev zcG:Stmt:=top 28
theorem zb5:zan ["rows","lines","places","levels","level","row"] ["rows","lines","places"] (zag zcG):=.of (by decide +kernel)
abbrev zcb:Stmt:=top 30
theorem zdE:zan ["_law_script","_law_k"] ["_law_script","_law_k"] (zag zcb):=.of (by decide +kernel)
abbrev zcH:Stmt:=top 31
theorem zaN:zan ["_law_cell","_law_many","_law_found","_law_number","_law_k"] ["_law_cell","_law_many"] (zag zcH):=.of (by decide +kernel)
abbrev zcn:Stmt:=top 32
theorem zbY:zan ["_law_number","_law_k","_law_signs","_law_word"] ["_law_number","_law_k"] (zag zcn):=.of (by decide +kernel)
abbrev zdF:Stmt:=top 33
theorem zaJ:zan ["_law_script","_law_rows_here","_law_many","_law_cell","_law_xs","_law_row","_law_k"] ["_law_script"] (zag zdF):=.of (by decide +kernel)
abbrev zcI:Stmt:=top 34
theorem zas:zan ["_law_rows_here","_law_cell","_law_places_here","_law_number","_law_row","_law_xs","_law_at","_law_k","_law_item_here"] ["_law_rows_here","_law_cell"] (zag zcI):=.of (by decide +kernel)
abbrev zdG:Stmt:=top 35
theorem zaU:zan ["_law_rows_here","_law_places_here","_law_lines","_law_row","_law_line","_law_item_here","_law_at"] ["_law_rows_here","_law_places_here"] (zag zdG):=.of (by decide +kernel)
abbrev zcZ:Stmt:=top 36
theorem za8:zan ["_law_line","_law_words_here","_law_at","_law_word"] ["_law_line"] (zag zcZ):=.of (by decide +kernel)
abbrev zcQ:Stmt:=top 37
theorem zaV:zan ["_law_text_here","_law_rows_here","_law_number","_law_line","_law_row","_law_word","_law_at","_law_odd"] ["_law_text_here"] (zag zcQ):=.of (by decide +kernel)
abbrev zdH:Stmt:=top 38
theorem zbZ:zan ["_law_text_here","_law_found","e"] ["_law_text_here"] (zag zdH):=.of (by decide +kernel)
abbrev zc0:Stmt:=top 39
theorem zep:zan ["_law_rows_here","_law_places_here"] ["_law_rows_here","_law_places_here"] (zag zc0):=.of (by decide +kernel)
abbrev zcc:Stmt:=top 40
theorem zbq:zan ["_law_text_here","_law_cell","_law_at","_law_sign"] ["_law_text_here","_law_cell"] (zag zcc):=.of (by decide +kernel)
abbrev zcd:Stmt:=top 41
theorem zav:zan ["_law_rows_here","_law_places_here","_law_xs","_law_lines","_law_due_here","_law_number","_law_k","_law_upper","_law_lower","_law_ends"] ["_law_rows_here","_law_places_here","_law_xs"] (zag zcd):=.of (by decide +kernel)
abbrev zfr:Stmt:=top 42
theorem zbG:zan ["_law_script","_law_cell","_law_rows_here","_law_places_here","_law_names","_law_handed","_law_text_here","_law_told","_law_due_here","_law_lines","_law_ends"] ["_law_script"] (zag zfr):=.of (by decide +kernel)
structure Adr where
 DrawError:Addr
 TooLong:Addr
 NoLine:Addr
 Item:Addr
 Own:Addr
 Small:Addr
structure Tx (K:PySem.W.Frag) (mg:Str→Option Value) (a:Adr):Prop where
 g_DrawError:mg "DrawError"=some (.ref a.DrawError)
 xb_DrawError:PySem.W.mroIn K a.DrawError (.type "BaseException")=some true
 xt_DrawError:PySem.W.typeIn K (.ref a.DrawError)=some (.type "type")
 g_TooLong:mg "TooLong"=some (.ref a.TooLong)
 xb_TooLong:PySem.W.mroIn K a.TooLong (.type "BaseException")=some true
 xt_TooLong:PySem.W.typeIn K (.ref a.TooLong)=some (.type "type")
 x_TooLong:XC0 K a.TooLong
 g_NoLine:mg "NoLine"=some (.ref a.NoLine)
 xb_NoLine:PySem.W.mroIn K a.NoLine (.type "BaseException")=some true
 xt_NoLine:PySem.W.typeIn K (.ref a.NoLine)=some (.type "type")
 is_NoLine:XIs K a.NoLine
 g_Item:mg "Item"=some (.ref a.Item)
 c_Item:Cls K a.Item
 g_Own:mg "Own"=some (.ref a.Own)
 c_Own:Cls K a.Own
 na_Own_name:zbP K a.Own "name"
 na_Own_wide:zbP K a.Own "wide"
 g_Small:mg "Small"=some (.ref a.Small)
 c_Small:Cls K a.Small
 na_Small_arrow:zbP K a.Small "arrow"
 na_Small_step:zbP K a.Small "step"
 xi_NoLine:XIni K mg a.NoLine "NoLine" "NoLine.__init__" zbF ["self","number"]
 xs_NoLine_number:XSet K a.NoLine "number"
 xg_NoLine_number:XGet K a.NoLine "number"
 i_Own:Ini K mg a.Own "Own" "Own.__init__" zca ["self","name","wide"]
 m_Own_label:Met K a.Own "label" "Own.label" zdA ["self"] []
 m_Own_drawn:Met K a.Own "drawn" "Own.drawn" zdB ["self"] []
 i_Small:Ini K mg a.Small "Small" "Small.__init__" zbN ["self","arrow","step"]
 m_Small_label:Met K a.Small "label" "Small.label" zcC ["self"] []
 m_Small_drawn:Met K a.Small "drawn" "Small.drawn" zcD ["self"] []
 d_is_name:Def K mg "is_name" zdC ["name"] []
 d_is_whole:Def K mg "is_whole" zd8 ["number"] []
 d_in_range:Def K mg "in_range" zd9 ["number","least","greatest"] []
 d_marks_in_line:Def K mg "marks_in_line" zbX ["rows"] []
 d_marks_of:Def K mg "marks_of" zcP ["rows"] []
 d_drawn_row:Def K mg "drawn_row" zdD ["row","places"] []
 d_picture:Def K mg "picture" zcE ["rows","places"] []
 d_words_with_columns:Def K mg "words_with_columns" zbk ["line"] []
 d_is_picture_line:Def K mg "is_picture_line" zbb ["line"] []
 d_read_picture:Def K mg "read_picture" zbz ["text"] []
 d_strokes:Def K mg "strokes" zcG ["rows","lines","places"] []
 d__law_cell_at:Def K mg "_law_cell_at" zcb ["_law_script","_law_k"] []
 d__law_stream:Def K mg "_law_stream" zcH ["_law_cell","_law_many"] []
 d__law_item:Def K mg "_law_item" zcn ["_law_number","_law_k"] []
 d__law_rows:Def K mg "_law_rows" zdF ["_law_script"] []
 d__law_places:Def K mg "_law_places" zcI ["_law_rows_here","_law_cell"] []
 d__law_text:Def K mg "_law_text" zdG ["_law_rows_here","_law_places_here"] []
 d__law_words:Def K mg "_law_words" zcZ ["_law_line"] []
 d__law_due:Def K mg "_law_due" zcQ ["_law_text_here"] []
 d__law_read:Def K mg "_law_read" zdH ["_law_text_here"] []
 d__law_drawn:Def K mg "_law_drawn" zc0 ["_law_rows_here","_law_places_here"] []
 d__law_changed:Def K mg "_law_changed" zcc ["_law_text_here","_law_cell"] []
 d__law_strokes:Def K mg "_law_strokes" zcd ["_law_rows_here","_law_places_here","_law_xs"] []
 d_law:Def K mg "law" zfr ["_law_script"] []
 k_COLUMNS:∃ t,mg "COLUMNS"=some (.int 10 t)
 k_GREATEST_PLACE:∃ t,mg "GREATEST_PLACE"=some (.int 200 t)
 k_LONGEST_NAME:∃ t,mg "LONGEST_NAME"=some (.int 8 t)
 k_POINT:∃ t,mg "POINT"=some (.str "." t)
 k_SMALL_LETTERS:∃ t,mg "SMALL_LETTERS"=some (.str "abcdefghijklmnopqrstuvwxyz" t)
 mr_TooLong_TooLong:PySem.W.mroIn K a.TooLong (.ref a.TooLong)=some true
 mr_NoLine_NoLine:PySem.W.mroIn K a.NoLine (.ref a.NoLine)=some true
 kt_NoLine_DrawError:PySem.W.kitOne K (.ref a.NoLine) (.ref a.DrawError)=some true
 kt_NoLine_TooLong:PySem.W.kitOne K (.ref a.NoLine) (.ref a.TooLong)=some false
 kb_str_str:PySem.W.kitOne K (.type "str") (.type "str")=some true
 kb_int_int:PySem.W.kitOne K (.type "int") (.type "int")=some true
 kb_int_bool:PySem.W.kitOne K (.type "int") (.type "bool")=some false
 n_all:mg "all"=none
 n_bool:mg "bool"=none
 n_dict:mg "dict"=none
 n_enumerate:mg "enumerate"=none
 n_int:mg "int"=none
 n_isinstance:mg "isinstance"=none
 n_len:mg "len"=none
 n_list:mg "list"=none
 n_range:mg "range"=none
 n_str:mg "str"=none
end K71
namespace K71
open PySem L2
abbrev Kvs:=List (Key×V)
def abc:Str:="abcdefghijklmnopqrstuvwxyz"
def small (c:Nat):Bool:=!(Builtin.Str.occurrences abc ⟨#[c]⟩ 0 abc.length 1).isEmpty
def za9 (n:Str):Bool:=decide (1≤n.length) && decide (n.length≤8) && n.cps.toList.all small
theorem lk0 {a:Str}{v:V}{r:List (Str×V)}:(((a,v)::r):List (Str×V)).lookup a=some v:=by
 rw[List.lookup_cons,beq_self_eq_true]
theorem lk1 {a b:Str}{v:V}{r:List (Str×V)} (h:(a == b)=false):(((b,v)::r):List (Str×V)).lookup a=r.lookup a:=by
 rw[List.lookup_cons,h]
section
variable {P:Program}{w:World}{K:PySem.W.Frag}{mg:Str→Option Value}{base:Heap}{a:Adr}
def zis:Sp:=fun vs H Q _=>∃ n:Str,vs=[.str n]∧n.length≤100000∧∀ H',zaj H H'→Q (.bl (za9 n)) H'
theorem zgl (T:Tx K mg a):Cal P w K mg base CX0 1 "is_name" ["name"] [] zis:=T.d_is_name.cal fun f fd F=>by
 refine F.ok zgj (fun vs H Q E h=>?_) (fun cdv A outer s H vs Q E hr h=>?_)
 ·obtain⟨n,rfl,_⟩:=h
  rfl
 ·obtain⟨n,rfl,hn,k⟩:=h
  have hz:n.length≤sizeLine:=Nat.le_trans hn (by rw[sizeLine_eq];decide)
  refine⟨_,(zac (zbJ (PW.pt (zeA (zfy (zdW (zay zck rfl T.n_isinstance za5 (zaa (pv 0) (zaa (zhg rfl T.n_str zhl) zad))))) (zeA (zat zjf (zay zaS rfl T.n_len zb9 (zaa (pv 0) zad)) zah (zaz _)) (zde (zat zjg (zay zaS rfl T.n_len zb9 (zaa (pv 0) zad)) (zdv rfl T.k_LONGEST_NAME) (zaz _)))))) (zae (zap zgB)) zaC)
   (zae (zap (zay zdx rfl T.n_all zhm (zaa (zbp (N:=["sign"]) (cap:=[none]) rfl (zbC (osc:=zag zdC) (XN:=["name"]) rfl rfl (by decide +kernel)) (ziV (pv 0)) (fun cl C s H fp pins=>(zal (i:=0) (show(["sign"]:List Str).Nodup by decide +kernel) rfl (by first|exact Or.inl rfl|exact Or.inr rfl))) (fun cl C s H fp pins=>zbo) (fun cl C s H fp pins=>(zcM zgJ (pv 0) (zhf rfl T.k_SMALL_LETTERS) (by with_unfolding_all rfl)))) zad))))),?_⟩
  refine⟨_,rfl,_,_,_,_,_,rfl,rfl,.str _,T.kb_str_str,true,rfl,?_⟩
  refine zhq rfl ?_
  refine⟨_,rfl,_,rfl,hz,_,_,rfl,rfl,_,rfl,?_⟩
  refine zcl (fun c1=>?_) (fun c1=>?_)
  ·have e:za9 n=false:=by
    have:(n.length:Int)<1:=of_decide_eq_true c1
    simp only[za9,Bool.and_eq_false_iff,decide_eq_false_iff_not]
    exact .inl (.inl (by omega))
   refine zgY ?_
   show Q (.bl false) _
   rw[← e]
   exact k H (zaj.refl H)
  ·refine⟨_,rfl,_,rfl,hz,_,_,rfl,rfl,_,rfl,?_⟩
   have h1:1≤n.length:=by
    have:¬ (n.length:Int)<1:=of_decide_eq_false c1
    omega
   refine zcl (fun c2=>?_) (fun c2=>?_)
   ·have e:za9 n=false:=by
     have:(8:Int)<n.length:=of_decide_eq_true c2
     simp only[za9,Bool.and_eq_false_iff,decide_eq_false_iff_not]
     exact .inl (.inr (by omega))
    show Q (.bl false) _
    rw[← e]
    exact k H (zaj.refl H)
   ·have h2:n.length≤8:=by
     have:¬ (8:Int)<n.length:=of_decide_eq_false c2
     omega
    refine⟨_,rfl,n,rfl,fun D hD=>?_⟩
    refine zfQ (x:=n) (fun i τ H'=>∃ v,τ=[v]∧zaj H H'∧H' D=some (.lst (((n.cps.toList.take i).map small).map V.bl))) ⟨none,rfl,zaj.new hD,zab⟩ ?_ ?_
    ·rintro i c τ H' hc ⟨v,rfl,sm,hl⟩
     dsimp only[zaI,zgv]
     rw[if_pos rfl]
     refine⟨_,rfl,_,_,rfl,rfl,_,hl,?_,_,rfl,?_,?_⟩
     ·rw[List.length_map,List.length_map,List.length_take,sizeLine_eq]
      have:n.cps.toList.length=n.length:=by rw[Array.length_toList];rfl
      omega
     ·intro b o e
      rw[zaf (zai e hD)]
      exact sm b o e
     ·have hc':n.cps.toList[i]?=some c:=by rw[Array.getElem?_toList];exact hc
      have ht:n.cps.toList.take (i + 1)=n.cps.toList.take i++[c]:=by
       rw[List.take_add_one,hc']
       rfl
      rw[zab,ht,List.map_append,List.map_append]
      rfl
    ·rintro τ H' ⟨v,rfl,sm,hl⟩
     refine⟨D,(n.cps.toList.take n.cps.size).map small,rfl,SqL.of hl,?_⟩
     have e:(List.map small (n.cps.toList.take n.cps.size)).all id=za9 n:=by
      rw[List.take_of_length_le (by rw[Array.length_toList];exact Nat.le_refl _),List.all_map]
      simp only[za9,decide_eq_true h1,decide_eq_true h2,Bool.true_and]
      rfl
     rw[e]
     exact k H' sm
def zjT:Sp:=fun vs H Q _=>∃ i,vs=[.int i]∧Q (.bl true) H
theorem zfs (T:Tx K mg a):Cal P w K mg base CX0 1 "is_whole" ["number"] [] zjT:=T.d_is_whole.cal fun f fd F=>by
 refine F.ok zfp (fun vs H Q E h=>?_) (fun cdv A outer s H vs Q E hr h=>?_)
 ·obtain⟨n,rfl,_⟩:=h
  rfl
 ·obtain⟨i,rfl,q⟩:=h
  refine⟨_,(zae (zap (zfA (zay zck rfl T.n_isinstance za5 (zaa (pv 0) (zaa (zhg rfl T.n_int bt_int) zad))) (zfz (pe_not (zay zck rfl T.n_isinstance za5 (zaa (pv 0) (zaa (zhg rfl T.n_bool zjI) zad)))))))),?_⟩
  refine⟨_,rfl,_,_,_,_,_,rfl,rfl,.int _,T.kb_int_int,true,rfl,?_⟩
  refine zgY ?_
  exact⟨_,rfl,_,_,_,_,_,rfl,rfl,.int _,T.kb_int_bool,false,rfl,q⟩
def zjU:Sp:=fun vs H Q _=>∃ i l g,vs=[.int i,.int l,.int g]∧Q (.bl (decide (l≤i) && decide (i≤g))) H
theorem zft (T:Tx K mg a):Cal P w K mg base CX0 2 "in_range" ["number","least","greatest"] [] zjU:=T.d_in_range.cal fun f fd F=>by
 have c_is_whole:=zfs (P:=P) (w:=w) (base:=base) T
 refine F.ok zfq (fun vs H Q E h=>?_) (fun cdv A outer s H vs Q E hr h=>?_)
 ·obtain⟨n,_,_,rfl,_⟩:=h
  rfl
 ·obtain⟨i,l,g,rfl,q⟩:=h
  refine⟨_,(zae (zap (zfA (zaE c_is_whole (hr.mono (by decide)) rfl (zaa (pv 0) zad)) (zfA (zcM op_ge (pv 0) (pv 1) (zaz _)) (zfz (zcM op_le (pv 0) (pv 2) (zaz _))))))),?_⟩
  refine⟨_,rfl,_,rfl,true,rfl,?_⟩
  refine zgY ?_
  refine⟨_,rfl,_,rfl,_,_,rfl,rfl,_,rfl,?_⟩
  refine zcl (fun c=>?_) (fun c=>?_)
  ·refine⟨_,rfl,_,rfl,_,_,rfl,rfl,?_⟩
   rw[c] at q
   exact q
  ·rw[c] at q
   exact q
def zjV (C:Addr) (f:Str):Sp:=fun vs H Q _=>∃ x t y,vs=[.ref x,y]∧H x=some (zh0 C t x none)∧∀ dx,H dx=none→Q .non (upd (upd H dx (.xd [(f,y)])) x (zh0 C t x (some dx)))
theorem zhB (T:Tx K mg a):zjG P w K mg base CX0 1 a.NoLine "NoLine" ["self","number"] (zjV a.NoLine "number"):=T.xi_NoLine.cal fun f fd F=>by
 refine F.ok zcB (fun vs H Q E h=>?_) (fun cdv A outer s H vs Q E hr h=>?_)
 ·obtain⟨x,t,y,rfl,_⟩:=h
  rfl
 ·obtain⟨x,t,y,rfl,hx,k⟩:=h
  refine⟨_,(zae (zjE (pv 0) (pv 1) rfl)),?_⟩
  exact⟨_,rfl,_,rfl,x,a.NoLine,t,rfl,hx,T.xs_NoLine_number,fun dx nd=>k dx nd⟩
end
end K71
namespace K71
open PySem L2
def F2 {α β:Type} (R:α→β→Prop):List α→List β→Prop
 | [],[]=>True
 | x::l,y::m=>R x y∧F2 R l m
 | _,_=>False
section
variable {α β:Type}{R R':α→β→Prop}
theorem F2.len:∀ {l:List α}{m:List β},F2 R l m→l.length=m.length
 | [],[],_=>rfl
 | _::_,_::_,h=>by rw[List.length_cons,List.length_cons,h.2.len]
 | [],_::_,h=>h.elim
 | _::_,[],h=>h.elim
theorem F2.mono (k:∀ x y,R x y→R' x y):∀ {l:List α}{m:List β},F2 R l m→F2 R' l m
 | [],[],_=>trivial
 | _::_,_::_,h=>⟨k _ _ h.1,h.2.mono k⟩
 | [],_::_,h=>h.elim
 | _::_,[],h=>h.elim
theorem F2.get:∀ {l:List α}{m:List β}{i:Nat}{x:α},F2 R l m→l[i]?=some x→∃ y,m[i]?=some y∧R x y
 | [],[],_,_,_,e=>by simp at e
 | x::l,y::m,0,_,h,e=>by
  cases e
  exact⟨y,rfl,h.1⟩
 | x::l,y::m,i + 1,_,h,e=>h.2.get (i:=i) (by simpa using e)
 | [],_::_,_,_,h,_=>h.elim
 | _::_,[],_,_,h,_=>h.elim
theorem F2.at_:∀ {l:List α}{m:List β}{i:Nat}{y:β},F2 R l m→m[i]?=some y→∃ x,l[i]?=some x∧R x y
 | [],[],_,_,_,e=>by simp at e
 | x::l,y::m,0,_,h,e=>by
  cases e
  exact⟨x,rfl,h.1⟩
 | x::l,y::m,i + 1,_,h,e=>h.2.at_ (i:=i) (by simpa using e)
 | [],_::_,_,_,h,_=>h.elim
 | _::_,[],_,_,h,_=>h.elim
theorem F2.app:∀ {l l':List α}{m m':List β},F2 R l m→F2 R l' m'→F2 R (l++l') (m++m')
 | [],_,[],_,_,k=>k
 | _::_,_,_::_,_,h,k=>⟨h.1,h.2.app k⟩
 | [],_,_::_,_,h,_=>h.elim
 | _::_,_,[],_,h,_=>h.elim
theorem F2.snoc {x:α}{y:β}{l:List α}{m:List β} (h:F2 R l m) (e:R x y):F2 R (l++[x]) (m++[y]):=h.app ⟨e,trivial⟩
theorem F2.take:∀ {l:List α}{m:List β} (n:Nat),F2 R l m→F2 R (l.take n) (m.take n)
 | _,_,0,_=>trivial
 | [],[],_ + 1,h=>h
 | _::_,_::_,n + 1,h=>⟨h.1,h.2.take n⟩
 | [],_::_,_ + 1,h=>h.elim
 | _::_,[],_ + 1,h=>h.elim
end
inductive It where
 | own (n:Str) (h:Int)
 | small (i k:Int)
def zkn (i k:Int):Str:=Str.ofString (toString i)++Str.ofString "."++Str.ofString (toString k)
def It.label:It→Str
 | .own n _=>n
 | .small i k=>zkn i k
def It.drawn:It→Str
 | .own n _=>n
 | .small _ _=>"."
def ownF (n:Str) (h:Int):List (Str×V):=[("name",.str n),("wide",.int h)]
def zeY (i k:Int):List (Str×V):=[("arrow",.int i),("step",.int k)]
def Lo (i:Int):Prop:=0≤i∧i<1000
def It.Ok:It→Prop
 | .own n _=>za9 n=true
 | .small i k=>Lo i∧Lo k
def zhC (a:Adr) (H:Hp) (p:Addr):It→Prop
 | .own n h=>∃ dx,H p=some (.ins a.Own dx (ownF n h))
 | .small i k=>∃ dx,H p=some (.ins a.Small dx (zeY i k))
theorem zhC.same {a:Adr}{H H':Hp}{p:Addr}:∀ {it:It},zhC a H p it→zaj H H'→zhC a H' p it
 | .own _ _,⟨dx,e⟩,s=>⟨dx,s _ _ e⟩
 | .small _ _,⟨dx,e⟩,s=>⟨dx,s _ _ e⟩
theorem zhC.upd {a:Adr}{H:Hp}{p r:Addr}{xs:List V}{o:HO} (hr:H r=some (.lst xs)):∀ {it:It},zhC a H p it→zhC a (L2.upd H r o) p it
 | .own _ _,⟨dx,e⟩=>⟨dx,by rw[zaf (zja e hr (by intro z;cases z))];exact e⟩
 | .small _ _,⟨dx,e⟩=>⟨dx,by rw[zaf (zja e hr (by intro z;cases z))];exact e⟩
def IAt (a:Adr) (H:Hp) (v:V) (it:It):Prop:=∃ q,v=.ref q∧zhC a H q it
abbrev zjW (a:Adr) (H:Hp) (xs:List V) (its:List It):Prop:=F2 (IAt a H) xs its
theorem zeq {a:Adr}{H H':Hp}{xs:List V}{its:List It} (h:zjW a H xs its) (s:zaj H H'):zjW a H' xs its:=h.mono fun _ _ ⟨q,e,i⟩=>⟨q,e,i.same s⟩
theorem zfu {a:Adr}{H:Hp}{r:Addr}{zs:List V}{o:HO}{xs:List V}{its:List It} (h:zjW a H xs its) (hr:H r=some (.lst zs)):zjW a (upd H r o) xs its:=h.mono fun _ _ ⟨q,e,i⟩=>⟨q,e,i.upd hr⟩
def WAt (a:Adr) (H:Hp) (v:V) (its:List It):Prop:=∃ r xs,v=.ref r∧H r=some (.lst xs)∧zjW a H xs its
theorem WAt.same {a:Adr}{H H':Hp}{v:V}{its:List It} (h:WAt a H v its) (s:zaj H H'):WAt a H' v its:=let ⟨r,xs,e,h1,h2⟩:=h;⟨r,xs,e,s _ _ h1,zeq h2 s⟩
abbrev WsV (a:Adr) (H:Hp) (xs:List V) (ws:List (List It)):Prop:=F2 (WAt a H) xs ws
theorem zcR {a:Adr}{H H':Hp}{xs:List V}{ws:List (List It)} (h:WsV a H xs ws) (s:zaj H H'):WsV a H' xs ws:=h.mono fun _ _ i=>i.same s
theorem ziZ {i:Int} (h:Lo i):i.natAbs.log2<1920:=by
 obtain⟨h0,h1⟩:=h
 refine Nat.lt_of_le_of_lt (Nat.log2_le_self _) ?_
 omega
theorem zi0 {i:Int} (h:Lo i):(Str.ofString (toString i)).length≤100:=Nat.le_trans (PySem.W.KT.len_num h.1 (Int.lt_trans h.2 (by decide))) (by decide)
section
variable {P:Program}{w:World}{K:PySem.W.Frag}{mg:Str→Option Value}{base:Heap}{a:Adr}
def spIni (C:Addr) (f g:Str):Sp:=fun vs H Q _=>∃ p dx x y,vs=[.ref p,x,y]∧H p=some (.ins C dx [])∧∀ H',(∀ b o,H b=some o→b≠p→H' b=some o)→H' p=some (.ins C dx [(f,x),(g,y)])→Q .non H'
theorem ok_Own (T:Tx K mg a):CalI P w K mg base CX0 1 a.Own "Own" ["self","name","wide"] (spIni a.Own "name" "wide"):=T.i_Own.cal fun f fd F=>by
 refine F.ok zdz (fun vs H Q E h=>?_) (fun cdv A outer s H vs Q E hr h=>?_)
 ·obtain⟨p,dx,x,y,rfl,_⟩:=h
  rfl
 ·obtain⟨p,dx,x,y,rfl,hp,k⟩:=h
  refine⟨_,(zac (zfD (pv 0) (pv 1) rfl)
   (zae (zfD (pv 0) (pv 2) rfl))),?_⟩
  refine⟨_,rfl,_,rfl,p,a.Own,dx,[],rfl,hp,T.c_Own,T.na_Own_name,by decide,?_⟩
  refine⟨_,rfl,_,rfl,p,a.Own,dx,_,rfl,zab,T.c_Own,T.na_Own_wide,by show 1<1000;decide,?_⟩
  refine k _ (fun b o e ne=>by rw[zaf ne,zaf ne];exact e) ?_
  rw[zab]
  have h1:¬ (("name":Str)="wide"):=by decide +kernel
  simp only[zev,h1,if_false]
theorem zit (T:Tx K mg a):CalI P w K mg base CX0 1 a.Small "Small" ["self","arrow","step"] (spIni a.Small "arrow" "step"):=T.i_Small.cal fun f fd F=>by
 refine F.ok zcO (fun vs H Q E h=>?_) (fun cdv A outer s H vs Q E hr h=>?_)
 ·obtain⟨p,dx,x,y,rfl,_⟩:=h
  rfl
 ·obtain⟨p,dx,x,y,rfl,hp,k⟩:=h
  refine⟨_,(zac (zfD (pv 0) (pv 1) rfl)
   (zae (zfD (pv 0) (pv 2) rfl))),?_⟩
  refine⟨_,rfl,_,rfl,p,a.Small,dx,[],rfl,hp,T.c_Small,T.na_Small_arrow,by decide,?_⟩
  refine⟨_,rfl,_,rfl,p,a.Small,dx,_,rfl,zab,T.c_Small,T.na_Small_step,by show 1<1000;decide,?_⟩
  refine k _ (fun b o e ne=>by rw[zaf ne,zaf ne];exact e) ?_
  rw[zab]
  have h1:¬ (("arrow":Str)="step"):=by decide +kernel
  simp only[zev,h1,if_false]
theorem zhD {n:Str}{h:Int}:(ownF n h).lookup ("name":Str)=some (.str n):=lk0
theorem ziu {i k:Int}:(zeY i k).lookup ("arrow":Str)=some (.int i):=lk0
theorem zjX {i k:Int}:(zeY i k).lookup ("step":Str)=some (.int k):=(lk1 (by decide +kernel)).trans lk0
def zhE (C:Addr) (g:Str→Int→V):Sp:=fun vs H Q _=>∃ p dx n h,vs=[.ref p]∧H p=some (.ins C dx (ownF n h))∧Q (g n h) H
theorem za2 (T:Tx K mg a):zkl P w K mg base CX0 1 a.Own "label" ["self"] [] (zhE a.Own fun n _=>.str n):=T.m_Own_label.cal fun f fd F=>by
 refine F.ok zeW (fun vs H Q E h=>?_) (fun cdv A outer s H vs Q E hr h=>?_)
 ·obtain⟨p,dx,n,h,rfl,_⟩:=h
  rfl
 ·obtain⟨p,dx,n,h,rfl,hp,k⟩:=h
  refine⟨_,(zae (zap (zfC (pv 0) rfl))),?_⟩
  exact⟨_,rfl,p,a.Own,dx,_,_,rfl,hp,T.c_Own,T.na_Own_name,zhD,k⟩
theorem zb0 (T:Tx K mg a):zkl P w K mg base CX0 1 a.Own "drawn" ["self"] [] (zhE a.Own fun n _=>.str n):=T.m_Own_drawn.cal fun f fd F=>by
 refine F.ok zeX (fun vs H Q E h=>?_) (fun cdv A outer s H vs Q E hr h=>?_)
 ·obtain⟨p,dx,n,h,rfl,_⟩:=h
  rfl
 ·obtain⟨p,dx,n,h,rfl,hp,k⟩:=h
  refine⟨_,(zae (zap (zfC (pv 0) rfl))),?_⟩
  exact⟨_,rfl,p,a.Own,dx,_,_,rfl,hp,T.c_Own,T.na_Own_name,zhD,k⟩
def zdI (C:Addr) (g:Int→Int→V):Sp:=fun vs H Q _=>∃ p dx i j,vs=[.ref p]∧H p=some (.ins C dx (zeY i j))∧Lo i∧Lo j∧Q (g i j) H
theorem zaO (T:Tx K mg a):zkl P w K mg base CX0 1 a.Small "label" ["self"] [] (zdI a.Small fun i j=>.str (zkn i j)):=T.m_Small_label.cal fun f fd F=>by
 refine F.ok zdU (fun vs H Q E h=>?_) (fun cdv A outer s H vs Q E hr h=>?_)
 ·obtain⟨p,dx,i,j,rfl,_⟩:=h
  rfl
 ·obtain⟨p,dx,i,j,rfl,hp,li,lj,k⟩:=h
  refine⟨_,(zae (zap (zam zaG (zam zaG (zcs zcV rfl T.n_str zhl (zaa (zfC (pv 0) rfl) zad)) zaX) (zcs zcV rfl T.n_str zhl (zaa (zfC (pv 0) rfl) zad))))),?_⟩
  have l1:=zi0 li
  have l2:=zi0 lj
  have l3:(Str.ofString (toString i)++Str.ofString ".").length=(Str.ofString (toString i)).length + 1:=by rw[PySem.Str.length_append];rfl
  refine⟨_,rfl,p,a.Small,dx,_,_,rfl,hp,T.c_Small,T.na_Small_arrow,ziu,_,rfl,ziZ li,_,_,rfl,rfl,?_,?_⟩
  ·show(Str.ofString (toString i)).length + 1≤sizeLine
   rw[sizeLine_eq]
   omega
  refine⟨_,rfl,p,a.Small,dx,_,_,rfl,hp,T.c_Small,T.na_Small_step,zjX,_,rfl,ziZ lj,_,_,rfl,rfl,?_,k⟩
  rw[l3,sizeLine_eq]
  omega
theorem zbA (T:Tx K mg a):zkl P w K mg base CX0 1 a.Small "drawn" ["self"] [] (zdI a.Small fun _ _=>.str "."):=T.m_Small_drawn.cal fun f fd F=>by
 refine F.ok zdV (fun vs H Q E h=>?_) (fun cdv A outer s H vs Q E hr h=>?_)
 ·obtain⟨p,dx,i,j,rfl,_⟩:=h
  rfl
 ·obtain⟨p,dx,i,j,rfl,hp,li,lj,k⟩:=h
  exact⟨_,(zae (zap zaX)),k⟩
theorem zhF {m:Str}{g:Str→Int→V}{g':Int→Int→V}{it:It}{H:Hp}{p:Addr}{Q:VK}{E:XK}{σ:St}{ta:TE}{sl:St→Hp→(V→Hp→Prop)→Prop} (h:zhC a H p it) (ok:it.Ok) (m1:∀ n h,(ownF n h).lookup m=none) (m2:∀ i j,(zeY i j).lookup m=none)
  (ht:∀ Q',Q' (.ref p) H→ta σ H Q') (k:Q (match it with|.own n h=>g n h|.small i j=>g' i j) H) :
  zeh a.Own m (zhE a.Own g) [] E ta zhY σ H Q∨zeh a.Small m (zdI a.Small g') [] E ta zhY σ H Q:=by
 cases it with
 | own n hf=>
  obtain⟨dx,e⟩:=h
  exact .inl (ht _ ⟨p,dx,_,rfl,e,m1 _ _,p,dx,n,hf,rfl,e,k⟩)
 | small i j=>
  obtain⟨dx,e⟩:=h
  exact .inr (ht _ ⟨p,dx,_,rfl,e,m2 _ _,p,dx,i,j,rfl,e,ok.1,ok.2,k⟩)
theorem zbl {it:It}{H:Hp}{p:Addr}{Q:VK}{E:XK}{σ:St}{ta:TE} (h:zhC a H p it) (ok:it.Ok) (ht:∀ Q':VK,Q' (.ref p) H→ta σ H Q') (k:Q (.str it.label) H) :
  zeh a.Own "label" (zhE a.Own fun n _=>.str n) [] E ta zhY σ H Q∨zeh a.Small "label" (zdI a.Small fun i j=>.str (zkn i j)) [] E ta zhY σ H Q:=
 zhF (sl:=fun _ _ _=>True) h ok (fun _ _=>rfl) (fun _ _=>rfl) ht (by cases it <;> exact k)
theorem zer {it:It}{H:Hp}{p:Addr}{Q:VK}{E:XK}{σ:St}{ta:TE} (h:zhC a H p it) (ok:it.Ok) (ht:∀ Q':VK,Q' (.ref p) H→ta σ H Q') (k:Q (.str it.drawn) H) :
  zeh a.Own "drawn" (zhE a.Own fun n _=>.str n) [] E ta zhY σ H Q∨zeh a.Small "drawn" (zdI a.Small fun _ _=>.str ".") [] E ta zhY σ H Q:=
 zhF (sl:=fun _ _ _=>True) h ok (fun _ _=>rfl) (fun _ _=>rfl) ht (by cases it <;> exact k)
def SAt (H:Hp) (v:V) (ls:List Str):Prop:=∃ r,v=.ref r∧H r=some (.lst (ls.map V.str))
abbrev zcS (its:List It):List Str:=its.map It.label
def RowOk (its:List It):Prop:=its.length≤50000∧∀ it∈its,it.Ok
def zhG (a:Adr):Sp:=fun vs H Q _=>∃ p xs rows,vs=[.ref p]∧H p=some (.lst xs)∧WsV a H xs rows∧(∀ r∈rows,RowOk r)∧rows.length≤1000∧∀ l ys H',zaj H H'→H l=none→H' l=some (.lst ys)→F2 (SAt H') ys (rows.map zcS)→Q (.ref l) H'
theorem zdJ (T:Tx K mg a):Cal P w K mg base CX0 2 "marks_of" ["rows"] [] (zhG a):=T.d_marks_of.cal fun f fd F=>by
 have m_Own_label:=za2 (P:=P) (w:=w) (base:=base) T
 have m_Small_label:=zaO (P:=P) (w:=w) (base:=base) T
 refine F.ok zcm (fun vs H Q E h=>?_) (fun cdv A outer s H vs Q E hr h=>?_)
 ·obtain⟨p,xs,rows,rfl,_⟩:=h
  rfl
 ·obtain⟨p,xs,rows,rfl,hp,hx,ok,n9,k⟩:=h
  have xl:=hx.len
  refine⟨_,(zac (zao (i:=1) zcm.nd rfl (by first|exact Or.inl rfl|exact Or.inr rfl) (zaY zad))
   (zac (za4 PassesOwn.never rfl (zaF (pv 0)) (zal (i:=2) zcm.nd rfl (by first|exact Or.inl rfl|exact Or.inr rfl)) (zae (za3 (zbn PySem.F.plainAttrs_list PySem.F.slot_list_append PySem.F.type_list_append zaH (pv 1) (zaa (zbp (N:=["item"]) (cap:=[none]) rfl (zbC (osc:=zag zcP) (XN:=["rows","marks","row"]) rfl rfl (by decide +kernel)) (zaF (pv 2)) (fun cl C s H fp pins=>(zal (i:=0) (show(["item"]:List Str).Nodup by decide +kernel) rfl (by first|exact Or.inl rfl|exact Or.inr rfl))) (fun cl C s H fp pins=>zbo) (fun cl C s H fp pins=>(zaM (zaq (pv 0) T.c_Own m_Own_label (hr.mono (by decide))) (zaq (pv 0) T.c_Small m_Small_label (hr.mono (by decide)))))) zad)))))
   (zae (zap (pv 1))))),?_⟩
  refine⟨(by show 0≤sizeLine;decide),fun g ng=>?_⟩
  refine⟨_,rfl,p,rfl,⟨_,SqL.of (zaj.new (o:=.lst []) ng _ _ hp)⟩,zbd (K:=K) (a:=p) (xs:=xs) (fun i σ H'=>∃ v2 ys,σ=[some (.ref p),some (.ref g),v2]∧zaj H H'∧H' g=some (.lst ys)∧F2 (fun v ls=>SAt H' v ls∧v≠.ref g) ys ((rows.take i).map zcS)) ⟨none,[],rfl,zaj.new ng,zab,trivial⟩ ?_ ?_ ?_⟩
  ·rintro i σ H' _ ⟨_,_,rfl,sm,_⟩
   exact SqL.of (sm _ _ hp)
  ·rintro i x σ H' hx' ⟨v2,ys,rfl,sm,hg,fa⟩
   obtain⟨its,e1,r1,zs,rfl,h1,hz⟩:=hx.get hx'
   obtain⟨il,io⟩:=ok its (List.mem_of_getElem? e1)
   have hi:i<rows.length:=(List.getElem?_eq_some_iff.mp e1).1
   have zl:=hz.len
   dsimp only[zaI]
   refine⟨_,rfl,.inl ⟨rfl,_,SqL.of hg⟩,_,rfl,r1,rfl,⟨_,SqL.of (sm _ _ h1)⟩,fun D hD=>?_⟩
   refine zaT (K:=K) (a:=r1) (xs:=zs) (fun j τ G=>∃ v1,τ=[v1]∧zaj H' G∧G D=some (.lst ((zcS (its.take j)).map V.str))) ⟨none,rfl,zaj.new hD,zab⟩ ?_ ?_ ?_
   ·rintro j τ G _ ⟨_,rfl,sg,_⟩
    exact SqL.of (sg _ _ (sm _ _ h1))
   ·rintro j y τ G hy ⟨v1,rfl,sg,hG⟩
    obtain⟨it,e2,q,rfl,iq⟩:=hz.get hy
    have hj:j<its.length:=(List.getElem?_eq_some_iff.mp e2).1
    dsimp only[zaI,zgv]
    rw[if_pos rfl]
    refine zbl (iq.same (sm.trans sg)) (io it (List.mem_of_getElem? e2)) (fun Q' h=>⟨_,rfl,h⟩) ?_
    refine⟨_,hG,by rw[List.length_map,List.length_map,List.length_take,sizeLine_eq];omega,_,rfl,zaw hD sg,?_⟩
    rw[zab,zak e2]
    simp[zcS]
   rintro τ G ⟨v1,rfl,sg,hG⟩
   rw[zl,List.take_length] at hG
   have gD:g≠D:=zai hg hD
   refine⟨g,ys,_,rfl,rfl,sg _ _ hg,by rw[fa.len,List.length_map,List.length_take,sizeLine_eq];omega,?_⟩
   refine⟨_,_,rfl,zaw ng (sm.trans sg),zab,?_⟩
   rw[zak e1,List.map_append]
   refine(fa.mono fun v ls ⟨⟨r,ev,hr⟩,nv⟩=>⟨⟨r,ev,?_⟩,nv⟩).snoc ⟨⟨D,rfl,?_⟩,fun z=>gD (by cases z;rfl)⟩
   ·rw[zaf (Ne.symm gD)]
    exact hG
   ·rw[zaf (fun z=>nv (by rw[ev,z]))]
    exact sg _ _ hr
  rintro σ H' ⟨v2,ys,rfl,sm,hg,fa⟩
  rw[xl,List.take_length] at fa
  exact⟨_,rfl,k g ys H' sm ng hg (fa.mono fun _ _ h=>h.1)⟩
end
end K71
namespace K71
open PySem L2 PyProof.Rows
abbrev Wd:=Str×Int
abbrev bk:Str:=Str.ofString " "
abbrev nl:Str:=Str.ofString "\n"
def cl (s:Str):List Nat:=s.cps.toList
theorem zbH (s:Str):(cl s).length=s.length:=by simp[cl,Str.length]
theorem zeZ (x y:Str):cl (x++y)=cl x++cl y:=by
 unfold cl
 rw[PySem.Str.cps_append,Array.toList_append]
theorem zhH {x y:Str} (h:cl x=cl y):x=y:=str_of_list h
theorem ziv:bk=⟨#[32]⟩:=by decide
theorem nl_mk:nl=⟨#[10]⟩:=by decide
theorem len0 {w:Str} (h:w.length=0):w=Str.ofString "":=zhH (by
 have e:cl w=[]:=List.eq_nil_of_length_eq_zero (by rw[zbH];exact h)
 rw[e]
 rfl)
def wc:Int→List Str→List Wd
 | _,[]=>[]
 | c,w::r=>(if w.length=0 then[] else[(w,c)])++wc (c + w.length + 1) r
def tot:List Str→Int
 | []=>0
 | w::r=>w.length + 1 + tot r
theorem zcT:∀ xs ys:List Str,tot (xs++ys)=tot xs + tot ys
 | [],ys=>by rw[List.nil_append];show _=0 + tot ys;omega
 | x::xs,ys=>by
  show(x.length:Int) + 1 + tot (xs++ys)=x.length + 1 + tot xs + tot ys
  rw[zcT xs ys]
  omega
theorem ze0:∀ (xs ys:List Str) (c:Int),wc c (xs++ys)=wc c xs++wc (c + tot xs) ys
 | [],ys,c=>by
  show wc c ys=[]++wc (c + 0) ys
  rw[Int.add_zero,List.nil_append]
 | x::xs,ys,c=>by
  show _++wc (c + x.length + 1) (xs++ys)=(_++wc (c + x.length + 1) xs)++wc (c + (x.length + 1 + tot xs)) ys
  rw[ze0 xs ys,List.append_assoc,show c + x.length + 1 + tot xs=c + (x.length + 1 + tot xs) by omega]
theorem zfV:∀ (xs:List Str) (c:Int) (p:Wd),p∈wc c xs→p.1.length≠0∧p.1∈xs
 | [],_,_,h=>by cases h
 | x::xs,c,p,h=>by
  rcases List.mem_append.mp h with h|h
  ·split at h
   ·cases h
   ·rename_i hx
    rw[List.mem_singleton.mp h]
    exact⟨hx,List.mem_cons_self ..⟩
  ·obtain⟨h1,h2⟩:=zfV xs _ p h
   exact⟨h1,List.mem_cons_of_mem _ h2⟩
theorem zea:∀ (xs:List Str) (c:Int),(wc c xs).length≤xs.length
 | [],_=>Nat.le_refl _
 | x::xs,c=>by
  show((if x.length=0 then[] else[(x,c)])++wc (c + x.length + 1) xs).length≤xs.length + 1
  have:=zea xs (c + x.length + 1)
  rw[List.length_append]
  split <;> simp <;> omega
theorem zfv:∀ m:Nat,tot (List.replicate m (Str.ofString ""))=m
 | 0=>rfl
 | m + 1=>by
  rw[List.replicate_succ]
  show((Str.ofString "").length:Int) + 1 + tot (List.replicate m (Str.ofString ""))=_
  rw[zfv m,show(Str.ofString "").length=0 from rfl]
  omega
theorem zi1:∀ (m:Nat) (c:Int),wc c (List.replicate m (Str.ofString ""))=[]
 | 0,_=>rfl
 | m + 1,c=>by
  rw[List.replicate_succ]
  show(if (Str.ofString "").length=0 then[] else _)++wc _ (List.replicate m (Str.ofString ""))=[]
  rw[zi1 m,if_pos (show(Str.ofString "").length=0 from rfl)]
  rfl
theorem zfw {c:Nat}:∀ {xs:List (List Nat)}{y:List Nat},xs≠[]→jl c (xs++[y])=jl c xs++c::y
 | [],_,h=>absurd rfl h
 | [x],y,_=>rfl
 | x::x'::r,y,_=>by
  show x++c::jl c ((x'::r)++[y])=(x++c::jl c (x'::r))++c::y
  rw[zfw (by simp),List.append_assoc]
  rfl
theorem zhI {c:Nat}{w:List Nat}:∀ (m:Nat){xs:List (List Nat)},xs≠[]→jl c (xs++List.replicate m []++[w])=jl c xs++List.replicate (m + 1) c++w
 | 0,xs,h=>by
  rw[List.replicate_zero,List.append_nil,zfw h,List.append_assoc]
  rfl
 | m + 1,xs,h=>by
  rw[List.replicate_succ,show xs++[]::List.replicate m []++[w]=(xs++[[]])++List.replicate m []++[w] by simp,zhI m (by simp),zfw h,List.replicate_succ (n:=m + 1)]
  simp
theorem zjY {c:Nat}{w:List Nat}:∀ m:Nat,jl c (List.replicate m []++[w])=List.replicate m c++w
 | 0=>rfl
 | m + 1=>by
  have:=zhI (c:=c) (w:=w) m (xs:=[[]]) (by simp)
  rw[List.replicate_succ]
  exact this
theorem zes {c:Nat}{x:Str}{ws:List Str} (h0:ws≠[]) (h:∀ y∈ws,c∉cl y) (e:cl x=jl c (ws.map cl)):Txt.split x ⟨#[c]⟩=ws:=by
 have e1:Txt.join ⟨#[c]⟩ ws=Str.join ⟨#[c]⟩ ws:=StrLaws.glued_eq_join _ _
 have e2:x=Txt.join ⟨#[c]⟩ ws:=zhH (by
  rw[e,e1]
  exact(zeo c ws).symm)
 rw[e2]
 exact zd7 h0 h
structure zc2 (line:Str) (ws:List Str) (out:List Wd):Prop where
 jn:cl line=jl 32 (ws.map cl)
 fr:∀ w∈ws,32∉cl w
 wd:wc 0 ws=out
 tt:ws≠[]→tot ws=line.length + 1
 la:(cl line).getLast?≠some 32
 nn:10∉cl line
theorem zc2.emp:zc2 (Str.ofString "") [] []:=⟨rfl,(fun _ h=>by cases h),rfl,(fun h=>absurd rfl h),by decide,by decide⟩
theorem zc2.em {line:Str}{out:List Wd} (h:zc2 line [] out):line.length=0:=by
 rw[← zbH,h.jn]
 rfl
theorem zc2.step {line line' w:Str}{ws:List Str}{out:List Wd}{q:Nat} (h:zc2 line ws out) (hw:w.length≠0) (hc:∀ c∈cl w,46≤c) (hq:ws≠[]→line.length + 1≤q) (e:cl line'=cl line++List.replicate (q - line.length) 32++cl w) :
  ∃ ws',ws'≠[]∧zc2 line' ws' (out++[(w,(q:Int))]):=by
 have w32:32∉cl w:=fun z=>by
  have:=hc 32 z
  omega
 have w10:10∉cl w:=fun z=>by
  have:=hc 10 z
  omega
 have ll:line'.length=line.length + (q - line.length) + w.length:=by
  rw[← zbH,e,List.length_append,List.length_append,List.length_replicate,zbH,zbH]
 have la':(cl line').getLast?≠some 32:=by
  rw[e,List.getLast?_append]
  cases z:(cl w).getLast? with
  | none=>exact absurd (by rw[← zbH,List.getLast?_eq_none_iff.mp z];rfl) hw
  | some c=>
   intro z'
   exact w32 (List.mem_of_getLast? (by rw[z];exact z'))
 have nn':10∉cl line':=by
  rw[e]
  intro z
  rcases List.mem_append.mp z with z|z
  ·rcases List.mem_append.mp z with z|z
   ·exact h.nn z
   ·exact absurd (List.eq_of_mem_replicate z) (by decide)
  ·exact w10 z
 have r0:cl (Str.ofString "")=[]:=rfl
 have fr':∀ m:Nat,∀ y∈ws++List.replicate m (Str.ofString "")++[w],32∉cl y:=fun m y hy=>by
  rcases List.mem_append.mp hy with hy|hy
  ·rcases List.mem_append.mp hy with hy|hy
   ·exact h.fr y hy
   ·rw[List.eq_of_mem_replicate hy,r0]
    simp
  ·rw[List.mem_singleton.mp hy]
   exact w32
 have wd':∀ m:Nat,tot ws + m=q→wc 0 (ws++List.replicate m (Str.ofString "")++[w])=out++[(w,(q:Int))]:=fun m hm=>by
  rw[ze0,ze0,zi1,h.wd,List.append_nil,zcT,zfv]
  show out++((if w.length=0 then[] else[(w,0 + (tot ws + m))])++[])=_
  rw[if_neg hw,List.append_nil,Int.zero_add,hm]
 have tt':∀ m:Nat,tot ws + m=q→tot (ws++List.replicate m (Str.ofString "")++[w])=q + w.length + 1:=fun m hm=>by
  rw[zcT,zcT,zfv]
  show tot ws + m + ((w.length:Int) + 1 + 0)=_
  omega
 by_cases h0:ws=[]
 ·subst h0
  have hl:=h.em
  have ce:cl line=[]:=List.eq_nil_of_length_eq_zero (by rw[zbH];exact hl)
  have z0:tot [] + (q:Int)=q:=by show(0:Int) + q=q;omega
  refine⟨[]++List.replicate q (Str.ofString "")++[w],by simp,?_,fr' q,wd' q z0,fun _=>?_,la',nn'⟩
  ·rw[List.nil_append,List.map_append,List.map_replicate,r0]
   show _=jl 32 (List.replicate q []++[cl w])
   rw[zjY,e,ce,hl,List.nil_append,Nat.sub_zero]
  ·rw[tt' q z0,ll,hl]
   omega
 ·have hq':=hq h0
  have ht:=h.tt h0
  have z0:tot ws + ((q - line.length - 1:Nat):Int)=q:=by omega
  refine⟨ws++List.replicate (q - line.length - 1) (Str.ofString "")++[w],by simp,?_,fr' _,wd' _ z0,fun _=>?_,la',nn'⟩
  ·rw[List.map_append,List.map_append,List.map_replicate,r0]
   show _=jl 32 (ws.map cl++List.replicate (q - line.length - 1) []++[cl w])
   rw[zhI _ (by simpa using h0),← h.jn,e,show q - line.length - 1 + 1=q - line.length by omega]
  ·rw[tt' _ z0,ll]
   omega
theorem zc2.split {line:Str}{ws:List Str}{out:List Wd} (h:zc2 line ws out):wc 0 (Txt.split line bk)=out:=by
 rw[ziv]
 by_cases h0:ws=[]
 ·subst h0
  have e:Txt.split line ⟨#[32]⟩=[Str.ofString ""]:=zes (by simp) (fun y hy=>by rw[List.mem_singleton.mp hy];decide) h.jn
  rw[e,← h.wd]
  rfl
 ·rw[zes h0 h.fr h.jn]
  exact h.wd
theorem zdK {c:Nat}:small c=true↔c∈cl abc:=by
 unfold small
 rw[StrLaws.found_one]
 exact decide_eq_true_iff
theorem zhJ:∀ c∈cl abc,97≤c∧c≤122:=by decide +kernel
def zbx (l:Str):Bool:=decide ((cl l).getLast?=some 32)
theorem zjZ (l:Str):Txt.endswith l bk=zbx l:=by
 rw[ziv]
 unfold Txt.endswith zbx
 have h:=StrLaws.subAt_one l 32 (l.length - 1)
 rw[show(⟨#[32]⟩:Str).length=1 from rfl,show l.cps.toList[l.length - 1]?=(cl l).getLast? by rw[List.getLast?_eq_getElem?,zbH];rfl] at h
 rw[show(⟨#[32]⟩:Str).length=1 from rfl]
 rw[Bool.eq_iff_iff,Bool.and_eq_true,decide_eq_true_iff,decide_eq_true_iff,← h]
 constructor
 ·rintro⟨h1,h2⟩
  exact⟨by omega,h2⟩
 ·rintro⟨h1,h2⟩
  exact⟨by omega,h2⟩
def wOk (p:Wd):Bool:=(za9 p.1 || decide (p.1=Str.ofString ".")) && decide (p.2 % 10=0)
def zbi (l:Str):List Wd:=wc 0 (Txt.split l bk)
def zaD (l:Str):Bool:=!zbx l && (zbi l).all wOk
def zfW (l:Str):List Wd:=(zbi l).map fun p=>(p.1,p.2 / 10)
def bad (ls:List Str):Option Nat:=ls.findIdx? fun l=>!zaD l
def odd (w:Str):List Str:=((cl w).filter fun c=>!small c).map fun c=>⟨#[c]⟩
def ze1 (p:Wd):Bool:=decide (p.2 % 10≠0) || (decide (p.1≠Str.ofString ".") && (decide (odd p.1≠[]) || decide (8<p.1.length)))
theorem zj0 {p:Wd} (h:p.1.length≠0):ze1 p=!wOk p:=by
 have e:decide (odd p.1≠[])=!((cl p.1).all small):=by
  unfold odd
  rw[Bool.eq_iff_iff,decide_eq_true_iff]
  simp
 have h1:za9 p.1=(decide (p.1.length≤8) && (cl p.1).all small):=by
  unfold za9 cl
  rw[decide_eq_true (show 1≤p.1.length by omega),Bool.true_and]
 unfold ze1 wOk
 rw[e,h1]
 by_cases a1:p.2 % 10=0 <;> by_cases a2:p.1=Str.ofString "." <;> by_cases a3:p.1.length≤8 <;> cases (cl p.1).all small <;> simp[a1,a2,a3] <;> omega
theorem anyE {α:Type}{f g:α→Bool}:∀ {l:List α},(∀ x∈l,f x=g x)→l.any f=l.any g
 | [],_=>rfl
 | x::l,h=>by rw[List.any_cons,List.any_cons,h x (List.mem_cons_self ..),anyE fun y hy=>h y (List.mem_cons_of_mem _ hy)]
theorem zb6 (l:Str):zaD l=!((zbi l).any ze1 || zbx l):=by
 have e:(zbi l).any ze1=!(zbi l).all wOk:=by
  rw[List.not_all_eq_any_not]
  exact anyE fun p hp=>zj0 (zfV _ _ p hp).1
 unfold zaD
 rw[e]
 cases (zbi l).all wOk <;> cases zbx l <;> rfl
end K71
namespace K71
open PySem L2 PyProof.Rows
theorem zet (x:Str) (i:Int):cl (Txt.ljust x i)=cl x++List.replicate (i.toNat - x.length) 32:=by
 unfold Txt.ljust
 split
 ·rw[show i.toNat - x.length=0 by omega]
  simp
 ·show(Builtin.Str.padded x 0 (i.toNat - x.length) 32).cps.toList=_
  rw[padded_list]
  rfl
theorem ze2 (x:Str) (i:Int):(Txt.ljust x i).length=x.length + (i.toNat - x.length):=by
 rw[← zbH,zet,List.length_append,zbH,List.length_replicate]
theorem mul_cl (n:Int):cl (Txt.mul bk n)=List.replicate n.toNat 32:=by
 rw[ziv]
 exact mul_one_list 32 n
theorem zi2 (x:Str) (i:Int):x++Txt.mul bk (i - x.length)=Txt.ljust x i:=zhH (by
 rw[zeZ,mul_cl,zet,show(i - (x.length:Int)).toNat=i.toNat - x.length by omega])
theorem zj1 {it:It} (h:it.Ok):it.drawn.length≠0∧it.drawn.length≤8∧(∀ c∈cl it.drawn,46≤c)∧(za9 it.drawn || decide (it.drawn=Str.ofString "."))=true:=by
 cases it with
 | own n hf=>
  have h':za9 n=true:=h
  have h2:=h'
  unfold za9 at h2
  rw[Bool.and_eq_true,Bool.and_eq_true,decide_eq_true_iff,decide_eq_true_iff] at h2
  obtain⟨⟨l1,l2⟩,l3⟩:=h2
  refine⟨by show n.length≠0;omega,l2,fun c hc=>?_,by show(za9 n || _)=true;rw[h'];rfl⟩
  have:=zhJ c (zdK.mp (List.all_eq_true.mp l3 c hc))
  omega
 | small i k=>
  have e:(It.small i k).drawn=Str.ofString ".":=rfl
  rw[e]
  decide +kernel
def zbs (pl:Str→Int) (line:Str) (it:It):Str:=Txt.ljust line (10 * pl it.label)++it.drawn
def zaA (pl:Str→Int) (its:List It):Str:=its.foldl (zbs pl) (Str.ofString "")
def InR (pl:Str→Int) (it:It):Prop:=0≤pl it.label∧pl it.label≤200
theorem zdL {pl:Str→Int}{line:Str}{it:It}{n:Nat} (h:InR pl it) (ok:it.Ok) (hl:line.length≤2000 + 8 * n):(zbs pl line it).length≤2000 + 8 * (n + 1):=by
 obtain⟨_,h2,_⟩:=zj1 ok
 obtain⟨_,h3⟩:=h
 unfold zbs
 rw[PySem.Str.length_append,ze2]
 omega
theorem zc9 {pl:Str→Int}:∀ {its:List It}{line:Str}{n:Nat},(∀ it∈its,InR pl it∧it.Ok)→line.length≤2000 + 8 * n→(its.foldl (zbs pl) line).length≤2000 + 8 * (n + its.length)
 | [],line,n,_,h=>h
 | it::r,line,n,k,h=>by
  obtain⟨k1,k2⟩:=k it (List.mem_cons_self ..)
  have:=zc9 (its:=r) (fun i hi=>k i (List.mem_cons_of_mem _ hi)) (zdL k1 k2 h)
  rw[List.length_cons]
  show(r.foldl (zbs pl) (zbs pl line it)).length≤_
  omega
theorem zdM {pl:Str→Int}{its:List It} (h:∀ it∈its,InR pl it∧it.Ok) (h5:its.length≤5):(zaA pl its).length≤2040:=by
 have:=zc9 (n:=0) (line:=Str.ofString "") h (by decide)
 unfold zaA
 omega
def Rs (pl:Str→Int):Int→List It→Prop
 | _,[]=>True
 | lo,it::r=>lo≤pl it.label∧Rs pl (pl it.label + 1) r
def zgm (pl:Str→Int) (it:It):Wd:=(it.drawn,10 * pl it.label)
theorem zhK {pl:Str→Int}:∀ {its:List It}{line:Str}{ws:List Str}{out:List Wd}{lo:Int},Rs pl lo its→(∀ it∈its,it.Ok)→zc2 line ws out→0≤lo→(ws≠[]→(line.length:Int)≤10 * lo - 2)→∃ ws',zc2 (its.foldl (zbs pl) line) ws' (out++its.map (zgm pl))
 | [],line,ws,out,lo,_,_,h,_,_=>⟨ws,by rw[List.map_nil,List.append_nil];exact h⟩
 | it::r,line,ws,out,lo,hr,ok,h,h0,hl=>by
  obtain⟨r1,r2⟩:=hr
  have oi:=ok it (List.mem_cons_self ..)
  obtain⟨d1,d2,d3,_⟩:=zj1 oi
  have e:cl (zbs pl line it)=cl line++List.replicate ((10 * pl it.label).toNat - line.length) 32++cl it.drawn:=by
   unfold zbs
   rw[zeZ,zet]
  obtain⟨ws',n',h'⟩:=h.step d1 d3 (q:=(10 * pl it.label).toNat) (fun z=>by have:=hl z;omega) e
  have eq:(((10 * pl it.label).toNat:Nat):Int)=10 * pl it.label:=by omega
  rw[eq] at h'
  have ll:((zbs pl line it).length:Int)≤10 * (pl it.label + 1) - 2:=by
   unfold zbs
   rw[PySem.Str.length_append,ze2]
   by_cases z:ws=[]
   ·subst z
    have:=h.em
    omega
   ·have:=hl z
    omega
  obtain⟨ws2,h2⟩:=zhK (its:=r) r2 (fun i hi=>ok i (List.mem_cons_of_mem _ hi)) h' (by omega) (fun _=>ll)
  refine⟨ws2,?_⟩
  rw[List.map_cons,show out++zgm pl it::r.map (zgm pl)=(out++[(it.drawn,10 * pl it.label)])++r.map (zgm pl) by simp[zgm]]
  exact h2
def zh1 (pl:Str→Int) (its:List It):List Wd:=its.map fun it=>(it.drawn,pl it.label)
theorem zda {pl:Str→Int}{its:List It} (h:Rs pl 0 its) (ok:∀ it∈its,it.Ok):zaD (zaA pl its)=true∧zfW (zaA pl its)=zh1 pl its∧10∉cl (zaA pl its):=by
 obtain⟨ws,S⟩:=zhK h ok zc2.emp (Int.le_refl 0) (fun z=>absurd rfl z)
 rw[List.nil_append] at S
 have e:zbi (zaA pl its)=its.map (zgm pl):=S.split
 refine⟨?_,?_,S.nn⟩
 ·unfold zaD
  rw[e,show zbx (zaA pl its)=false from decide_eq_false S.la,Bool.not_false,Bool.true_and,List.all_eq_true]
  intro p hp
  obtain⟨it,hi,rfl⟩:=List.mem_map.mp hp
  obtain⟨_,_,_,d4⟩:=zj1 (ok it hi)
  show((za9 it.drawn || decide (it.drawn=Str.ofString ".")) && decide (10 * pl it.label % 10=0))=true
  rw[d4,Bool.true_and]
  exact decide_eq_true (by omega)
 ·unfold zfW zh1
  rw[e,List.map_map]
  refine List.map_congr_left fun it _=>?_
  show(it.drawn,10 * pl it.label / 10)=(it.drawn,pl it.label)
  rw[show 10 * pl it.label / 10=pl it.label by omega]
def pic (pl:Str→Int) (rows:List (List It)):Str:=Txt.join nl (rows.map (zaA pl))
def zb1 (pl:Str→Int) (rows:List (List It)):List (List Wd):=if rows=[] then[[]] else rows.map (zh1 pl)
theorem ziw {pl:Str→Int}{rows:List (List It)} (h:∀ r∈rows,Rs pl 0 r∧∀ it∈r,it.Ok):bad (Txt.split (pic pl rows) nl)=none∧(Txt.split (pic pl rows) nl).map zfW=zb1 pl rows:=by
 unfold zb1 pic
 by_cases z:rows=[]
 ·subst z
  rw[if_pos rfl,nl_mk]
  have e:Txt.split (Txt.join ⟨#[10]⟩ (List.map (zaA pl) [])) ⟨#[10]⟩=[Str.ofString ""]:=zes (by simp) (fun y hy=>by rw[List.mem_singleton.mp hy];decide) rfl
  have S:=zda (pl:=pl) (its:=[]) trivial (fun _ h=>by cases h)
  rw[e]
  refine⟨?_,?_⟩
  ·unfold bad
   rw[List.findIdx?_eq_none_iff]
   intro l hl
   rw[List.mem_singleton.mp hl,show zaD (Str.ofString "")=true from S.1]
   rfl
  ·show[zfW (Str.ofString "")]=[[]]
   rw[show zfW (Str.ofString "")=[] from S.2.1]
 ·rw[if_neg z,nl_mk,zd7 (c:=10) (by simpa using z) (fun y hy=>by
   obtain⟨r,hr,rfl⟩:=List.mem_map.mp hy
   obtain⟨h1,h2⟩:=h r hr
   exact(zda h1 h2).2.2)]
  refine⟨?_,?_⟩
  ·unfold bad
   rw[List.findIdx?_eq_none_iff]
   intro l hl
   obtain⟨r,hr,rfl⟩:=List.mem_map.mp hl
   obtain⟨h1,h2⟩:=h r hr
   rw[(zda h1 h2).1]
   rfl
  ·rw[List.map_map]
   refine List.map_congr_left fun r hr=>?_
   obtain⟨h1,h2⟩:=h r hr
   exact(zda h1 h2).2.1
end K71
namespace K71
open PySem L2
theorem zbI {α:Type}{rows:List (List α)}{i:Nat}{row:List α} (h:rows[i]?=some row):(rows.take (i + 1)).flatten=(rows.take i).flatten++row:=by
 rw[zak h,List.flatten_append]
 simp
theorem zj2 {α:Type} (rows:List (List α)) (i:Nat):(rows.take i).flatten.length≤rows.flatten.length:=by
 have:rows.flatten=(rows.take i).flatten++(rows.drop i).flatten:=by rw[← List.flatten_append,List.take_append_drop]
 rw[this,List.length_append]
 omega
theorem zdb {α:Type}{n:Nat}:∀ {rows:List (List α)},(∀ r∈rows,r.length≤n)→rows.flatten.length≤n * rows.length
 | [],_=>by simp
 | r::rows,h=>by
  have h1:=h r (List.mem_cons_self ..)
  have h2:=zdb (rows:=rows) fun x hx=>h x (List.mem_cons_of_mem _ hx)
  rw[List.flatten_cons,List.length_append,List.length_cons,Nat.mul_succ]
  omega
theorem zby {ws:List Str}{i:Nat}{y:V} (h:(ws.map V.str)[i]?=some y):∃ s,ws[i]?=some s∧y=.str s:=by
 rw[List.getElem?_map] at h
 cases e:ws[i]? with
 | none=>rw[e] at h;cases h
 | some s=>rw[e] at h;cases h;exact⟨s,rfl,rfl⟩
theorem at_i {α:Type}{xs:List α}{k:Int} (h0:0≤k):atI xs k=xs[k.toNat]?:=ziW h0
def Vl (kv:Kvs) (pl:Str→Int) (s:Str):Prop:=zcp kv (Sum.inr s)=some (.int (pl s))
section
variable {P:Program}{w:World}{K:PySem.W.Frag}{mg:Str→Option Value}{base:Heap}{a:Adr}
def zhL:Sp:=fun vs H Q _=>∃ l ys rows,vs=[.ref l]∧H l=some (.lst ys)∧F2 (SAt H) ys rows∧rows.flatten.length≤300∧∀ d H',zaj H H'→H d=none→H' d=some (.lst (rows.flatten.map V.str))→Q (.ref d) H'
theorem zc3 (T:Tx K mg a):Cal P w K mg base CX0 1 "marks_in_line" ["rows"] [] zhL:=T.d_marks_in_line.cal fun f fd F=>by
 refine F.ok zbh (fun vs H Q E h=>?_) (fun cdv A outer s H vs Q E hr h=>?_)
 ·obtain⟨l,ys,rows,rfl,_⟩:=h
  rfl
 ·obtain⟨l,ys,rows,rfl,hl,hw,h300,k⟩:=h
  refine⟨_,(zac (zao (i:=1) zbh.nd rfl (by first|exact Or.inl rfl|exact Or.inr rfl) (zaY zad))
   (zac (za4 PassesOwn.never rfl (zaF (pv 0)) (zal (i:=2) zbh.nd rfl (by first|exact Or.inl rfl|exact Or.inr rfl)) (zae (za3 (zbn PySem.F.plainAttrs_list PySem.F.slot_list_extend PySem.F.type_list_extend zgQ (pv 1) (zaa (pv 2) zad)))))
   (zae (zap (pv 1))))),?_⟩
  refine⟨(by show 0≤sizeLine;decide),fun g ng=>?_⟩
  have s1:zaj H (upd H g (.lst [])):=zaj.new ng
  have h1:upd H g (.lst []) g=some (.lst []):=zab
  generalize upd H g (.lst [])=H1 at s1 h1 ⊢
  refine⟨_,rfl,l,rfl,⟨_,SqL.of (s1 _ _ hl)⟩,zbd (K:=K) (a:=l) (xs:=ys) (fun i σ H'=>∃ v2,σ=[some (.ref l),some (.ref g),v2]∧zaj H H'∧H' g=some (.lst ((rows.take i).flatten.map V.str)))
   ⟨none,rfl,s1,h1⟩ ?_ ?_ ?_⟩
  ·rintro i σ H' _ ⟨_,rfl,sm,_⟩
   exact SqL.of (sm _ _ hl)
  ·rintro i x σ H' hx ⟨v2,rfl,sm,hg⟩
   obtain⟨row,hrow,r,rfl,hrr⟩:=hw.get hx
   have f1:=zj2 rows (i + 1)
   rw[zbI hrow,List.length_append] at f1
   dsimp only[zaI]
   refine⟨_,rfl,.inl ⟨rfl,_,SqL.of hg⟩,_,rfl,g,r,_,_,rfl,rfl,hg,sm _ _ hrr,by rw[List.length_map,List.length_map,sizeLine_eq];omega,?_⟩
   refine⟨_,rfl,zaw ng sm,?_⟩
   rw[zab,zbI hrow,List.map_append]
  ·rintro σ H' ⟨v2,rfl,sm,hg⟩
   rw[hw.len,List.take_length] at hg
   exact⟨_,rfl,k g H' sm ng hg⟩
def zgn (a:Adr):Sp:=fun vs H Q _=>∃ p xs its d kv pl,vs=[.ref p,.ref d]∧H p=some (.lst xs)∧zjW a H xs its∧its.length≤5∧(∀ it∈its,InR pl it∧it.Ok)∧H d=some (.dK kv)∧(∀ it∈its,Vl kv pl it.label)∧Q (.str (zaA pl its)) H
theorem ze3 (T:Tx K mg a):Cal P w K mg base CX0 2 "drawn_row" ["row","places"] [] (zgn a):=T.d_drawn_row.cal fun f fd F=>by
 have m_Own_label:=za2 (P:=P) (w:=w) (base:=base) T
 have m_Small_label:=zaO (P:=P) (w:=w) (base:=base) T
 have m_Own_drawn:=zb0 (P:=P) (w:=w) (base:=base) T
 have m_Small_drawn:=zbA (P:=P) (w:=w) (base:=base) T
 refine F.ok zbw (fun vs H Q E h=>?_) (fun cdv A outer s H vs Q E hr h=>?_)
 ·obtain⟨p,xs,its,d,kv,pl,rfl,_⟩:=h
  rfl
 ·obtain⟨p,xs,its,d,kv,pl,rfl,hp,hx,h5,ok,hd,hv,k⟩:=h
  refine⟨_,(zac (zao (i:=2) zbw.nd rfl (by first|exact Or.inl rfl|exact Or.inr rfl) zaX)
   (zac (za4 PassesOwn.never rfl (zaF (pv 0)) (zal (i:=3) zbw.nd rfl (by first|exact Or.inl rfl|exact Or.inr rfl)) (zae (zao (i:=2) zbw.nd rfl (by first|exact Or.inl rfl|exact Or.inr rfl) (zam zaG (zbn PySem.F.plainAttrs_str PySem.F.slot_str_ljust PySem.F.type_str_ljust zir (pv 2) (zaa (zam zdX (zdv rfl T.k_COLUMNS) (zbg (zcu hr) (pv 1) (zaM (zaq (pv 3) T.c_Own m_Own_label (hr.mono (by decide))) (zaq (pv 3) T.c_Small m_Small_label (hr.mono (by decide)))) (fun _ _=>rfl))) zad)) (zaM (zaq (pv 3) T.c_Own m_Own_drawn (hr.mono (by decide))) (zaq (pv 3) T.c_Small m_Small_drawn (hr.mono (by decide))))))))
   (zae (zap (pv 2))))),?_⟩
  refine⟨_,rfl,p,rfl,⟨_,SqL.of hp⟩,zbd (K:=K) (a:=p) (xs:=xs) (fun i σ G=>G=H∧∃ v3,σ=[some (.ref p),some (.ref d),some (.str ((its.take i).foldl (zbs pl) (Str.ofString ""))),v3]) ⟨rfl,none,rfl⟩ ?_ ?_ ?_⟩
  ·rintro i σ G _ ⟨rfl,_,rfl⟩
   exact SqL.of hp
  ·rintro i x σ G hx' ⟨rfl,v3,rfl⟩
   obtain⟨it,e1,q,rfl,iq⟩:=hx.get hx'
   have mi:=List.mem_of_getElem? e1
   have hi:i<its.length:=(List.getElem?_eq_some_iff.mp e1).1
   obtain⟨ir,io⟩:=ok it mi
   have ll:=zc9 (pl:=pl) (its:=its.take i) (line:=Str.ofString "") (n:=0) (fun z hz=>ok z (List.mem_of_mem_take hz)) (by decide)
   have ln:=zdL ir io ll
   rw[List.length_take] at ll ln
   dsimp only[zaI]
   refine⟨_,rfl,rfl,_,rfl,?_⟩
   refine zbl iq io (fun Q' h=>⟨_,rfl,h⟩) ?_
   refine⟨d,_,rfl,zbv (k:=Sum.inr it.label) hd (hv it mi),_,_,rfl,rfl,.inl ⟨by decide,by decide⟩,_,_,rfl,rfl,?_,?_,?_⟩
   ·have:=ir.1
    show 0≤10 * pl it.label
    omega
   ·have:=ir.2
    show 10 * pl it.label<16777217
    omega
   refine zer iq io (fun Q' h=>⟨_,rfl,h⟩) ?_
   refine⟨_,_,rfl,rfl,?_,rfl,some (.ref q),?_⟩
   ·have e:(Txt.ljust ((its.take i).foldl (zbs pl) (Str.ofString "")) (10 * pl it.label)).length + it.drawn.length=(zbs pl ((its.take i).foldl (zbs pl) (Str.ofString "")) it).length:=by unfold zbs;rw[PySem.Str.length_append]
    rw[e,sizeLine_eq]
    omega
   ·rw[zak e1,List.foldl_append]
    rfl
  ·rintro σ G ⟨rfl,v3,rfl⟩
   rw[hx.len,List.take_length]
   exact⟨_,rfl,k⟩
def okP (pl:Str→Int) (s:Str):Bool:=decide (0≤pl s) && decide (pl s≤200)
def zhM (a:Adr):Sp:=fun vs H Q E=>∃ p xs rows d kv pl,vs=[.ref p,.ref d]∧H p=some (.lst xs)∧WsV a H xs rows∧rows.length≤5∧(∀ r∈rows,r.length≤5∧∀ it∈r,it.Ok)∧H d=some (.dK kv)∧(∀ r∈rows,∀ it∈r,Vl kv pl it.label) ∧
 ((∀ r∈rows,∀ it∈r,InR pl it)→∀ H',zaj H H'→Q (.str (pic pl rows)) H')∧((∃ r∈rows,∃ it∈r,¬ InR pl it)→∀ H',zaj H H'→E (.ref a.TooLong) none H')
theorem zi3 {pl:Str→Int}{rows:List (List It)}:(((rows.map zcS).flatten.map (okP pl)).all id=true↔∀ r∈rows,∀ it∈r,InR pl it):=by
 rw[List.all_map,List.all_eq_true]
 constructor
 ·intro h r hr it hi
  have:=h it.label (List.mem_flatten.mpr ⟨zcS r,List.mem_map_of_mem hr,List.mem_map_of_mem hi⟩)
  have this:okP pl it.label=true:=this
  unfold okP at this
  rw[Bool.and_eq_true,decide_eq_true_iff,decide_eq_true_iff] at this
  exact this
 ·intro h s hs
  obtain⟨l,hl,hs'⟩:=List.mem_flatten.mp hs
  obtain⟨r,hr,rfl⟩:=List.mem_map.mp hl
  obtain⟨it,hi,rfl⟩:=List.mem_map.mp hs'
  have:=h r hr it hi
  show okP pl it.label=true
  unfold okP
  rw[Bool.and_eq_true,decide_eq_true_iff,decide_eq_true_iff]
  exact this
theorem zfX {α:Type}{f:α→Nat}{n:Nat}:∀ {l:List α},(∀ x∈l,f x≤n)→(l.map f).sum≤n * l.length
 | [],_=>by simp
 | x::l,h=>by
  have h1:=h x (List.mem_cons_self ..)
  have h2:=zfX (l:=l) fun y hy=>h y (List.mem_cons_of_mem _ hy)
  rw[List.map_cons,List.sum_cons,List.length_cons,Nat.mul_succ]
  omega
theorem zgo (T:Tx K mg a):Cal P w K mg base (CXe P w) 3 "picture" ["rows","places"] [] (zhM a):=T.d_picture.cal fun f fd F=>by
 have c_in_range:=zft (P:=P) (w:=w) (base:=base) T
 have c_marks_of:=zdJ (P:=P) (w:=w) (base:=base) T
 have c_marks_in_line:=zc3 (P:=P) (w:=w) (base:=base) T
 have c_drawn_row:=ze3 (P:=P) (w:=w) (base:=base) T
 refine F.okX zgk (fun vs H Q E h=>?_) (fun cdv A outer s H vs Q E hr h=>?_)
 ·obtain⟨p,xs,rows,d,kv,pl,rfl,_⟩:=h
  rfl
 ·obtain⟨p,xs,rows,d,kv,pl,rfl,hp,hx,r5,ok,hd,hv,k1,k2⟩:=h
  have fl:(rows.map zcS).flatten.length≤300:=by
   have:=zdb (rows:=rows.map zcS) (n:=5) fun r hr=>by
    obtain⟨r',h',rfl⟩:=List.mem_map.mp hr
    rw[List.length_map]
    exact(ok r' h').1
   rw[List.length_map] at this
   omega
  refine⟨_,(zac (zbJ (zfy (zdW (zay zdx rfl T.n_all zhm (zaa (zbp (N:=["mark","places"]) (cap:=[none,some 1]) rfl (zbC (osc:=zag zcE) (XN:=["rows","places"]) rfl rfl (by decide +kernel)) (zaF (zaE c_marks_in_line (hr.mono (by decide)) rfl (zaa (zaE c_marks_of (hr.mono (by decide)) rfl (zaa (pv 0) zad)) zad))) (fun cl C s H fp pins=>(zal (i:=0) (show(["mark","places"]:List Str).Nodup by decide +kernel) rfl (by first|exact Or.inl rfl|exact Or.inr rfl))) (fun cl C s H fp pins=>zbo) (fun cl C s H fp pins=>(zaE c_in_range (hr.mono (by decide)) rfl (zaa (zbg (zcu hr) (pv 1) (pv 0) (fun _ _=>rfl)) (zaa zah (zaa (zdv rfl T.k_GREATEST_PLACE) zad)))))) zad)))) (zae (zg8 zg3 T.x_TooLong rfl T.g_TooLong)) zaC)
   (zae (zap (zbn PySem.F.plainAttrs_str PySem.F.slot_str_join PySem.F.type_str_join zfj zaX (zaa (zbp (N:=["row","places"]) (cap:=[none,some 1]) rfl (zbC (osc:=zag zcE) (XN:=["rows","places"]) rfl rfl (by decide +kernel)) (zaF (pv 0)) (fun cl C s H fp pins=>(zal (i:=0) (show(["row","places"]:List Str).Nodup by decide +kernel) rfl (by first|exact Or.inl rfl|exact Or.inr rfl))) (fun cl C s H fp pins=>zbo) (fun cl C s H fp pins=>(zaE c_drawn_row (hr.mono (by decide)) rfl (zaa (pv 0) (zaa (pv 1) zad))))) zad))))),?_⟩
  refine⟨_,rfl,p,xs,rows,rfl,hp,hx,fun r hr=>⟨by have:=(ok r hr).1;omega,(ok r hr).2⟩,by omega,fun l ys H1 s1 n1 h1 f1=>?_⟩
  refine⟨l,ys,_,rfl,h1,f1,fl,fun m H2 s2 n2 h2=>?_⟩
  have s12:=s1.trans s2
  refine⟨m,rfl,⟨_,SqL.of h2⟩,fun D hD=>?_⟩
  refine zaT (K:=K) (a:=m) (xs:=(rows.map zcS).flatten.map V.str) (fun j τ G=>∃ v1,τ=[v1,some (.ref d)]∧zaj H2 G∧G D=some (.lst ((((rows.map zcS).flatten.take j).map (okP pl)).map V.bl))) ⟨none,rfl,zaj.new hD,zab⟩ ?_ ?_ ?_
  ·rintro j τ G _ ⟨_,rfl,sg,_⟩
   exact SqL.of (sg _ _ h2)
  ·rintro j y τ G hy ⟨v1,rfl,sg,hG⟩
   obtain⟨z,hz,rfl⟩:=zby hy
   have hj:j<(rows.map zcS).flatten.length:=(List.getElem?_eq_some_iff.mp hz).1
   obtain⟨r,hr',hzr⟩:=List.mem_flatten.mp (List.mem_of_getElem? hz)
   obtain⟨r',h',rfl⟩:=List.mem_map.mp hr'
   obtain⟨it,hi,rfl⟩:=List.mem_map.mp hzr
   dsimp only[zaI,zgv]
   rw[if_pos rfl]
   refine⟨_,rfl,_,rfl,d,_,rfl,zbv (k:=Sum.inr it.label) (sg _ _ (s12 _ _ hd)) (hv r' h' it hi),_,_,_,rfl,?_⟩
   refine⟨_,hG,by rw[List.length_map,List.length_map,List.length_take,sizeLine_eq];omega,_,rfl,zaw hD sg,?_⟩
   rw[zab,zak hz,List.map_append,List.map_append]
   rfl
  rintro τ G ⟨v1,rfl,sg,hG⟩
  rw[List.length_map,List.take_length] at hG
  have s3:=s12.trans sg
  refine⟨D,_,rfl,SqL.of hG,_,rfl,?_⟩
  refine zcl (fun c=>?_) (fun c=>?_)
  ·have c':¬ ((rows.map zcS).flatten.map (okP pl)).all id=true:=by simpa using c
   rw[zi3] at c'
   exact⟨by show 0≤sizeLine;decide,k2 (Classical.byContradiction fun z=>c' fun r hr it hi=>Classical.byContradiction fun y=>z ⟨r,hr,it,hi,y⟩) _ s3⟩
  ·have c':((rows.map zcS).flatten.map (okP pl)).all id=true:=by simpa using c
   rw[zi3] at c'
   refine⟨rfl,_,rfl,p,rfl,⟨_,SqL.of (s3 _ _ hp)⟩,fun D2 hD2=>?_⟩
   refine zaT (K:=K) (a:=p) (xs:=xs) (fun j τ G'=>∃ v1,τ=[v1,some (.ref d)]∧zaj G G'∧G' D2=some (.lst (((rows.take j).map (zaA pl)).map V.str))) ⟨none,rfl,zaj.new hD2,zab⟩ ?_ ?_ ?_
   ·rintro j τ G' _ ⟨_,rfl,sg',_⟩
    exact SqL.of (sg' _ _ (s3 _ _ hp))
   ·rintro j y τ G' hy ⟨v1,rfl,sg',hG'⟩
    obtain⟨its,e1,r1,zs,rfl,h1',hz⟩:=hx.get hy
    have mi:=List.mem_of_getElem? e1
    have hj:j<rows.length:=(List.getElem?_eq_some_iff.mp e1).1
    have s4:=s3.trans sg'
    dsimp only[zaI,zgv]
    rw[if_pos rfl]
    refine⟨_,rfl,_,rfl,r1,zs,its,d,kv,pl,rfl,s4 _ _ h1',zeq hz s4,(ok its mi).1,fun it hi=>⟨c' its mi it hi,(ok its mi).2 it hi⟩,s4 _ _ hd,hv its mi,?_⟩
    refine⟨_,hG',by rw[List.length_map,List.length_map,List.length_take,sizeLine_eq];omega,_,rfl,zaw hD2 sg',?_⟩
    rw[zab,zak e1,List.map_append,List.map_append]
    rfl
   rintro τ G' ⟨v1,rfl,sg',hG'⟩
   rw[hx.len,List.take_length] at hG'
   refine⟨_,D2,_,rfl,rfl,SqL.of hG',?_,k1 c' _ (s3.trans sg')⟩
   have:=zfX (f:=fun s:Str=>s.length) (n:=2040) (l:=rows.map (zaA pl)) fun x hx=>by
    obtain⟨r,hr,rfl⟩:=List.mem_map.mp hx
    exact zdM (fun it hi=>⟨c' r hr it hi,(ok r hr).2 it hi⟩) (ok r hr).1
   rw[List.length_map] at this ⊢
   rw[show(Str.ofString "\n").length=1 from rfl]
   omega
end
end K71
namespace K71
open PySem L2
def wdD (p:Wd):Dt:=.tup [.str p.1,.int p.2]
theorem zhN {K:PySem.W.Frag}{H:Hp}{t:Addr}{q:Wd} (h:SqT K H t [.str q.1,.int q.2]):DtV K H (wdD q) (.ref t):=⟨t,_,rfl,h,_,_,rfl,rfl,_,_,rfl,rfl,rfl⟩
theorem un_wd {K:PySem.W.Frag}{H:Hp}{x:V}{q:Wd} (h:DtV K H (wdD q) x):∃ t,x=.ref t∧SqT K H t [.str q.1,.int q.2]:=by
 obtain⟨t,xs,rfl,h1,y1,ys1,rfl,rfl,y2,ys2,rfl,rfl,h2⟩:=h
 rw[show ys2=[] from h2] at h1
 exact⟨t,rfl,h1⟩
theorem zcU:∀ l:List Wd,zdy (l.map wdD)=true
 | []=>rfl
 | _::l=>zcU l
theorem zi4 {K:PySem.W.Frag}{D z:Addr}{B H:Hp}{ds:List Dt}{d:Dt}{ys vs:List V} (nD:B D=none) (sm:zaj B H) (hy:H D=some (.lst ys)) (dy:zbr K H ds ys) (nl:zdy ds=true) (nz:H z=none) (hd:∀ H',SqT K H' z vs→DtV K H' d (.ref z)) :
  (upd H z (.tup vs)) D=some (.lst ys)∧zaj B (upd (upd H z (.tup vs)) D (.lst (ys++[.ref z])))∧zbr K (upd (upd H z (.tup vs)) D (.lst (ys++[.ref z]))) (ds++[d]) (ys++[.ref z]):=by
 have s3:zaj H (upd H z (.tup vs)):=zaj.new nz
 have hz:SqT K (upd H z (.tup vs)) z vs:=SqT.of zab
 have hy3:=s3 _ _ hy
 generalize upd H z (.tup vs)=H3 at s3 hz hy3 ⊢
 have tk:Tk H3 (upd H3 D (.lst (ys++[.ref z]))):=Tk.upd hy3 rfl
 exact⟨hy3,zaw nD (sm.trans s3),zbr.snoc (hd _ (tk.sqT hz)) (tk.dts nl (s3.dts dy))⟩
theorem zi5 {K:PySem.W.Frag}{H:Hp}:∀ {ds:List Dt}{ys:List V}{i:Nat}{y:V},zbr K H ds ys→ys[i]?=some y→∃ d,ds[i]?=some d∧DtV K H d y
 | [],_,i,y,h,e=>by
  rw[show _=[] from h] at e
  simp at e
 | d::ds,_,i,y,h,e=>by
  obtain⟨x,xs,rfl,h1,h2⟩:=h
  cases i with
  | zero=>
   cases e
   exact⟨d,rfl,h1⟩
  | succ i=>exact zi5 (i:=i) h2 (by simpa using e)
theorem zbc {K:PySem.W.Frag}{H:Hp}:∀ {ds:List Dt}{ys:List V},zbr K H ds ys→ds.length=ys.length
 | [],_,h=>by rw[show _=[] from h];rfl
 | d::ds,_,h=>by
  obtain⟨x,xs,rfl,h1,h2⟩:=h
  rw[List.length_cons,List.length_cons,zbc h2]
theorem zj3 {K:PySem.W.Frag}{H:Hp}{l:List Wd}{ys:List V}{i:Nat}{y:V} (h:zbr K H (l.map wdD) ys) (e:ys[i]?=some y):∃ q t,l[i]?=some q∧y=.ref t∧SqT K H t [.str q.1,.int q.2]:=by
 obtain⟨d,e1,e2⟩:=zi5 h e
 rw[List.getElem?_map] at e1
 cases z:l[i]? with
 | none=>rw[z] at e1;cases e1
 | some q=>
  rw[z] at e1
  cases e1
  obtain⟨t,rfl,ht⟩:=un_wd e2
  exact⟨q,t,rfl,rfl,ht⟩
def RAt (K:PySem.W.Frag) (H:Hp) (v:V) (l:List Wd):Prop:=∃ r ys,v=.ref r∧H r=some (.lst ys)∧zbr K H (l.map wdD) ys
theorem zix {x:Str} (h:x.length≤100000):x.length + 2≤sizeLine:=by rw[sizeLine_eq];omega
theorem zco {x y:Str} (h:x.length≤100000):(Txt.split x y).length≤100002:=Nat.le_trans (PyProof.Rows.split_le x y) (by omega)
section
variable {P:Program}{w:World}{K:PySem.W.Frag}{mg:Str→Option Value}{base:Heap}{a:Adr}
def zhO (K:PySem.W.Frag):Sp:=fun vs H Q _=>∃ s:Str,vs=[.str s]∧s.length≤100000∧∀ l ys H',zaj H H'→H l=none→H' l=some (.lst ys)→zbr K H' ((zbi s).map wdD) ys→Q (.ref l) H'
theorem zbf (T:Tx K mg a):Cal P w K mg base CX0 1 "words_with_columns" ["line"] [] (zhO K):=T.d_words_with_columns.cal fun f fd F=>by
 refine F.ok zau (fun vs H Q E h=>?_) (fun cdv A outer s H vs Q E hr h=>?_)
 ·obtain⟨s,rfl,_⟩:=h
  rfl
 ·obtain⟨s,rfl,sl,k⟩:=h
  have wl:=zco (y:=bk) sl
  refine⟨_,(zac (zao (i:=1) zau.nd rfl (by first|exact Or.inl rfl|exact Or.inr rfl) (zaY zad))
   (zac (zao (i:=2) zau.nd rfl (by first|exact Or.inl rfl|exact Or.inr rfl) zah)
   (zac (za4 PassesOwn.never rfl (zaF (zbn PySem.F.plainAttrs_str PySem.F.slot_str_split PySem.F.type_str_split zc8 (pv 0) (zaa zaX zad))) (zal (i:=3) zau.nd rfl (by first|exact Or.inl rfl|exact Or.inr rfl)) (zac (zbJ (zat zf4 (pv 3) zaX (zaz _)) (zae (za3 (zbn PySem.F.plainAttrs_list PySem.F.slot_list_append PySem.F.type_list_append zaH (pv 1) (zaa (zbQ (zaa (pv 3) (zaa (pv 2) zad))) zad)))) zaC)
   (zae (ps_aug (i:=2) zau.nd rfl (by first|exact Or.inl rfl|exact Or.inr rfl) (zam za0 (zay zaS rfl T.n_len zb9 (zaa (pv 3) zad)) zah) ip_add))))
   (zae (zap (pv 1)))))),?_⟩
  refine⟨(by show 0≤sizeLine;decide),fun g ng=>?_⟩
  have s1:zaj H (upd H g (.lst [])):=zaj.new ng
  have h1:upd H g (.lst []) g=some (.lst []):=zab
  generalize upd H g (.lst [])=H1 at s1 h1 ⊢
  refine⟨_,rfl,rfl,s,bk,rfl,rfl,rfl,zix sl,fun p np=>?_⟩
  have s2:zaj H1 (upd H1 p (.lst ((Txt.split s bk).map V.str))):=zaj.new np
  have h2:upd H1 p (.lst ((Txt.split s bk).map V.str)) p=some (.lst ((Txt.split s bk).map V.str)):=zab
  have h2g:=s2 _ _ h1
  have pg:p≠g:=fun z=>by rw[z,h1] at np;cases np
  generalize upd H1 p (.lst ((Txt.split s bk).map V.str))=H2 at s2 h2 h2g ⊢
  have s12:=s1.trans s2
  refine⟨p,rfl,⟨_,SqL.of h2⟩,zbd (K:=K) (a:=p) (xs:=(Txt.split s bk).map V.str) (fun i σ G=>∃ v3 ys,σ=[some (.str s),some (.ref g),some (.int (tot ((Txt.split s bk).take i))),v3]∧zaj H G∧G p=some (.lst ((Txt.split s bk).map V.str))∧G g=some (.lst ys)∧zbr K G ((wc 0 ((Txt.split s bk).take i)).map wdD) ys) ⟨none,[],rfl,s12,h2,h2g,rfl⟩ ?_ ?_ ?_⟩
  ·rintro i σ G _ ⟨_,_,rfl,_,hp,_⟩
   exact SqL.of hp
  ·rintro i x σ G hx ⟨v3,ys,rfl,sg,hp,hg,dy⟩
   obtain⟨z,hz,rfl⟩:=zby hx
   have hi:i<(Txt.split s bk).length:=(List.getElem?_eq_some_iff.mp hz).1
   have zl:z.length≤100000:=Nat.le_trans (PyProof.Rows.part_short (List.mem_of_getElem? hz)) sl
   have yl:ys.length≤100002:=by
    rw[← zbc dy,List.length_map]
    have:=zea ((Txt.split s bk).take i) 0
    rw[List.length_take] at this
    omega
   have et:tot ((Txt.split s bk).take (i + 1))=tot ((Txt.split s bk).take i) + ((z.length:Int) + 1):=by
    rw[zak hz,zcT]
    show _ + ((z.length:Int) + 1 + 0)=_
    omega
   have ew:wc 0 ((Txt.split s bk).take (i + 1))=wc 0 ((Txt.split s bk).take i)++(if z.length=0 then[] else[(z,tot ((Txt.split s bk).take i))]):=by
    rw[zak hz,ze0,Int.zero_add]
    show _++((if z.length=0 then[] else[(z,tot ((Txt.split s bk).take i))])++[])=_
    rw[List.append_nil]
   dsimp only[zaI]
   refine⟨_,rfl,rfl,_,rfl,?_⟩
   refine zcl (fun c=>?_) (fun c=>?_)
   ·have zn:¬ z.length=0:=fun e=>by
     rw[len0 e] at c
     exact absurd c (by decide)
    refine⟨_,rfl,.inl ⟨rfl,_,SqL.of hg⟩,_,rfl,_,rfl,(by show 2≤sizeLine;decide),fun t nt=>?_⟩
    obtain⟨g1,g2,g3⟩:=zi4 (d:=wdD (z,tot ((Txt.split s bk).take i))) (vs:=[.str z,.int (tot ((Txt.split s bk).take i))]) ng sg hg dy (zcU _) nt fun H' h=>zhN h
    have pt:p≠t:=zai hp nt
    refine⟨g,ys,_,rfl,rfl,g1,by rw[sizeLine_eq];omega,?_⟩
    refine⟨_,rfl,_,rfl,z,rfl,by rw[sizeLine_eq];omega,_,_,rfl,rfl,_,_,rfl,rfl,?_⟩
    refine⟨some (.str z),_,by rw[et];rfl,g2,by rw[zaf pg,zaf pt];exact hp,zab,?_⟩
    rw[ew,if_neg zn,List.map_append]
    exact g3
   ·have zn:z.length=0:=by
     have e:z=Str.ofString "":=by simpa using c
     rw[e]
     rfl
    refine⟨_,rfl,_,rfl,z,rfl,by rw[sizeLine_eq];omega,_,_,rfl,rfl,_,_,rfl,rfl,?_⟩
    refine⟨some (.str z),ys,by rw[et];rfl,sg,hp,hg,?_⟩
    rw[ew,if_pos zn,List.append_nil]
    exact dy
  ·rintro σ G ⟨v3,ys,rfl,sg,hp,hg,dy⟩
   rw[List.length_map,List.take_length] at dy
   exact⟨_,rfl,k g ys G sg ng hg dy⟩
def zhP:Sp:=fun vs H Q _=>∃ s:Str,vs=[.str s]∧s.length≤100000∧∀ H',zaj H H'→Q (.bl (zaD s)) H'
theorem zcJ (T:Tx K mg a):Cal P w K mg base CX0 2 "is_picture_line" ["line"] [] zhP:=T.d_is_picture_line.cal fun f fd F=>by
 have c_is_name:=zgl (P:=P) (w:=w) (base:=base) T
 have c_words_with_columns:=zbf (P:=P) (w:=w) (base:=base) T
 refine F.ok zcF (fun vs H Q E h=>?_) (fun cdv A outer s H vs Q E hr h=>?_)
 ·obtain⟨s,rfl,_⟩:=h
  rfl
 ·obtain⟨s,rfl,sl,k⟩:=h
  have wl:=zco (y:=bk) sl
  have wl2:(zbi s).length≤100002:=Nat.le_trans (zea _ _) wl
  refine⟨_,(zac (zbJ (zdW (zbn PySem.F.plainAttrs_str PySem.F.slot_str_endswith PySem.F.type_str_endswith zfo (pv 0) (zaa zaX zad))) (zae (zap zgB)) zaC)
   (zae (zap (zay zdx rfl T.n_all zhm (zaa (zbp (N:=["word","column"]) (cap:=[none,none]) rfl (zbC (osc:=zag zbb) (XN:=["line"]) rfl rfl (by decide +kernel)) (zaF (zaE c_words_with_columns (hr.mono (by decide)) rfl (zaa (pv 0) zad))) (fun cl C s H fp pins=>(zfm (K:=K) (n:=2) rfl rfl (zar (zal (i:=0) (show(["word","column"]:List Str).Nodup by decide +kernel) rfl (by first|exact Or.inl rfl|exact Or.inr rfl)) (zar (zal (i:=1) (show(["word","column"]:List Str).Nodup by decide +kernel) rfl (by first|exact Or.inl rfl|exact Or.inr rfl)) zbm)))) (fun cl C s H fp pins=>zbo) (fun cl C s H fp pins=>(zfA (pe_or (zaE c_is_name (hr.mono (by decide)) rfl (zaa (pv 0) zad)) (zfz (zcM zeC (pv 0) (zhf rfl T.k_POINT) (zaz _)))) (zfz (zcM zeC (zam zaL (pv 1) (zdv rfl T.k_COLUMNS)) zah (zaz _)))))) zad))))),?_⟩
  refine⟨_,rfl,rfl,s,bk,rfl,rfl,_,rfl,?_⟩
  rw[zjZ]
  refine zcl (fun c=>?_) (fun c=>?_)
  ·have e:zaD s=false:=by
    unfold zaD
    rw[c]
    rfl
   rw[e] at k
   exact k H (zaj.refl H)
  ·refine⟨_,rfl,s,rfl,sl,fun l ys H1 s1 n1 h1 d1=>?_⟩
   refine⟨l,rfl,⟨_,SqL.of h1⟩,fun D hD=>?_⟩
   refine zaT (K:=K) (a:=l) (xs:=ys) (fun j τ G=>∃ v1 v2,τ=[v1,v2]∧zaj H1 G∧G D=some (.lst ((((zbi s).take j).map wOk).map V.bl))) ⟨none,none,rfl,zaj.new hD,zab⟩ ?_ ?_ ?_
   ·rintro j τ G _ ⟨_,_,rfl,sg,_⟩
    exact SqL.of (sg _ _ h1)
   ·rintro j y τ G hy ⟨v1,v2,rfl,sg,hG⟩
    obtain⟨q,t,hq,rfl,ht⟩:=zj3 d1 hy
    have hj:j<(zbi s).length:=(List.getElem?_eq_some_iff.mp hq).1
    have ht':=(Tk.of sg).sqT ht
    have ql:q.1.length≤100000:=Nat.le_trans (PyProof.Rows.part_short (zfV _ _ q (List.mem_of_getElem? hq)).2) sl
    have fin:∀ (G':Hp) (b:Bool),zaj G G'→b=wOk q→∃ xs,G' D=some (.lst xs)∧xs.length + 1≤sizeLine∧∃ v1 v2,[some (V.str q.1),some (V.int q.2)]=[v1,v2]∧zaj H1 (upd G' D (.lst (xs++[.bl b])))∧upd G' D (.lst (xs++[.bl b])) D=some (.lst ((((zbi s).take (j + 1)).map wOk).map V.bl)):=fun G' b sG e=>by
     refine⟨_,sG _ _ hG,by rw[List.length_map,List.length_map,List.length_take,sizeLine_eq];omega,_,_,rfl,zaw hD (sg.trans sG),?_⟩
     rw[zab,zak hq,List.map_append,List.map_append,e]
     rfl
    refine⟨t,_,rfl,ht',rfl,_,_,rfl,_,_,rfl,rfl,?_⟩
    dsimp only[zaI,zgv]
    rw[if_pos rfl]
    refine⟨_,rfl,q.1,rfl,ql,fun G1 sG1=>⟨_,rfl,?_⟩⟩
    have fin2:(za9 q.1 || decide (q.1=Str.ofString "."))=true→_:=fun e=>fin G1 (decide (V.int (q.2 % 10)=V.int 0)) sG1 (by unfold wOk;rw[e,Bool.true_and];simp)
    refine zcl (fun c1=>?_) (fun c1=>?_)
    ·refine⟨_,rfl,zgY ?_⟩
     exact⟨_,rfl,_,_,rfl,rfl,(by show(0:Int)<10;decide),rfl,fin2 (by rw[c1];rfl)⟩
    ·refine⟨_,rfl,rfl,_,rfl,?_⟩
     refine zcl (fun c2=>?_) (fun c2=>?_)
     ·exact⟨_,rfl,_,_,rfl,rfl,(by show(0:Int)<10;decide),rfl,fin2 (by
       have e:q.1=Str.ofString ".":=by simpa using c2
       rw[e]
       decide +kernel)⟩
     ·refine fin G1 false sG1 ?_
      have e:¬ q.1=Str.ofString ".":=by simpa using c2
      unfold wOk
      rw[c1,decide_eq_false e]
      rfl
   rintro τ G ⟨v1,v2,rfl,sg,hG⟩
   rw[← zbc d1,List.length_map,List.take_length] at hG
   refine⟨D,_,rfl,SqL.of hG,?_⟩
   have e:((zbi s).map wOk).all id=zaD s:=by
    unfold zaD
    rw[List.all_map,c]
    rfl
   rw[e]
   exact k G (s1.trans sg)
def rowD (l:List Wd):Dt:=.lst (l.map wdD)
theorem dt_row {K:PySem.W.Frag}{H:Hp}{v:V}{l:List Wd} (h:RAt K H v l):DtV K H (rowD l) v:=by
 obtain⟨r,ys,rfl,h1,h2⟩:=h
 exact⟨r,ys,rfl,SqL.of h1,h2⟩
theorem zhQ {K:PySem.W.Frag}{H:Hp}:∀ {ys:List V}{ls:List (List Wd)},F2 (RAt K H) ys ls→zbr K H (ls.map rowD) ys
 | [],[],_=>rfl
 | y::ys,l::ls,h=>⟨y,ys,rfl,dt_row h.1,zhQ h.2⟩
 | [],_::_,h=>h.elim
 | _::_,[],h=>h.elim
theorem ziy {n:Nat} (l:List Wd):zbD (n + 2) (rowD l):=zcz (fun _=>by cases n <;> exact⟨trivial,trivial,trivial⟩) _
def spRead (K:PySem.W.Frag) (a:Adr):Sp:=fun vs H Q E=>∃ s:Str,vs=[.str s]∧s.length≤100000 ∧
 (bad (Txt.split s nl)=none→∀ l ys H',zaj H H'→H l=none→H' l=some (.lst ys)→F2 (RAt K H') ys ((Txt.split s nl).map zfW)→Q (.ref l) H') ∧
 (∀ i,bad (Txt.split s nl)=some i→∀ H' dx,zaj H H'→H' dx=some (.xd [("number",.int (i:Int))])→E (.ref a.NoLine) (some dx) H')
theorem zfY {ls:List Str}{i:Nat}{l:Str} (h:ls[i]?=some l) (hl:zaD l=false) (hb:∀ x∈ls.take i,zaD x=true):bad ls=some i:=by
 unfold bad
 rw[List.findIdx?_eq_some_iff_getElem]
 obtain⟨hi,rfl⟩:=List.getElem?_eq_some_iff.mp h
 refine⟨hi,by rw[hl];rfl,fun j hj=>?_⟩
 rw[hb _ (List.mem_take_iff_getElem.mpr ⟨j,by omega,rfl⟩)]
 decide
theorem zfZ {ls:List Str} (hb:∀ x∈ls,zaD x=true):bad ls=none:=by
 unfold bad
 rw[List.findIdx?_eq_none_iff]
 intro x hx
 rw[hb x hx]
 rfl
theorem zdN (T:Tx K mg a):Cal P w K mg base (CXe P w) 3 "read_picture" ["text"] [] (spRead K a):=T.d_read_picture.cal fun f fd F=>by
 have c_is_picture_line:=zcJ (P:=P) (w:=w) (base:=base) T
 have c_words_with_columns:=zbf (P:=P) (w:=w) (base:=base) T
 have x_NoLine:=zhB (P:=P) (w:=w) (base:=base) T
 refine F.okX za7 (fun vs H Q E h=>?_) (fun cdv A outer s H vs Q E hr h=>?_)
 ·obtain⟨s,rfl,_⟩:=h
  rfl
 ·obtain⟨s,rfl,sl,k1,k2⟩:=h
  have wl:=zco (y:=nl) sl
  refine⟨_,(zac (zao (i:=1) za7.nd rfl (by first|exact Or.inl rfl|exact Or.inr rfl) (zaY zad))
   (zac (za4 PassesOwn.leaving rfl (za1 rfl T.n_enumerate (zaa (zbn PySem.F.plainAttrs_str PySem.F.slot_str_split PySem.F.type_str_split zc8 (pv 0) (zaa zaX zad)) zad)) (zcq rfl (zar (zal (i:=2) za7.nd rfl (by first|exact Or.inl rfl|exact Or.inr rfl)) (zar (zal (i:=3) za7.nd rfl (by first|exact Or.inl rfl|exact Or.inr rfl)) zbm))) (zac (zbJ (zfy (zdW (zaE c_is_picture_line (hr.mono (by decide)) rfl (zaa (pv 3) zad)))) (zae (zhe zg3 x_NoLine (hr.mono (by decide)) rfl (zaa (pv 2) zad))) zaC)
   (zae (za3 (zbn PySem.F.plainAttrs_list PySem.F.slot_list_append PySem.F.type_list_append zaH (pv 1) (zaa (zbp (N:=["word","column"]) (cap:=[none,none]) rfl (zbC (osc:=zag zbz) (XN:=["text","rows","number","line"]) rfl rfl (by decide +kernel)) (zaF (zaE c_words_with_columns (hr.mono (by decide)) rfl (zaa (pv 3) zad))) (fun cl C s H fp pins=>(zfm (K:=K) (n:=2) rfl rfl (zar (zal (i:=0) (show(["word","column"]:List Str).Nodup by decide +kernel) rfl (by first|exact Or.inl rfl|exact Or.inr rfl)) (zar (zal (i:=1) (show(["word","column"]:List Str).Nodup by decide +kernel) rfl (by first|exact Or.inl rfl|exact Or.inr rfl)) zbm)))) (fun cl C s H fp pins=>zbo) (fun cl C s H fp pins=>(zbQ (zaa (pv 0) (zaa (zam zfT (pv 1) (zdv rfl T.k_COLUMNS)) zad))))) zad))))))
   (zae (zap (pv 1))))),?_⟩
  refine⟨(by show 0≤sizeLine;decide),fun g ng=>?_⟩
  have s1:zaj H (upd H g (.lst [])):=zaj.new ng
  have h1:upd H g (.lst []) g=some (.lst []):=zab
  generalize upd H g (.lst [])=H1 at s1 h1 ⊢
  refine⟨_,rfl,rfl,s,nl,rfl,rfl,rfl,zix sl,fun p np=>?_⟩
  have s2:zaj H1 (upd H1 p (.lst ((Txt.split s nl).map V.str))):=zaj.new np
  have h2:upd H1 p (.lst ((Txt.split s nl).map V.str)) p=some (.lst ((Txt.split s nl).map V.str)):=zab
  have h2g:=s2 _ _ h1
  have pg:p≠g:=fun z=>by rw[z,h1] at np;cases np
  generalize upd H1 p (.lst ((Txt.split s nl).map V.str))=H2 at s2 h2 h2g ⊢
  have s12:=s1.trans s2
  refine⟨p,rfl,⟨_,SqL.of h2⟩,zb4 (K:=K) (l:=p) (xs:=(Txt.split s nl).map V.str) (fun i σ G=>∃ v2 v3 ys,σ=[some (.str s),some (.ref g),v2,v3]∧zaj H G∧G p=some (.lst ((Txt.split s nl).map V.str))∧G g=some (.lst ys)∧F2 (fun v l=>RAt K G v l∧v≠.ref g) ys (((Txt.split s nl).take i).map zfW)∧∀ x∈(Txt.split s nl).take i,zaD x=true) ⟨none,none,[],rfl,s12,h2,h2g,trivial,fun _ h=>by simp at h⟩ ?_ ?_ ?_⟩
  ·rintro i σ G _ ⟨_,_,_,rfl,_,hp,_⟩
   exact SqL.of hp
  ·rintro i x t σ G hx nt ⟨v2,v3,ys,rfl,sg,hp,hg,fy,pb⟩
   obtain⟨z,hz,rfl⟩:=zby hx
   have hi:i<(Txt.split s nl).length:=(List.getElem?_eq_some_iff.mp hz).1
   have zl:z.length≤100000:=Nat.le_trans (PyProof.Rows.part_short (List.mem_of_getElem? hz)) sl
   have wz:=zco (y:=bk) zl
   have wz2:(zbi z).length≤100002:=Nat.le_trans (zea _ _) wz
   have yl:ys.length≤100002:=by
    rw[fy.len,List.length_map,List.length_take]
    omega
   have st:zaj G (upd G t (.tup [.int (i:Int),.str z])):=zaj.new nt
   have ht:SqT K (upd G t (.tup [.int (i:Int),.str z])) t [.int (i:Int),.str z]:=SqT.of zab
   generalize upd G t (.tup [.int (i:Int),.str z])=G1 at st ht ⊢
   refine⟨t,_,rfl,ht,rfl,_,_,rfl,_,_,rfl,rfl,?_⟩
   dsimp only[zaI]
   refine⟨_,rfl,z,rfl,zl,fun G2 sG2=>⟨_,rfl,?_⟩⟩
   refine zcl (fun c=>?_) (fun c=>?_)
   ·have c':zaD z=false:=by simpa using c
    refine⟨_,rfl,by show 1≤sizeLine;decide,fun x t hx=>⟨x,t,_,rfl,zab,fun d nd=>⟨rfl,some d,zab,?_⟩⟩⟩
    have xd:d≠x:=fun z=>by rw[z,zab] at nd;cases nd
    have e:del (upd (upd (upd G2 x (zh0 a.NoLine t x none)) d (.xd [("number",.int (i:Int))])) x (zh0 a.NoLine t x (some d))) x=upd G2 d (.xd [("number",.int (i:Int))]):=by
     funext b
     unfold del
     by_cases h1:b=x
     ·subst h1
      rw[if_pos rfl,zaf (Ne.symm xd),hx]
     ·rw[if_neg h1,zaf h1]
      by_cases h2:b=d
      ·subst h2;rw[zab,zab]
      ·rw[zaf h2,zaf h1,zaf h2]
    show E _ _ _
    rw[e]
    have nd':G2 d=none:=by rw[zaf xd] at nd;exact nd
    exact k2 i (zfY hz c' pb) _ d (((sg.trans st).trans sG2).trans (zaj.new nd')) zab
   ·have c':zaD z=true:=by simpa using c
    have sA:=st.trans sG2
    have hg2:=sA _ _ hg
    refine⟨_,rfl,.inl ⟨rfl,_,SqL.of hg2⟩,_,rfl,z,rfl,zl,fun l zs G3 s3 n3 h3 d3=>?_⟩
    refine⟨l,rfl,⟨_,SqL.of h3⟩,fun D hD=>?_⟩
    refine zaT (K:=K) (a:=l) (xs:=zs) (fun j τ G'=>∃ v1 v2 us,τ=[v1,v2]∧zaj G3 G'∧G' D=some (.lst us)∧zbr K G' ((((zbi z).take j).map fun p=>(p.1,p.2 / 10)).map wdD) us) ⟨none,none,[],rfl,zaj.new hD,zab,rfl⟩ ?_ ?_ ?_
    ·rintro j τ G' _ ⟨_,_,_,rfl,sg',_⟩
     exact SqL.of (sg' _ _ h3)
    ·rintro j y τ G' hy ⟨v1,v2,us,rfl,sg',hD',du⟩
     obtain⟨q,t',hq,rfl,ht'⟩:=zj3 d3 hy
     have ul:us.length≤100002:=by
      rw[← zbc du,List.length_map,List.length_map,List.length_take]
      omega
     refine⟨t',_,rfl,(Tk.of sg').sqT ht',rfl,_,_,rfl,_,_,rfl,rfl,?_⟩
     dsimp only[zaI,zgv]
     rw[if_pos rfl]
     refine⟨_,rfl,_,rfl,_,_,rfl,rfl,⟨by decide,by decide⟩,(by show 2≤sizeLine;decide),fun t2 nt2=>?_⟩
     obtain⟨g1,g2,g3⟩:=zi4 (d:=wdD (q.1,q.2 / 10)) (vs:=[.str q.1,.int (q.2 / 10)]) hD sg' hD' du (zcU _) nt2 fun H' h=>zhN h
     refine⟨us,g1,by rw[sizeLine_eq];omega,_,_,_,rfl,g2,zab,?_⟩
     rw[zak hq,List.map_append,List.map_append]
     exact g3
    rintro τ G' ⟨v1,v2,us,rfl,sg',hD',du⟩
    rw[← zbc d3,List.length_map,List.take_length] at du
    have sB:=(sA.trans s3).trans sg'
    have gD:g≠D:=zai (s3 _ _ hg2) hD
    refine⟨g,ys,_,rfl,rfl,sB _ _ hg,by rw[sizeLine_eq];omega,?_⟩
    have pt:p≠g:=pg
    have tk:Tk G' (upd G' g (.lst (ys++[.ref D]))):=Tk.upd (sB _ _ hg) rfl
    refine⟨_,_,_,rfl,zaw ng (sg.trans sB),by rw[zaf pg];exact sB _ _ hp,zab,?_,?_⟩
    ·rw[zak hz,List.map_append]
     have f1:F2 (fun v l=>RAt K (upd G' g (.lst (ys++[.ref D]))) v l∧v≠.ref g) ys (((Txt.split s nl).take i).map zfW):=fy.mono fun v l ⟨⟨r,us',ev,hr,dr⟩,nv⟩=>⟨⟨r,us',ev,by rw[zaf (fun z=>nv (by rw[ev,z]))];exact sB _ _ hr,tk.dts (zcU _) (sB.dts dr)⟩,nv⟩
     exact f1.snoc ⟨⟨D,us,rfl,by rw[zaf (Ne.symm gD)];exact hD',tk.dts (zcU _) du⟩,fun z=>gD (by cases z;rfl)⟩
    ·intro x hx
     rw[zak hz] at hx
     rcases List.mem_append.mp hx with hx|hx
     ·exact pb x hx
     ·rw[List.mem_singleton.mp hx]
      exact c'
  ·rintro σ G ⟨v2,v3,ys,rfl,sg,hp,hg,fy,pb⟩
   rw[List.length_map,List.take_length] at fy pb
   exact⟨_,rfl,k1 (zfZ pb) g ys G sg ng hg (fy.mono fun _ _ h=>h.1)⟩
end
end K71
namespace K71
open PySem L2
theorem Prs.tk {K:PySem.W.Frag}{H H':Hp} (t:Tk H H'):∀ {kvs:List (Key×V)}{ys:List V},zbM K H kvs ys→zbM K H' kvs ys
 | [],_,h=>h
 | _::_,_,h=>by
  obtain⟨q,ys',e,h1,h2⟩:=h
  exact⟨q,ys',e,t.sqT h1,Prs.tk t h2⟩
theorem Prs.snoc {K:PySem.W.Frag}{H:Hp}{kv:Key×V}{t:Addr} (ht:SqT K H t [kV kv.1,kv.2]):∀ {kvs:List (Key×V)}{ys:List V},zbM K H kvs ys→zbM K H (kvs++[kv]) (ys++[.ref t])
 | [],_,h=>by
  obtain rfl:_=[]:=h
  exact⟨t,[],rfl,ht,rfl⟩
 | _::_,_,h=>by
  obtain⟨q,ys',rfl,h1,h2⟩:=h
  exact⟨q,_,rfl,h1,Prs.snoc ht h2⟩
theorem Prs.len {K:PySem.W.Frag}{H:Hp}:∀ {kvs:List (Key×V)}{ys:List V},zbM K H kvs ys→kvs.length=ys.length
 | [],_,h=>by rw[show _=[] from h];rfl
 | _::_,_,h=>by
  obtain⟨q,ys',rfl,h1,h2⟩:=h
  rw[List.length_cons,List.length_cons,Prs.len h2]
theorem zdO {H H':Hp}{x:Addr} (s:zaj H H') (n:H' x=none):H x=none:=by
 cases e:H x with
 | none=>rfl
 | some o=>exact absurd (s _ _ e) (by rw[n];intro z;cases z)
theorem zhR (c:Int) (x:Str):∀ (row:List Str) (kv:Kvs),zcp ((row.map fun s=>((Sum.inr s:Key),V.int c)).foldl zfR kv) (Sum.inr x)=if x∈row then some (.int c) else zcp kv (Sum.inr x)
 | [],kv=>by simp
 | y::row,kv=>by
  show zcp ((row.map fun s=>((Sum.inr s:Key),V.int c)).foldl zfR (zfR kv (Sum.inr y,V.int c))) (Sum.inr x)=_
  rw[zhR c x row,show zfR kv (Sum.inr y,V.int c)=zdZ kv (Sum.inr y) (V.int c) from rfl,zfH]
  by_cases h1:x∈row
  ·rw[if_pos h1,if_pos (List.mem_cons_of_mem _ h1)]
  ·rw[if_neg h1]
   by_cases h2:x=y
   ·subst h2
    rw[if_pos rfl,if_pos (List.mem_cons_self ..)]
   ·rw[if_neg (fun z=>h2 (Sum.inr.inj z)),if_neg (fun z=>by
     rcases List.mem_cons.mp z with z|z
     ·exact h2 z
     ·exact h1 z)]
abbrev Lne:=Str×Str×Int
def lnD (q:Lne):Dt:=.tup [.str q.1,.str q.2.1,.int q.2.2]
def edD (pl lev:Str→Int) (q:Lne):Dt:=.tup [.int (pl q.1),.int (lev q.1),.int (pl q.2.1),.int (lev q.2.1)]
theorem dt_ln {K:PySem.W.Frag}{H:Hp}{t:Addr}{q:Lne} (h:SqT K H t [.str q.1,.str q.2.1,.int q.2.2]):DtV K H (lnD q) (.ref t):=⟨t,_,rfl,h,_,_,rfl,rfl,_,_,rfl,rfl,_,_,rfl,rfl,rfl⟩
theorem un_ln {K:PySem.W.Frag}{H:Hp}{x:V}{q:Lne} (h:DtV K H (lnD q) x):∃ t,x=.ref t∧SqT K H t [.str q.1,.str q.2.1,.int q.2.2]:=by
 obtain⟨t,xs,rfl,h1,y1,ys1,rfl,rfl,y2,ys2,rfl,rfl,y3,ys3,rfl,rfl,h2⟩:=h
 rw[show ys3=[] from h2] at h1
 exact⟨t,rfl,h1⟩
theorem dt_ed {K:PySem.W.Frag}{H:Hp}{t:Addr}{pl lev:Str→Int}{q:Lne} (h:SqT K H t [.int (pl q.1),.int (lev q.1),.int (pl q.2.1),.int (lev q.2.1)]):DtV K H (edD pl lev q) (.ref t):=⟨t,_,rfl,h,_,_,rfl,rfl,_,_,rfl,rfl,_,_,rfl,rfl,_,_,rfl,rfl,rfl⟩
theorem zj4:∀ l:List Lne,zdy (l.map lnD)=true
 | []=>rfl
 | _::l=>zj4 l
theorem ziz (pl lev:Str→Int):∀ l:List Lne,zdy (l.map (edD pl lev))=true
 | []=>rfl
 | _::l=>ziz pl lev l
def zj5 (rows:List (List It)) (lev:Str→Int):Prop:=∀ (n:Nat) r,rows[n]?=some r→∀ it∈r,lev it.label=n
section
variable {P:Program}{w:World}{K:PySem.W.Frag}{mg:Str→Option Value}{base:Heap}{a:Adr}
def zhS (K:PySem.W.Frag) (a:Adr):Sp:=fun vs H Q _=>∃ p xs rows q,∃ ls:List Lne,∃ zs d kv pl lev,vs=[.ref p,.ref q,.ref d]∧H p=some (.lst xs)∧WsV a H xs rows∧rows.length≤5∧(∀ r∈rows,r.length≤5∧∀ it∈r,it.Ok)∧H q=some (.lst zs)∧zbr K H (ls.map lnD) zs∧ls.length≤1000∧H d=some (.dK kv)∧zj5 rows lev ∧
 (∀ l∈ls,Vl kv pl l.1∧Vl kv pl l.2.1∧l.1∈(rows.map zcS).flatten∧l.2.1∈(rows.map zcS).flatten)∧∀ l ys H',zaj H H'→H l=none→H' l=some (.lst ys)→zbr K H' (ls.map (edD pl lev)) ys→Q (.ref l) H'
theorem zgp (T:Tx K mg a):Cal P w K mg base CX0 3 "strokes" ["rows","lines","places"] [] (zhS K a):=T.d_strokes.cal fun f fd F=>by
 have c_marks_of:=zdJ (P:=P) (w:=w) (base:=base) T
 refine F.ok zb5 (fun vs H Q E h=>?_) (fun cdv A outer s H vs Q E hr h=>?_)
 ·obtain⟨p,xs,rows,q,ls,zs,d,kv,pl,lev,rfl,_⟩:=h
  rfl
 ·obtain⟨p,xs,rows,q,ls,zs,d,kv,pl,lev,rfl,hp,hx,r5,ok,hq,dz,l1,hd,lo,lk,k⟩:=h
  refine⟨_,(zac (zao (i:=3) zb5.nd rfl (by first|exact Or.inl rfl|exact Or.inr rfl) zfJ)
   (zac (za4 PassesOwn.never rfl (za1 rfl T.n_enumerate (zaa (zaE c_marks_of (hr.mono (by decide)) rfl (zaa (pv 0) zad)) zad)) (zcq rfl (zar (zal (i:=4) zb5.nd rfl (by first|exact Or.inl rfl|exact Or.inr rfl)) (zar (zal (i:=5) zb5.nd rfl (by first|exact Or.inl rfl|exact Or.inr rfl)) zbm))) (zae (za3 (zbn PySem.F.plainAttrs_dict PySem.F.slot_dict_update PySem.F.type_dict_update zhz (pv 3) (zaa (zbp (N:=["mark","level"]) (cap:=[none,some 4]) rfl (zbC (osc:=zag zcG) (XN:=["rows","lines","places","levels","level","row"]) rfl rfl (by decide +kernel)) (zaF (pv 5)) (fun cl C s H fp pins=>(zal (i:=0) (show(["mark","level"]:List Str).Nodup by decide +kernel) rfl (by first|exact Or.inl rfl|exact Or.inr rfl))) (fun cl C s H fp pins=>zbo) (fun cl C s H fp pins=>(zbQ (zaa (pv 0) (zaa (pv 1) zad))))) zad)))))
   (zae (zap (zbp (N:=["upper","lower","weight","places","levels"]) (cap:=[none,none,none,some 2,some 3]) rfl (zbC (osc:=zag zcG) (XN:=["rows","lines","places","levels","level","row"]) rfl rfl (by decide +kernel)) (zaF (pv 1)) (fun cl C s H fp pins=>(zfm (K:=K) (n:=3) rfl rfl (zar (zal (i:=0) (show(["upper","lower","weight","places","levels"]:List Str).Nodup by decide +kernel) rfl (by first|exact Or.inl rfl|exact Or.inr rfl)) (zar (zal (i:=1) (show(["upper","lower","weight","places","levels"]:List Str).Nodup by decide +kernel) rfl (by first|exact Or.inl rfl|exact Or.inr rfl)) (zar (zal (i:=2) (show(["upper","lower","weight","places","levels"]:List Str).Nodup by decide +kernel) rfl (by first|exact Or.inl rfl|exact Or.inr rfl)) zbm))))) (fun cl C s H fp pins=>zbo) (fun cl C s H fp pins=>(zbQ (zaa (zbg (zcu hr) (pv 3) (pv 0) (fun _ _=>rfl)) (zaa (zbg (zcu hr) (pv 4) (pv 0) (fun _ _=>rfl)) (zaa (zbg (zcu hr) (pv 3) (pv 1) (fun _ _=>rfl)) (zaa (zbg (zcu hr) (pv 4) (pv 1) (fun _ _=>rfl)) zad))))))))))),?_⟩
  refine fun e ne=>?_
  have s0:zaj H (upd H e (.dK [])):=zaj.new ne
  have h0:upd H e (.dK []) e=some (.dK []):=zab
  generalize upd H e (.dK [])=H0 at s0 h0 ⊢
  refine⟨_,rfl,p,xs,rows,rfl,s0 _ _ hp,zcR hx s0,fun r hr=>⟨by have:=(ok r hr).1;omega,(ok r hr).2⟩,by omega,fun m ms H1 s1 n1 h1 f1=>?_⟩
  have s01:=s0.trans s1
  have el:ms.length=rows.length:=by rw[f1.len,List.length_map]
  refine⟨m,rfl,⟨_,SqL.of h1⟩,zb4 (K:=K) (l:=m) (xs:=ms) (fun i σ G=>∃ v4 v5 ke,σ=[some (.ref p),some (.ref q),some (.ref d),some (.ref e),v4,v5]∧zaj H G∧G m=some (.lst ms)∧F2 (SAt G) ms (rows.map zcS)∧G e=some (.dK ke)∧ke.length≤5 * i∧∀ s∈((rows.take i).map zcS).flatten,Vl ke lev s) ⟨none,none,[],rfl,s01,h1,f1,s1 _ _ h0,Nat.le_refl _,fun s hs=>by simp at hs⟩ ?_ ?_ ?_⟩
  ·rintro i σ G _ ⟨_,_,_,rfl,_,hm,_⟩
   exact SqL.of hm
  ·rintro i x t σ G hx' nt ⟨v4,v5,ke,rfl,sg,hm,fm,he,kl,kv1⟩
   obtain⟨lb,elb,r,rfl,hr'⟩:=fm.get hx'
   rw[List.getElem?_map] at elb
   cases eR:rows[i]? with
   | none=>rw[eR] at elb;cases elb
   | some row=>
   rw[eR] at elb
   cases elb
   have hi:i<rows.length:=(List.getElem?_eq_some_iff.mp eR).1
   have rl:=(ok row (List.mem_of_getElem? eR)).1
   have st:zaj G (upd G t (.tup [.int (i:Int),.ref r])):=zaj.new nt
   have ht:SqT K (upd G t (.tup [.int (i:Int),.ref r])) t [.int (i:Int),.ref r]:=SqT.of zab
   generalize upd G t (.tup [.int (i:Int),.ref r])=G1 at st ht ⊢
   refine⟨t,_,rfl,ht,rfl,_,_,rfl,_,_,rfl,rfl,?_⟩
   dsimp only[zaI]
   refine⟨_,rfl,.inr (.inr (.inl ⟨rfl,.inl ⟨_,st _ _ he⟩⟩)),_,rfl,r,rfl,⟨_,SqL.of (st _ _ hr')⟩,fun D hD=>?_⟩
   refine zaT (K:=K) (a:=r) (xs:=(zcS row).map V.str) (fun j τ G'=>∃ v1 ys,τ=[v1,some (.int (i:Int))]∧zaj G1 G'∧G' D=some (.lst ys)∧zbM K G' (((zcS row).take j).map fun s=>((Sum.inr s:Key),V.int (i:Int))) ys) ⟨none,[],rfl,zaj.new hD,zab,rfl⟩ ?_ ?_ ?_
   ·rintro j τ G' _ ⟨_,_,rfl,sg',_⟩
    exact SqL.of (sg' _ _ (st _ _ hr'))
   ·rintro j y τ G' hy ⟨v1,ys,rfl,sg',hG,pa⟩
    obtain⟨z,hz,rfl⟩:=zby hy
    have hj:j<(zcS row).length:=(List.getElem?_eq_some_iff.mp hz).1
    rw[List.length_map] at hj
    have yl:ys.length≤1000:=by
     rw[← Prs.len pa,List.length_map,List.length_take,List.length_map]
     omega
    dsimp only[zaI,zgv]
    rw[if_pos rfl]
    refine⟨_,rfl,_,rfl,(by show 2≤sizeLine;decide),fun u nu=>?_⟩
    have s3:zaj G' (upd G' u (.tup [.str z,.int (i:Int)])):=zaj.new nu
    have hu:SqT K (upd G' u (.tup [.str z,.int (i:Int)])) u [.str z,.int (i:Int)]:=SqT.of zab
    generalize upd G' u (.tup [.str z,.int (i:Int)])=G3 at s3 hu ⊢
    have tk:Tk G3 (upd G3 D (.lst (ys++[.ref u]))):=Tk.upd (s3 _ _ hG) rfl
    refine⟨ys,s3 _ _ hG,by rw[sizeLine_eq];omega,_,_,rfl,zaw hD (sg'.trans s3),zab,?_⟩
    rw[zak hz,List.map_append]
    exact Prs.snoc (tk.sqT hu) (Prs.tk ((Tk.of s3).trans tk) pa)
   rintro τ G' ⟨v1,ys,rfl,sg',hG,pa⟩
   rw[List.length_map,List.take_length] at pa
   have sA:=st.trans sg'
   have he':=sA _ _ he
   have em:m≠e:=fun z=>by rw[z,he] at hm;cases hm
   have er:∀ b,G b=some (.lst ((zcS row).map V.str))→b≠e:=fun b hb z=>by rw[z,he] at hb;cases hb
   refine⟨e,D,_,ys,_,rfl,rfl,he',SqL.of hG,pa,by omega,?_,?_⟩
   ·rw[List.length_map,List.length_map]
    omega
   refine⟨_,_,_,rfl,zaw ne (sg.trans sA),by rw[zaf em];exact sA _ _ hm,?_,zab,?_,?_⟩
   ·refine fm.mono fun v l ⟨b,ev,hb⟩=>⟨b,ev,?_⟩
    rw[zaf (fun z=>by rw[z,he] at hb;cases hb)]
    exact sA _ _ hb
   ·have:=mkD_len ((zcS row).map fun s=>((Sum.inr s:Key),V.int (i:Int))) ke
    rw[List.length_map,List.length_map] at this
    omega
   ·intro s hs
    rw[zak eR,List.map_append,List.flatten_append] at hs
    unfold Vl
    rw[zhR]
    by_cases hsr:s∈zcS row
    ·rw[if_pos hsr]
     obtain⟨it,hi',rfl⟩:=List.mem_map.mp hsr
     rw[lo i row eR it hi']
    ·rw[if_neg hsr]
     rcases List.mem_append.mp hs with hs|hs
     ·exact kv1 s hs
     ·exact absurd (by simpa using hs) hsr
  ·rintro σ G ⟨v4,v5,ke,rfl,sg,hm,fm,he,kl,kv1⟩
   rw[el,List.take_length] at kv1
   refine⟨_,rfl,q,rfl,⟨_,SqL.of (sg _ _ hq)⟩,fun D hD=>?_⟩
   refine zaT (K:=K) (a:=q) (xs:=zs) (fun j τ G'=>∃ v1 v2 v3 ys,τ=[v1,v2,v3,some (.ref d),some (.ref e)]∧zaj G G'∧G' D=some (.lst ys)∧zbr K G' ((ls.take j).map (edD pl lev)) ys) ⟨none,none,none,[],rfl,zaj.new hD,zab,rfl⟩ ?_ ?_ ?_
   ·rintro j τ G' _ ⟨_,_,_,_,rfl,sg',_⟩
    exact SqL.of (sg' _ _ (sg _ _ hq))
   ·rintro j y τ G' hy ⟨v1,v2,v3,ys,rfl,sg',hG,dy⟩
    obtain⟨l,el',dl⟩:=zjL dz hy
    obtain⟨t,rfl,ht⟩:=un_ln dl
    have hj:j<ls.length:=(List.getElem?_eq_some_iff.mp el').1
    obtain⟨a1,a2,a3,a4⟩:=lk l (List.mem_of_getElem? el')
    have s4:=sg.trans sg'
    have hd':=s4 _ _ hd
    have he':=sg' _ _ he
    have yl:ys.length≤1000:=by
     rw[← zbc dy,List.length_map,List.length_take]
     omega
    refine⟨t,_,rfl,(Tk.of s4).sqT ht,rfl,_,_,rfl,_,_,rfl,_,_,rfl,rfl,?_⟩
    dsimp only[zaI,zgv]
    rw[if_pos rfl]
    refine⟨_,rfl,_,rfl,d,_,rfl,zbv (k:=Sum.inr l.1) hd' a1,_,rfl,_,rfl,e,_,rfl,zbv (k:=Sum.inr l.1) he' (kv1 _ a3),_,rfl,_,rfl,d,_,rfl,zbv (k:=Sum.inr l.2.1) hd' a2,_,rfl,_,rfl,e,_,rfl,zbv (k:=Sum.inr l.2.1) he' (kv1 _ a4),(by show 4≤sizeLine;decide),fun u nu=>?_⟩
    obtain⟨g1,g2,g3⟩:=zi4 (d:=edD pl lev l) (vs:=[.int (pl l.1),.int (lev l.1),.int (pl l.2.1),.int (lev l.2.1)]) hD sg' hG dy (ziz pl lev _) nu fun H' h=>dt_ed h
    refine⟨ys,g1,by rw[sizeLine_eq];omega,_,_,_,_,rfl,g2,zab,?_⟩
    rw[zak el',List.map_append]
    exact g3
   rintro τ G' ⟨v1,v2,v3,ys,rfl,sg',hG,dy⟩
   rw[← zbc dz,List.length_map,List.take_length] at dy
   exact k D ys G' (sg.trans sg') (zdO sg hD) hG dy
end
end K71
namespace K71
open PySem L2
theorem zeb {ns:List Int}{k:Int} (h0:0≤k) (h1:k<ns.length):∃ z,ns[k.toNat]?=some z∧atI (ns.map V.int) k=some (.int z):=by
 obtain⟨z,hz⟩:=zbE (l:=ns) (j:=k.toNat) (by omega)
 exact⟨z,hz,by rw[ziW h0,List.getElem?_map,hz];rfl⟩
theorem at_abc {z:Int} (h1:0≤z) (h2:z<26):atI abc.cps.toList z=some (abc.cps.toList.getD z.toNat 0):=by
 have hl:abc.cps.toList.length=26:=by decide +kernel
 obtain⟨c,hc⟩:=zbE (l:=abc.cps.toList) (j:=z.toNat) (by omega)
 rw[at_i h1,hc,List.getD_eq_getElem?_getD,hc]
 rfl
theorem ziA:∀ k:Fin 26,abc.cps.toList.getD k.val 0=97 + k.val:=by decide +kernel
theorem ze4:∀ k:Fin 26,small (97 + k.val)=true:=by decide +kernel
theorem zi6 {z:Int} (h1:0≤z) (h2:z<26):atI abc.cps.toList z=some (97 + z.toNat):=by
 rw[at_abc h1 h2,ziA ⟨z.toNat,by omega⟩]
theorem ziB (l:List Str):(Txt.join "" l).length=(l.map (·.length)).sum:=by
 cases l with
 | nil=>rfl
 | cons x r=>
  show(Builtin.Str.glued "" (x::r)).length=_
  rw[StrLaws.glued_eq_join,PyProof.Rows.len_join_cons,show(Str.ofString "").length=0 from by decide +kernel,Nat.mul_zero,Nat.add_zero]
theorem ziC:∀ {l:List Str}{c:Nat},c∈cl (Txt.join "" l)→∃ x∈l,c∈cl x:=by
 intro l c h
 have e:Txt.join "" l=Str.join ⟨#[]⟩ l:=by
  show Builtin.Str.glued "" l=_
  rw[StrLaws.glued_eq_join,show(Str.ofString "")=(⟨#[]⟩:Str) from by decide +kernel]
 rw[e] at h
 clear e
 induction l with
 | nil=>exact absurd h (by show ¬ c∈(#[]:Array Nat).toList;simp)
 | cons x r ih=>
  rw[PyProof.Rows.join_nil_cons,zeZ] at h
  rcases List.mem_append.mp h with z|z
  ·exact⟨x,List.mem_cons_self,z⟩
  ·obtain⟨y,hy,hc⟩:=ih z
   exact⟨y,List.mem_cons_of_mem _ hy,hc⟩
def stepOf (s:Str):Nat:=(cl s).foldl (fun p c=>if c=46 then 0 else 10 * p + (c - 48)) 0
def ze5 (s:Str):Nat:=if 46∈cl s then 1000 + stepOf s else(cl s).getLastD 0
theorem zj6:(List.range 40).all (fun i=>(List.range 27).all fun k=>ze5 (zkn i k) == 1000 + k)=true:=by decide +kernel
theorem zhT {i k:Nat} (hi:i<40) (hk:k<27):ze5 (zkn i k)=1000 + k:=eq_of_beq (List.all_eq_true.mp (List.all_eq_true.mp zj6 i (List.mem_range.mpr hi)) k (List.mem_range.mpr hk))
def IxK (it:It) (k:Nat):Prop:=ze5 it.label=97 + k∨ze5 it.label=1001 + k
theorem IxK.ne {it it':It}{j k:Nat} (h:IxK it j) (h':IxK it' k) (hj:j<25) (hk:k<25) (e:it.label=it'.label):j=k:=by
 unfold IxK at h h'
 rw[e] at h
 omega
theorem zj7 {st:Str}{c:Nat} (h:∀ x∈cl st,small x=true) (hc:small c=true):ze5 (st++⟨#[c]⟩)=c:=by
 have e:cl (st++⟨#[c]⟩)=cl st++[c]:=by rw[zeZ];rfl
 unfold ze5
 rw[e,if_neg (fun z=>?_)]
 ·rw[List.getLastD_concat]
 ·rcases List.mem_append.mp z with z|z
  ·have:=zhJ _ (zdK.mp (h _ z))
   omega
  ·rw[List.mem_singleton] at z
   subst z
   have:=zhJ _ (zdK.mp hc)
   omega
structure zcK (rows:List (List It)):Prop where
 r5:rows.length≤5
 ok:∀ r∈rows,r.length≤5∧∀ it∈r,it.Ok
 ix:∀ (j:Nat) it,rows.flatten[j]?=some it→IxK it j
theorem zcK.fl {rows:List (List It)} (h:zcK rows):rows.flatten.length≤25:=by
 have:=zdb (n:=5) fun r hr=>(h.ok r hr).1
 have:=h.r5
 omega
theorem zi7 {l:List It} (h:∀ (j:Nat) it,l[j]?=some it→IxK it j) (hl:l.length≤25){i j:Nat}{x y:It} (hx:l[i]?=some x) (hy:l[j]?=some y) (e:x.label=y.label):i=j:=
 (h i x hx).ne (h j y hy) (by have:=(List.getElem?_eq_some_iff.mp hx).1;omega) (by have:=(List.getElem?_eq_some_iff.mp hy).1;omega) e
section
variable {P:Program}{w:World}{K:PySem.W.Frag}{mg:Str→Option Value}{base:Heap}{a:Adr}
def ziD (K:PySem.W.Frag):Sp:=fun vs H Q _=>∃ p,∃ ns:List Int,∃ k,vs=[.ref p,.int k]∧SqL K H p (ns.map V.int)∧0≤k∧∀ c,Q (.int c) H
theorem zgq (T:Tx K mg a):Cal P w K mg base CX0 1 "_law_cell_at" ["_law_script","_law_k"] [] (ziD K):=T.d__law_cell_at.cal fun f fd F=>by
 refine F.ok zdE (fun vs H Q E h=>?_) (fun cdv A outer s H vs Q E hr h=>?_)
 ·obtain⟨p,ns,k,rfl,_⟩:=h
  rfl
 ·obtain⟨p,ns,k,rfl,hS,h0,q⟩:=h
  refine⟨_,(zac (zbJ (zat zjf (pv 1) (zay zbS rfl T.n_len zb9 (zaa (pv 0) zad)) (zaz _)) (zae (zap (zbR zba (pv 0) (pv 1) (fun _ _=>rfl)))) zaC)
   (zae (zap zah))),?_⟩
  refine⟨_,rfl,_,rfl,p,_,rfl,.inl hS,_,_,rfl,rfl,_,rfl,?_⟩
  refine zcl (fun c=>?_) (fun c=>?_)
  ·have h1:k<ns.length:=by
    have:=of_decide_eq_true c
    rwa [List.length_map] at this
   obtain⟨z,_,hz⟩:=zeb h0 h1
   exact⟨_,rfl,_,rfl,p,_,_,_,rfl,rfl,hS,hz,q z⟩
  ·exact q 0
def ziE:Sp:=fun vs H Q _=>∃ c m,vs=[.int c,.int m]∧0≤m∧m≤100∧∀ l xs H',zaj H H'→H l=none→H' l=some (.lst ((xs:List Int).map V.int))→(xs.length:Int)=m→(∀ x∈xs,0≤x∧x<2147483647)→Q (.ref l) H'
theorem zdP (T:Tx K mg a):Cal P w K mg base CX0 1 "_law_stream" ["_law_cell","_law_many"] [] ziE:=T.d__law_stream.cal fun f fd F=>by
 refine F.ok zaN (fun vs H Q E h=>?_) (fun cdv A outer s H vs Q E hr h=>?_)
 ·obtain⟨c,m,rfl,_⟩:=h
  rfl
 ·obtain⟨c,m,rfl,m0,m1,k⟩:=h
  refine⟨_,(zac (zao (i:=2) zaN.nd rfl (by first|exact Or.inl rfl|exact Or.inr rfl) (zaY zad))
   (zac (zao (i:=3) zaN.nd rfl (by first|exact Or.inl rfl|exact Or.inr rfl) (zam zaL (zam zdX (zam za0 (pv 0) zah) zah) zah))
   (zac (za4 PassesOwn.never rfl (zcr rfl T.n_range (zaa (pv 1) zad)) (zal (i:=4) zaN.nd rfl (by first|exact Or.inl rfl|exact Or.inr rfl)) (zac (zao (i:=3) zaN.nd rfl (by first|exact Or.inl rfl|exact Or.inr rfl) (zam zaL (zam zdX (pv 3) (zam za0 (zam za0 (zam zbK (pv 3) zah) zah) (pv 4))) zah))
   (zac (za3 (zbn PySem.F.plainAttrs_list PySem.F.slot_list_append PySem.F.type_list_append zaH (pv 2) (zaa (pv 3) zad)))
   (zae (zao (i:=3) zaN.nd rfl (by first|exact Or.inl rfl|exact Or.inr rfl) (zam za0 (pv 3) zah))))))
   (zae (zap (pv 2)))))),?_⟩
  refine⟨(by show 0≤sizeLine;decide),fun g ng=>?_⟩
  have s1:zaj H (upd H g (.lst [])):=zaj.new ng
  have h1:upd H g (.lst []) g=some (.lst []):=zab
  generalize upd H g (.lst [])=H1 at s1 h1 ⊢
  refine⟨_,rfl,_,_,rfl,rfl,_,_,rfl,rfl,.inr ⟨by decide,by decide⟩,_,_,rfl,rfl,(by show(0:Int)<2147483647;decide),?_⟩
  have b0:0≤(c + 7919) * 48271 % 2147483647:=Int.emod_nonneg _ (by decide)
  have b1:(c + 7919) * 48271 % 2147483647<2147483647:=Int.emod_lt_of_pos _ (by decide)
  refine⟨_,rfl,_,rfl,by omega,by omega,zdg (lo:=0) (n:=m.toNat) (fun i σ H'=>∃ v4,∃ z:Int,∃ xs:List Int,σ=[some (.int c),some (.int m),some (.ref g),some (.int z),v4]∧0≤z∧z≤2147483647∧(∀ b o,H1 b=some o→b≠g→H' b=some o)∧H' g=some (.lst (xs.map V.int))∧xs.length=i∧∀ x∈xs,0≤x∧x<2147483647) ⟨none,_,[],rfl,b0,Int.le_of_lt b1,fun b o e _=>e,h1,rfl,fun x hx=>by cases hx⟩ ?_ ?_⟩
  ·rintro i σ H' hi ⟨v4,z,xs,rfl,z0,z1,o3,h3,xl,xb⟩
   dsimp only[zaI]
   refine⟨_,rfl,_,rfl,_,_,rfl,rfl,⟨by decide,by decide⟩,_,_,rfl,rfl,_,rfl,_,_,rfl,rfl,_,_,rfl,rfl,.inl ⟨?_,?_⟩,_,_,rfl,rfl,(by show(0:Int)<2147483647;decide),?_⟩
   ·show -(2 ^ 64)<z
    omega
   ·show z<2 ^ 64
    omega
   generalize z * (z / 1009 + 69621 + (0 + (i:Int)))=y
   have y0:0≤y % 2147483647:=Int.emod_nonneg _ (by decide)
   have y1:y % 2147483647<2147483647:=Int.emod_lt_of_pos _ (by decide)
   refine⟨_,rfl,.inl ⟨rfl,_,SqL.of h3⟩,_,rfl,g,_,_,rfl,rfl,h3,by rw[List.length_map,sizeLine_eq];omega,?_⟩
   refine⟨_,rfl,_,_,rfl,rfl,?_⟩
   refine⟨_,_,xs++[y % 2147483647],rfl,by omega,by omega,fun b o e ne=>by rw[zaf ne];exact o3 b o e ne,by rw[zab,List.map_append];rfl,by rw[List.length_append,xl];rfl,fun x hx=>by
    rcases List.mem_append.mp hx with hx|hx
    ·exact xb x hx
    ·rw[List.mem_singleton.mp hx]
     exact⟨y0,y1⟩⟩
  ·rintro σ H' ⟨v4,z,xs,rfl,_,_,o3,h3,xl,xb⟩
   exact⟨_,rfl,k g xs H' (fun b o e=>o3 b o (s1 _ _ e) (zai e ng)) ng h3 (by omega) xb⟩
theorem made {H G H2:Hp}{C x dx:Addr} (s1:zaj H G) (nx:G x=none) (nd:G dx=none) (k2:∀ b o,upd (upd G dx (.own x)) x (.ins C dx []) b=some o→b≠x→H2 b=some o):zaj H H2∧H x=none:=by
 refine⟨fun b o e=>?_,zdO s1 nx⟩
 have e1:=s1 _ _ e
 have z1:b≠x:=zai e1 nx
 exact k2 b o (by rw[zaf z1,zaf (zai e1 nd)];exact e1) z1
def spItem (a:Adr):Sp:=fun vs H Q _=>∃ (n:Int) (k:Nat),vs=[.int n,.int (k:Int)]∧0≤n∧k<25∧∀ x it H',zaj H H'→H x=none→zhC a H' x it→it.Ok→IxK it k→Q (.ref x) H'
set_option maxHeartbeats 8000000 in
theorem zj8 (T:Tx K mg a):Cal P w K mg base CX0 3 "_law_item" ["_law_number","_law_k"] [] (spItem a):=T.d__law_item.cal fun f fd F=>by
 have i_Own:=ok_Own (P:=P) (w:=w) (base:=base) T
 have i_Small:=zit (P:=P) (w:=w) (base:=base) T
 refine F.ok zbY (fun vs H Q E h=>?_) (fun cdv A outer s H vs Q E hr h=>?_)
 ·obtain⟨n,k,rfl,_⟩:=h
  rfl
 ·obtain⟨n,k,rfl,n0,k25,q⟩:=h
  refine⟨_,(zac (zao (i:=2) zbY.nd rfl (by first|exact Or.inl rfl|exact Or.inr rfl) zaX)
   (zac (zbJ (zat zeC (zam zaL (pv 0) zah) zah (zaz _)) (zae (zap (zhd i_Small (hr.mono (by decide)) rfl (zaa (zam zaL (zam zbK (pv 0) zah) zah) (zaa (zam za0 (pv 1) zah) zad))))) zaC)
   (zac (zao (i:=3) zbY.nd rfl (by first|exact Or.inl rfl|exact Or.inr rfl) (zbn PySem.F.plainAttrs_str PySem.F.slot_str_join PySem.F.type_str_join zfj zaX (zaa (zbp (N:=["_law_j","_law_signs","_law_number"]) (cap:=[none,some 2,some 0]) rfl (zbC (osc:=zag zcn) (XN:=["_law_number","_law_k","_law_signs","_law_word"]) rfl rfl (by decide +kernel)) (zcr rfl T.n_range (zaa (zam zaL (zam zbK (pv 0) zah) zah) zad)) (fun cl C s H fp pins=>(zal (i:=0) (show(["_law_j","_law_signs","_law_number"]:List Str).Nodup by decide +kernel) rfl (by first|exact Or.inl rfl|exact Or.inr rfl))) (fun cl C s H fp pins=>zbo) (fun cl C s H fp pins=>(zbR zfF (pv 1) (zam zaL (zam zfT (pv 2) (zam za0 zah (zam zdX (zam zdX zah (pv 0)) (pv 0)))) zah) (fun _ _=>rfl)))) zad)))
   (zae (zap (zhd i_Own (hr.mono (by decide)) rfl (zaa (zam zaG (pv 3) (zbR zfF (pv 2) (zam zaL (pv 1) zah) (fun _ _=>rfl))) (zaa (zam zaL (pv 0) zah) zad)))))))),?_⟩
  refine⟨_,rfl,_,_,rfl,rfl,(by show(0:Int)<4;decide),rfl,_,rfl,?_⟩
  refine zcl (fun c=>?_) (fun c=>?_)
  ·refine⟨_,rfl,_,_,rfl,rfl,⟨by decide,by decide⟩,_,_,rfl,rfl,(by show(0:Int)<40;decide),_,rfl,_,_,rfl,rfl,?_⟩
   intro x dx nx nd ne
   have b0:0≤n / 4 % 40:=Int.emod_nonneg _ (by decide)
   have b1:n / 4 % 40<40:=Int.emod_lt_of_pos _ (by decide)
   refine⟨x,dx,_,_,rfl,zab,fun H2 k2 h2=>⟨rfl,?_⟩⟩
   obtain⟨s2,n2⟩:=made (zaj.refl H) nx nd k2
   refine q x (.small (n / 4 % 40) ((k:Int) + 1)) H2 s2 n2 ⟨dx,h2⟩ ⟨⟨b0,by omega⟩,⟨by omega,by omega⟩⟩ (.inr ?_)
   have e:=zhT (i:=(n / 4 % 40).toNat) (k:=k + 1) (by omega) (by omega)
   rw[show(((n / 4 % 40).toNat:Nat):Int)=n / 4 % 40 by omega,show((k + 1:Nat):Int)=(k:Int) + 1 by omega] at e
   show ze5 (zkn (n / 4 % 40) ((k:Int) + 1))=_
   rw[e]
   omega
  ·have b0:0≤n / 4 % 7:=Int.emod_nonneg _ (by decide)
   have b1:n / 4 % 7<7:=Int.emod_lt_of_pos _ (by decide)
   refine⟨rfl,_,rfl,_,_,rfl,rfl,⟨by decide,by decide⟩,_,_,rfl,rfl,(by show(0:Int)<7;decide),n / 4 % 7,rfl,by omega,by omega,fun D hD=>?_⟩
   refine zgb (n:=(n / 4 % 7).toNat) (fun i τ H'=>∃ v ys,τ=[v,some (.str abc),some (.int n)]∧zaj H H'∧H' D=some (.lst ((ys:List Str).map V.str))∧ys.length=i∧(ys.map (·.length)).sum=i∧∀ y∈ys,∀ ch∈cl y,small ch=true) ⟨none,[],rfl,zaj.new hD,zab,rfl,rfl,fun y hy=>by simp at hy⟩ ?_ ?_
   ·rintro i τ H' hi ⟨v,ys,rfl,sm,hl,y1,y2,y3⟩
    dsimp only[zaI,zgv]
    rw[if_pos rfl]
    have ij:0≤5 * (0 + (i:Int)) * (0 + (i:Int))∧5 * (0 + (i:Int)) * (0 + (i:Int))≤1000:=by
     have h6:i≤6:=by omega
     rcases(by omega:i=0∨i=1∨i=2∨i=3∨i=4∨i=5∨i=6) with rfl|rfl|rfl|rfl|rfl|rfl|rfl <;> decide
    refine⟨_,rfl,_,rfl,_,rfl,_,_,rfl,rfl,.inl ⟨by decide,by decide⟩,_,rfl,_,_,rfl,rfl,.inl ⟨?_,?_⟩,_,_,rfl,rfl,_,_,rfl,rfl,⟨?_,?_⟩,_,_,rfl,rfl,(by show(0:Int)<26;decide),?_⟩
    ·show -(2 ^ 64)<5 * (0 + (i:Int))
     omega
    ·show 5 * (0 + (i:Int))<2 ^ 64
     omega
    ·show 0<3 + 5 * (0 + (i:Int)) * (0 + (i:Int))
     omega
    ·show 3 + 5 * (0 + (i:Int)) * (0 + (i:Int))<2 ^ 62
     omega
    dsimp only
    generalize n / (3 + 5 * (0 + (i:Int)) * (0 + (i:Int)))=m
    have m0:0≤m % 26:=Int.emod_nonneg _ (by decide)
    have m1:m % 26<26:=Int.emod_lt_of_pos _ (by decide)
    refine⟨abc,_,_,rfl,rfl,(by decide +kernel),zi6 m0 m1,_,hl,?_,_,ys++[⟨#[97 + (m % 26).toNat]⟩],rfl,?_,?_,?_,?_,?_⟩
    ·rw[List.length_map,y1,sizeLine_eq]
     omega
    ·exact zaw hD sm
    ·rw[zab,List.map_append]
     rfl
    ·rw[List.length_append,y1]
     rfl
    ·rw[List.map_append,List.sum_append,y2]
     rfl
    ·intro y hy ch hc
     rcases List.mem_append.mp hy with z|z
     ·exact y3 y z ch hc
     ·have:y=⟨#[97 + (m % 26).toNat]⟩:=List.mem_singleton.mp z
      subst this
      have:ch=97 + (m % 26).toNat:=by simpa [cl] using hc
      rw[this]
      exact ze4 ⟨(m % 26).toNat,by omega⟩
   ·rintro τ H1 ⟨v,ys,rfl,s1,hl,y1,y2,y3⟩
    refine⟨_,D,ys,rfl,rfl,SqL.of hl,by rw[y1,y2];show(n / 4 % 7).toNat + (n / 4 % 7).toNat * 0≤16777216;omega,?_⟩
    have hj:=ziB ys
    rw[y2] at hj
    have l2:(Txt.join "" ys).length≤6:=by omega
    have sma:∀ ch∈cl (Txt.join "" ys),small ch=true:=fun ch hc=>by
     obtain⟨y,hy,hc'⟩:=ziC hc
     exact y3 y hy ch hc'
    dsimp only[zaI]
    generalize Txt.join "" ys=st at l2 sma
    have k0:0≤(k:Int) % 26:=Int.emod_nonneg _ (by decide)
    have k1:(k:Int) % 26<26:=Int.emod_lt_of_pos _ (by decide)
    refine⟨_,rfl,_,rfl,_,rfl,_,_,rfl,rfl,(by show(0:Int)<26;decide),abc,_,_,rfl,rfl,(by decide +kernel),zi6 k0 k1,_,_,rfl,rfl,?_,_,rfl,_,_,rfl,rfl,(by show(0:Int)<51;decide),?_⟩
    ·show st.length + 1≤sizeLine
     rw[sizeLine_eq]
     omega
    intro x dx nx nd ne
    refine⟨x,dx,_,_,rfl,zab,fun H2 k2 h2=>⟨rfl,?_⟩⟩
    obtain⟨s2,n2⟩:=made s1 nx nd k2
    have ek:((k:Int) % 26).toNat=k:=by omega
    have sk:small (97 + ((k:Int) % 26).toNat)=true:=ze4 ⟨((k:Int) % 26).toNat,by omega⟩
    refine q x (.own (st++⟨#[97 + ((k:Int) % 26).toNat]⟩) (n % 51)) H2 s2 n2 ⟨dx,h2⟩ ?_ (.inl ?_)
    ·show za9 _=true
     unfold za9
     have ll:(st++(⟨#[97 + ((k:Int) % 26).toNat]⟩:Str)).length=st.length + 1:=by rw[PySem.Str.length_append];rfl
     rw[ll,decide_eq_true (by omega),decide_eq_true (by omega),Bool.true_and,Bool.true_and]
     refine List.all_eq_true.mpr fun c hc=>?_
     have hc':c∈cl st++[97 + ((k:Int) % 26).toNat]:=by
      have:c∈cl (st++(⟨#[97 + ((k:Int) % 26).toNat]⟩:Str)):=hc
      rw[zeZ] at this
      exact this
     rcases List.mem_append.mp hc' with z|z
     ·exact sma c z
     ·rw[List.mem_singleton.mp z]
      exact sk
    ·show ze5 (st++⟨#[97 + ((k:Int) % 26).toNat]⟩)=_
     rw[zj7 sma sk,ek]
end
end K71
namespace K71
open PySem L2
theorem cut_le (ns:List Int) (i j:Nat):∃ ms:List Int,zgu (ns.map V.int) (some i) (some j)=ms.map V.int∧ms.length≤j - i:=by
 obtain⟨ms,e,_⟩:=zim ns (some i) (some j)
 refine⟨ms,e,?_⟩
 have l:ms.length=(zgu (ns.map V.int) (some i) (some j)).length:=by rw[e,List.length_map]
 have e1:HT.sIx (ns.map V.int).length 0 (some (i:Int))=min i (ns.map V.int).length:=HT.zfe _ _ i
 have e2:HT.sIx (ns.map V.int).length (ns.map V.int).length (some (j:Int))=min j (ns.map V.int).length:=HT.zfe _ _ j
 rw[l]
 unfold zgu
 rw[e1,e2,List.length_take,List.length_drop]
 omega
theorem ziF {ws:List Int}{i:Nat}{y:V} (h:(ws.map V.int)[i]?=some y):∃ s,ws[i]?=some s∧y=.int s:=by
 rw[List.getElem?_map] at h
 cases e:ws[i]? with
 | none=>rw[e] at h;cases h
 | some s=>rw[e] at h;cases h;exact⟨s,rfl,rfl⟩
theorem zj9 {l:List It}{it:It} (h:∀ (j:Nat) x,l[j]?=some x→IxK x j) (hi:IxK it l.length):∀ (j:Nat) x,(l++[it])[j]?=some x→IxK x j:=fun j x e=>by
 by_cases hj:j<l.length
 ·rw[List.getElem?_append_left hj] at e
  exact h j x e
 ·rw[List.getElem?_append_right (by omega)] at e
  have hj2:j - l.length=0:=by
   have:=(List.getElem?_eq_some_iff.mp e).1
   simp at this
   omega
  rw[hj2] at e
  cases e
  rw[show j=l.length by omega]
  exact hi
section
variable {P:Program}{w:World}{K:PySem.W.Frag}{mg:Str→Option Value}{base:Heap}{a:Adr}
theorem WAt.upd {H:Hp}{v:V}{its:List It}{r:Addr}{zs:List V}{o:HO} (h:WAt a H v its) (nv:v≠.ref r) (hr:H r=some (.lst zs)):WAt a (L2.upd H r o) v its:=by
 obtain⟨b,xs,e,h1,h2⟩:=h
 exact⟨b,xs,e,by rw[zaf (fun z=>nv (by rw[e,z]))];exact h1,zfu h2 hr⟩
def spRows (K:PySem.W.Frag) (a:Adr):Sp:=fun vs H Q _=>∃ p,∃ ns:List Int,vs=[.ref p]∧SqL K H p (ns.map V.int)∧∀ l xs rows H',zaj H H'→H l=none→H' l=some (.lst xs)→WsV a H' xs rows→zcK rows→Q (.ref l) H'
set_option maxHeartbeats 1000000 in
theorem zka (T:Tx K mg a):Cal P w K mg base CX0 4 "_law_rows" ["_law_script"] [] (spRows K a):=T.d__law_rows.cal fun f fd F=>by
 have c__law_stream:=zdP (P:=P) (w:=w) (base:=base) T
 have c__law_item:=zj8 (P:=P) (w:=w) (base:=base) T
 refine F.ok zaJ (fun vs H Q E h=>?_) (fun cdv A outer s H vs Q E hr h=>?_)
 ·obtain⟨p,ns,rfl,_⟩:=h
  rfl
 ·obtain⟨p,ns,rfl,hS,q⟩:=h
  refine⟨_,(zac (zao (i:=1) zaJ.nd rfl (by first|exact Or.inl rfl|exact Or.inr rfl) (zaY zad))
   (zac (zao (i:=2) zaJ.nd rfl (by first|exact Or.inl rfl|exact Or.inr rfl) zah)
   (zac (za4 PassesOwn.never rfl (zaF (zbu zgP (pv 0) (zbL zah) (zbL zah))) (zal (i:=3) zaJ.nd rfl (by first|exact Or.inl rfl|exact Or.inr rfl)) (zac (zao (i:=4) zaJ.nd rfl (by first|exact Or.inl rfl|exact Or.inr rfl) (zaE c__law_stream (hr.mono (by decide)) rfl (zaa (pv 3) (zaa zah zad))))
   (zac (zao (i:=5) zaJ.nd rfl (by first|exact Or.inl rfl|exact Or.inr rfl) (zaY zad))
   (zac (za4 PassesOwn.never rfl (zcr rfl T.n_range (zaa (zam zaL (zbR zba (pv 4) zah (fun _ _=>rfl)) zah) zad)) (zal (i:=6) zaJ.nd rfl (by first|exact Or.inl rfl|exact Or.inr rfl)) (zac (za3 (zbn PySem.F.plainAttrs_list PySem.F.slot_list_append PySem.F.type_list_append zaH (pv 5) (zaa (zaE c__law_item (hr.mono (by decide)) rfl (zaa (zbR zba (pv 4) (pv 6) (fun _ _=>rfl)) (zaa (pv 2) zad))) zad)))
   (zae (zao (i:=2) zaJ.nd rfl (by first|exact Or.inl rfl|exact Or.inr rfl) (zam za0 (pv 2) zah)))))
   (zae (za3 (zbn PySem.F.plainAttrs_list PySem.F.slot_list_append PySem.F.type_list_append zaH (pv 1) (zaa (pv 5) zad))))))))
   (zae (zap (pv 1)))))),?_⟩
  refine⟨(by show 0≤sizeLine;decide),fun g ng=>?_⟩
  have s1:zaj H (upd H g (.lst [])):=zaj.new ng
  have h1:upd H g (.lst []) g=some (.lst []):=zab
  generalize upd H g (.lst [])=H1 at s1 h1 ⊢
  obtain⟨cs,hcs,cl5⟩:=cut_le ns 1 6
  refine⟨_,rfl,_,rfl,_,rfl,p,_,rfl,s1.sqL hS,fun y ny=>?_⟩
  rw[show zgu (ns.map V.int) (some 1) (some 6)=cs.map V.int from hcs]
  have yg:y≠g:=Ne.symm (zai h1 ny)
  have s2:zaj H1 (upd H1 y (.lst (cs.map V.int))):=zaj.new ny
  have h2:upd H1 y (.lst (cs.map V.int)) y=some (.lst (cs.map V.int)):=zab
  generalize upd H1 y (.lst (cs.map V.int))=H2 at s2 h2 ⊢
  have s12:=s1.trans s2
  refine⟨y,rfl,⟨_,SqL.of h2⟩,zbd (K:=K) (a:=y) (xs:=cs.map V.int) (fun i σ G=>∃ v3 v4 v5 v6 xs rows,σ=[some (.ref p),some (.ref g),some (.int ((rows.flatten.length:Nat):Int)),v3,v4,v5,v6]∧zaj H G∧G y=some (.lst (cs.map V.int))∧G g=some (.lst xs)∧F2 (fun v its=>WAt a G v its∧v≠.ref g) xs rows∧rows.length=i∧(∀ r∈rows,r.length≤5∧∀ it∈r,it.Ok)∧∀ (j:Nat) it,rows.flatten[j]?=some it→IxK it j)
   ⟨none,none,none,none,[],[],rfl,s12,h2,s2 _ _ h1,trivial,rfl,fun _ h=>by simp at h,fun _ _ h=>by simp at h⟩ ?_ ?_ ?_⟩
  ·rintro i σ G _ ⟨_,_,_,_,_,_,rfl,_,hy,_⟩
   exact SqL.of hy
  ·rintro i x σ G hx ⟨v3,v4,v5,v6,xs,rows,rfl,sg,hy,hg,fw,rl,ro,rx⟩
   obtain⟨c,hc,rfl⟩:=ziF hx
   have hi:i<cs.length:=(List.getElem?_eq_some_iff.mp hc).1
   have fl:=zdb (n:=5) fun r hr=>(ro r hr).1
   dsimp only[zaI]
   refine⟨_,rfl,c,6,rfl,by decide,by decide,fun st us G1 sG1 nst hst ul ub=>?_⟩
   have ul':us.length=6:=by omega
   refine⟨(by show 0≤sizeLine;decide),fun rw_ nrw=>?_⟩
   have s3:zaj G1 (upd G1 rw_ (.lst [])):=zaj.new nrw
   have h3:upd G1 rw_ (.lst []) rw_=some (.lst []):=zab
   generalize upd G1 rw_ (.lst [])=G2 at s3 h3 ⊢
   obtain⟨u5,hu5,au5⟩:=zeb (ns:=us) (k:=5) (by decide) (by omega)
   have m0:0≤u5 % 6:=Int.emod_nonneg _ (by decide)
   have m1:u5 % 6<6:=Int.emod_lt_of_pos _ (by decide)
   have sA:=sG1.trans s3
   have hg2:=sA _ _ hg
   have rg:rw_≠g:=Ne.symm (zai (sG1 _ _ hg) nrw)
   refine⟨_,rfl,st,_,_,_,rfl,rfl,SqL.of (s3 _ _ hst),au5,_,_,rfl,rfl,(by show(0:Int)<6;decide),_,rfl,by omega,by omega,zdg (lo:=0) (n:=(u5 % 6).toNat) (fun j σ G'=>∃ v6 zs its,σ=[some (.ref p),some (.ref g),some (.int (((rows.flatten++its).length:Nat):Int)),some (.int c),some (.ref st),some (.ref rw_),v6]∧zaj G1 G'∧G' rw_=some (.lst zs)∧zjW a G' zs its∧its.length=j∧(∀ it∈its,it.Ok)∧∀ (j:Nat) it,(rows.flatten++its)[j]?=some it→IxK it j)
    ⟨v6,[],[],by rw[List.append_nil];rfl,s3,h3,trivial,rfl,(fun _ h=>by simp at h),by rw[List.append_nil];exact rx⟩ ?_ ?_⟩
   ·rintro j σ G' hj ⟨v6,zs,its,rfl,sg',hz,iz,il,io,ix⟩
    obtain⟨uj,huj,auj⟩:=zeb (ns:=us) (k:=0 + (j:Int)) (by omega) (by omega)
    have uj0:=(ub uj (List.mem_of_getElem? huj)).1
    have ll:(rows.flatten++its).length<25:=by
     rw[List.length_append]
     omega
    dsimp only[zaI]
    refine⟨_,rfl,.inl ⟨rfl,_,SqL.of hz⟩,_,rfl,_,rfl,st,_,_,_,rfl,rfl,SqL.of (sg' _ _ hst),auj,_,rfl,uj,_,rfl,uj0,ll,fun x it G3 s4 nx ix' iok ixk=>?_⟩
    have hz3:=s4 _ _ hz
    refine⟨rw_,zs,_,rfl,rfl,hz3,by rw[iz.len,sizeLine_eq];omega,?_⟩
    refine⟨_,rfl,_,_,rfl,rfl,?_⟩
    refine⟨some (.int (0 + (j:Int))),_,its++[it],?_,zaw nrw (sg'.trans s4),zab,?_,?_,?_,?_⟩
    ·rw[← List.append_assoc,List.length_append (bs:=[it])]
     rfl
    ·exact(zfu (zeq iz s4) hz3).snoc ⟨x,rfl,ix'.upd hz3⟩
    ·rw[List.length_append,il]
     rfl
    ·intro z hz'
     rcases List.mem_append.mp hz' with h|h
     ·exact io z h
     ·rw[List.mem_singleton.mp h]
      exact iok
    ·rw[← List.append_assoc]
     exact zj9 ix ixk
   ·rintro σ G' ⟨v6,zs,its,rfl,sg',hz,iz,il,io,ix⟩
    have sB:=sG1.trans sg'
    have hg3:=sB _ _ hg
    refine⟨_,rfl,.inl ⟨rfl,_,SqL.of hg3⟩,_,rfl,g,xs,_,rfl,rfl,hg3,by rw[fw.len,sizeLine_eq];omega,?_⟩
    refine⟨some (.int c),some (.ref st),some (.ref rw_),v6,_,rows++[its],by rw[List.flatten_append,show[its].flatten=its by simp],zaw ng (sg.trans sB),by rw[zaf yg];exact sB _ _ hy,zab,?_,by rw[List.length_append,rl];rfl,?_,?_⟩
    ·have f1:F2 (fun v its=>WAt a (upd G' g (.lst (xs++[.ref rw_]))) v its∧v≠.ref g) xs rows:=fw.mono fun v l ⟨h,nv⟩=>⟨(h.same sB).upd nv hg3,nv⟩
     exact f1.snoc ⟨⟨rw_,zs,rfl,by rw[zaf rg];exact hz,zfu iz hg3⟩,fun z=>rg (by cases z;rfl)⟩
    ·intro r hr'
     rcases List.mem_append.mp hr' with h|h
     ·exact ro r h
     ·rw[List.mem_singleton.mp h]
      exact⟨by omega,io⟩
    ·rw[List.flatten_append,show[its].flatten=its by simp]
     exact ix
  ·rintro σ G ⟨v3,v4,v5,v6,xs,rows,rfl,sg,hy,hg,fw,rl,ro,rx⟩
   rw[List.length_map] at rl
   exact⟨_,rfl,q g xs rows G sg ng hg (fw.mono fun _ _ h=>h.1) ⟨by omega,ro,rx⟩⟩
def kvP (pl:Str→Int) (it:It):Key×V:=(Sum.inr it.label,.int (pl it.label))
def RsE (pl:Str→Int):Int→List It→Int→Prop
 | lo,[],hi=>lo≤hi
 | lo,it::r,hi=>lo≤pl it.label∧RsE pl (pl it.label + 1) r hi
theorem RsE.rs {pl:Str→Int}:∀ {l:List It}{lo hi:Int},RsE pl lo l hi→Rs pl lo l
 | [],_,_,_=>trivial
 | _::_,_,_,h=>⟨h.1,h.2.rs⟩
theorem RsE.snoc {pl:Str→Int}{it:It}{hi hi':Int} (h1:hi≤pl it.label) (h2:pl it.label + 1≤hi'):∀ {l:List It}{lo:Int},RsE pl lo l hi→RsE pl lo (l++[it]) hi'
 | [],lo,h=>⟨Int.le_trans h h1,h2⟩
 | _::_,_,h=>⟨h.1,h.2.snoc h1 h2⟩
theorem RsE.congr {pl pl':Str→Int}{hi:Int}:∀ {l:List It}{lo:Int},(∀ it∈l,pl' it.label=pl it.label)→RsE pl lo l hi→RsE pl' lo l hi
 | [],_,_,h=>h
 | x::l,lo,e,h=>by
  have e1:=e x (List.mem_cons_self ..)
  refine⟨by rw[e1];exact h.1,?_⟩
  rw[e1]
  exact h.2.congr fun it hi=>e it (List.mem_cons_of_mem _ hi)
theorem Rs.congr {pl pl':Str→Int}:∀ {l:List It}{lo:Int},(∀ it∈l,pl' it.label=pl it.label)→Rs pl lo l→Rs pl' lo l
 | [],_,_,h=>h
 | x::l,lo,e,h=>by
  have e1:=e x (List.mem_cons_self ..)
  refine⟨by rw[e1];exact h.1,?_⟩
  rw[e1]
  exact h.2.congr fun it hi=>e it (List.mem_cons_of_mem _ hi)
theorem zf0 {pl:Str→Int}{s:Str}:∀ {l:List It},(∀ it∈l,it.label≠s)→zcp (l.map (kvP pl)) (Sum.inr s)=none
 | [],_=>rfl
 | x::l,h=>by
  rw[List.map_cons,zaP (fun z=>h x (List.mem_cons_self ..) (Sum.inr.inj z))]
  exact zf0 fun it hi=>h it (List.mem_cons_of_mem _ hi)
theorem zeu {pl:Str→Int}{it:It}:∀ {l:List It},it∈l→zcp (l.map (kvP pl)) (Sum.inr it.label)=some (.int (pl it.label))
 | x::l,h=>by
  by_cases e:x.label=it.label
  ·rw[List.map_cons,zaW (show(kvP pl x).1=Sum.inr it.label by show Sum.inr x.label=_;rw[e]),show(kvP pl x).2=.int (pl x.label) from rfl,e]
  ·rw[List.map_cons,zaP (fun z=>e (Sum.inr.inj z))]
   rcases List.mem_cons.mp h with h|h
   ·exact absurd (by rw[h]) e
   ·exact zeu h
def ziG (K:PySem.W.Frag) (a:Adr):Sp:=fun vs H Q _=>∃ p xs rows,∃ c:Int,vs=[.ref p,.int c]∧H p=some (.lst xs)∧WsV a H xs rows∧zcK rows∧∀ d pl H',zaj H H'→H d=none→H' d=some (.dK (rows.flatten.map (kvP pl)))→(∀ r∈rows,Rs pl 0 r)→(∀ it∈rows.flatten,InR pl it)→Q (.ref d) H'
set_option maxHeartbeats 1000000 in
theorem zhU (T:Tx K mg a):Cal P w K mg base CX0 3 "_law_places" ["_law_rows_here","_law_cell"] [] (ziG K a):=T.d__law_places.cal fun f fd F=>by
 have c__law_stream:=zdP (P:=P) (w:=w) (base:=base) T
 have m_Own_label:=za2 (P:=P) (w:=w) (base:=base) T
 have m_Small_label:=zaO (P:=P) (w:=w) (base:=base) T
 refine F.ok zas (fun vs H Q E h=>?_) (fun cdv A outer s H vs Q E hr h=>?_)
 ·obtain⟨p,xs,rows,c,rfl,_⟩:=h
  rfl
 ·obtain⟨p,xs,rows,c,rfl,hp,hx,R,q⟩:=h
  have f25:=R.fl
  refine⟨_,(zac (zao (i:=2) zas.nd rfl (by first|exact Or.inl rfl|exact Or.inr rfl) zfJ)
   (zac (za4 PassesOwn.never rfl (za1 rfl T.n_enumerate (zaa (pv 0) zad)) (zcq rfl (zar (zal (i:=3) zas.nd rfl (by first|exact Or.inl rfl|exact Or.inr rfl)) (zar (zal (i:=4) zas.nd rfl (by first|exact Or.inl rfl|exact Or.inr rfl)) zbm))) (zac (zao (i:=5) zas.nd rfl (by first|exact Or.inl rfl|exact Or.inr rfl) (zaE c__law_stream (hr.mono (by decide)) rfl (zaa (zam za0 (pv 1) (pv 3)) (zaa zah zad))))
   (zac (zao (i:=6) zas.nd rfl (by first|exact Or.inl rfl|exact Or.inr rfl) (zam zaL (zbR zba (pv 5) zah (fun _ _=>rfl)) zah))
   (zae (za4 PassesOwn.never rfl (za1 rfl T.n_enumerate (zaa (pv 4) zad)) (zcq rfl (zar (zal (i:=7) zas.nd rfl (by first|exact Or.inl rfl|exact Or.inr rfl)) (zar (zal (i:=8) zas.nd rfl (by first|exact Or.inl rfl|exact Or.inr rfl)) zbm))) (zac (zgV (zcu hr) (pv 2) (zaM (zaq (pv 8) T.c_Own m_Own_label (hr.mono (by decide))) (zaq (pv 8) T.c_Small m_Small_label (hr.mono (by decide)))) (pv 6) rfl)
   (zae (zao (i:=6) zas.nd rfl (by first|exact Or.inl rfl|exact Or.inr rfl) (zam za0 (zam za0 (pv 6) zah) (zam zaL (zbR zba (pv 5) (pv 7) (fun _ _=>rfl)) (zbR zba (zaY (zaa zah (zaa zah zad))) (zam zaL (zbR zba (pv 5) zah (fun _ _=>rfl)) zah) (fun _ _=>rfl))))))))))))
   (zae (zap (pv 2))))),?_⟩
  refine fun d nd=>?_
  have s1:zaj H (upd H d (.dK [])):=zaj.new nd
  have h1:upd H d (.dK []) d=some (.dK []):=zab
  generalize upd H d (.dK [])=H1 at s1 h1 ⊢
  refine⟨_,rfl,p,rfl,⟨_,SqL.of (s1 _ _ hp)⟩,zb4 (K:=K) (l:=p) (xs:=xs) (fun i σ G=>∃ v3 v4 v5 v6 v7 v8 pl,σ=[some (.ref p),some (.int c),some (.ref d),v3,v4,v5,v6,v7,v8]∧zaj H G∧G d=some (.dK ((rows.take i).flatten.map (kvP pl)))∧(∀ r∈rows.take i,Rs pl 0 r)∧∀ it∈(rows.take i).flatten,InR pl it)
   ⟨none,none,none,none,none,none,fun _=>0,rfl,s1,h1,(fun _ h=>by simp at h),fun _ h=>by simp at h⟩ ?_ ?_ ?_⟩
  ·rintro i σ G _ ⟨_,_,_,_,_,_,_,rfl,sg,_⟩
   exact SqL.of (sg _ _ hp)
  ·rintro i x t σ G hx' nt ⟨v3,v4,v5,v6,v7,v8,pl,rfl,sg,hd,rs,ir⟩
   obtain⟨its,e1,r1,zs,rfl,hr1,hz⟩:=hx.get hx'
   have mi:=List.mem_of_getElem? e1
   obtain⟨i5,iok⟩:=R.ok its mi
   have hi:i<rows.length:=(List.getElem?_eq_some_iff.mp e1).1
   have st:zaj G (upd G t (.tup [.int (i:Int),.ref r1])):=zaj.new nt
   have ht:SqT K (upd G t (.tup [.int (i:Int),.ref r1])) t [.int (i:Int),.ref r1]:=SqT.of zab
   generalize upd G t (.tup [.int (i:Int),.ref r1])=G1 at st ht ⊢
   refine⟨t,_,rfl,ht,rfl,_,_,rfl,_,_,rfl,rfl,?_⟩
   dsimp only[zaI]
   refine⟨_,rfl,_,rfl,_,_,rfl,rfl,_,6,rfl,by decide,by decide,fun u us G2 sG2 nu hu ul ub=>?_⟩
   have ul':us.length=6:=by omega
   obtain⟨u5,hu5,au5⟩:=zeb (ns:=us) (k:=5) (by decide) (by omega)
   have m0:0≤u5 % 30:=Int.emod_nonneg _ (by decide)
   have m1:u5 % 30<30:=Int.emod_lt_of_pos _ (by decide)
   have sA:=(sg.trans st).trans sG2
   have hd2:=(st.trans sG2) _ _ hd
   have fp:rows.flatten=(rows.take i).flatten++its++(rows.drop (i + 1)).flatten:=by
    rw[← zbI e1,← List.flatten_append,List.take_append_drop]
   refine⟨_,rfl,u,_,_,_,rfl,rfl,SqL.of hu,au5,_,_,rfl,rfl,(by show(0:Int)<30;decide),?_⟩
   refine⟨_,rfl,r1,rfl,⟨_,SqL.of (sA _ _ hr1)⟩,zb4 (K:=K) (l:=r1) (xs:=zs) (fun j σ G'=>∃ v7 v8 pl',∃ at_:Int,σ=[some (.ref p),some (.int c),some (.ref d),some (.int (i:Int)),some (.ref r1),some (.ref u),some (.int at_),v7,v8]∧zaj H G'∧G' u=some (.lst (us.map V.int))∧G' d=some (.dK (((rows.take i).flatten++its.take j).map (kvP pl')))∧(∀ r∈rows.take i,Rs pl' 0 r)∧(∀ it∈(rows.take i).flatten++its.take j,InR pl' it)∧RsE pl' 0 (its.take j) at_∧0≤at_∧at_≤29 + 30 * j)
    ⟨v7,v8,pl,_,rfl,sA,hu,by rw[List.take_zero,List.append_nil];exact hd2,rs,by rw[List.take_zero,List.append_nil];exact ir,m0,m0,by show u5 % 30≤_;omega⟩ ?_ ?_ ?_⟩
   ·rintro j σ G' _ ⟨_,_,_,_,rfl,sg',_⟩
    exact SqL.of (sg' _ _ hr1)
   ·rintro j y t' σ G' hy nt' ⟨v7,v8,pl',at_,rfl,sg',hu',hd',rs',ir',re,a0,a1⟩
    obtain⟨it,e2,b,rfl,ib⟩:=hz.get hy
    have hj:j<its.length:=(List.getElem?_eq_some_iff.mp e2).1
    have io:=iok it (List.mem_of_getElem? e2)
    have st':zaj G' (upd G' t' (.tup [.int (j:Int),.ref b])):=zaj.new nt'
    have ht':SqT K (upd G' t' (.tup [.int (j:Int),.ref b])) t' [.int (j:Int),.ref b]:=SqT.of zab
    generalize upd G' t' (.tup [.int (j:Int),.ref b])=G3 at st' ht' ⊢
    have s3:=sg'.trans st'
    have hd3:=st' _ _ hd'
    have hu3:=st' _ _ hu'
    have at9:((rows.take i).flatten++its)[((rows.take i).flatten++its.take j).length]?=some it:=by
     rw[List.length_append,List.length_take,List.getElem?_append_right (by omega),show(rows.take i).flatten.length + min j its.length - (rows.take i).flatten.length=j by omega]
     exact e2
    have new:∀ z∈(rows.take i).flatten++its.take j,z.label≠it.label:=fun z hz' ez=>by
     obtain⟨m,hm⟩:=List.getElem?_of_mem hz'
     have hml:=(List.getElem?_eq_some_iff.mp hm).1
     have hm2:rows.flatten[m]?=some z:=by
      rw[fp,← List.take_append_drop j its,← List.append_assoc,List.append_assoc,List.append_assoc,← List.append_assoc,List.getElem?_append_left hml]
      exact hm
     have hi2:rows.flatten[((rows.take i).flatten++its.take j).length]?=some it:=by
      rw[fp,List.getElem?_append_left (List.getElem?_eq_some_iff.mp at9).1]
      exact at9
     have:=zi7 R.ix f25 hm2 hi2 ez
     omega
    have cg:∀ z∈(rows.take i).flatten++its.take j,(fun s=>if s=it.label then at_ else pl' s) z.label=pl' z.label:=fun z hz'=>if_neg (new z hz')
    have pk:zdZ (((rows.take i).flatten++its.take j).map (kvP pl')) (Sum.inr it.label) (.int at_)=((rows.take i).flatten++its.take (j + 1)).map (kvP fun s=>if s=it.label then at_ else pl' s):=by
     rw[zid _ (zf0 new),zak e2,← List.append_assoc,List.map_append (l₁:=(rows.take i).flatten++its.take j),List.map_congr_left (l:=(rows.take i).flatten++its.take j) (g:=kvP fun s=>if s=it.label then at_ else pl' s) (fun z hz'=>by
      have e:=cg z hz'
      dsimp only at e
      show(Sum.inr z.label,V.int (pl' z.label))=((Sum.inr z.label,V.int (if z.label=it.label then at_ else pl' z.label)):Key×V)
      rw[e])]
     simp[kvP]
    refine⟨t',_,rfl,ht',rfl,_,_,rfl,_,_,rfl,rfl,?_⟩
    dsimp only[zaI]
    refine⟨_,rfl,_,rfl,?_⟩
    refine zbl (ib.same s3) io (fun Q' h=>⟨_,rfl,h⟩) ?_
    have du:u≠d:=fun z=>by rw[z,hd'] at hu';cases hu'
    refine⟨d,_,rfl,zki.k (k:=Sum.inr it.label) hd3 (by
     have h9:=(List.getElem?_eq_some_iff.mp at9).1
     have h8:((rows.take i).flatten++its).length≤rows.flatten.length:=by rw[fp,List.length_append (bs:=(rows.drop (i + 1)).flatten)];omega
     rw[List.length_map,sizeLine_eq]
     omega),?_⟩
    rw[pk]
    have s4:zaj H (upd G3 d (.dK (((rows.take i).flatten++its.take (j + 1)).map (kvP fun s=>if s=it.label then at_ else pl' s)))):=zaw nd s3
    have hd4:upd G3 d (.dK (((rows.take i).flatten++its.take (j + 1)).map (kvP fun s=>if s=it.label then at_ else pl' s))) d=_:=zab
    have hu4:upd G3 d (.dK (((rows.take i).flatten++its.take (j + 1)).map (kvP fun s=>if s=it.label then at_ else pl' s))) u=some (.lst (us.map V.int)):=by rw[zaf du];exact hu3
    generalize upd G3 d (.dK (((rows.take i).flatten++its.take (j + 1)).map (kvP fun s=>if s=it.label then at_ else pl' s)))=G4 at s4 hd4 hu4 ⊢
    obtain⟨uj,huj,auj⟩:=zeb (ns:=us) (k:=(j:Int)) (by omega) (by omega)
    refine⟨_,rfl,_,_,rfl,rfl,_,rfl,_,rfl,u,_,_,_,rfl,rfl,SqL.of hu4,auj,(by show 2≤sizeLine;decide),fun li nl=>?_⟩
    have s5:zaj G4 (upd G4 li (.lst [.int 3,.int 30])):=zaj.new nl
    have h5:upd G4 li (.lst [.int 3,.int 30]) li=some (.lst [.int 3,.int 30]):=zab
    generalize upd G4 li (.lst [.int 3,.int 30])=G5 at s5 h5 ⊢
    have m0:0≤u5 % 2:=Int.emod_nonneg _ (by decide)
    have m1:u5 % 2<2:=Int.emod_lt_of_pos _ (by decide)
    obtain⟨m,hm,hm2⟩:∃ m:Int,atI [V.int 3,.int 30] (u5 % 2)=some (.int m)∧(m=3∨m=30):=by
     rcases(by omega:u5 % 2=0∨u5 % 2=1) with e|e
     ·exact⟨3,by rw[e];rfl,.inl rfl⟩
     ·exact⟨30,by rw[e];rfl,.inr rfl⟩
    refine⟨_,rfl,u,_,_,_,rfl,rfl,SqL.of (s5 _ _ hu4),au5,_,_,rfl,rfl,(by show(0:Int)<2;decide),li,_,_,_,rfl,rfl,SqL.of h5,hm,_,_,rfl,rfl,(by show 0<m;omega),_,_,rfl,rfl,?_⟩
    have z0:0≤uj % m:=Int.emod_nonneg _ (by omega)
    have z1:uj % m<m:=Int.emod_lt_of_pos _ (by omega)
    have pi:(fun s=>if s=it.label then at_ else pl' s) it.label=at_:=if_pos rfl
    refine⟨some (.int (j:Int)),some (.ref b),(fun s=>if s=it.label then at_ else pl' s),_,rfl,s4.trans s5,s5 _ _ hu4,s5 _ _ hd4,fun r hr'=>?_,fun z hz'=>?_,?_,?_,?_⟩
    ·exact(rs' r hr').congr fun z hz'=>cg z (List.mem_append_left _ (List.mem_flatten.mpr ⟨r,hr',hz'⟩))
    ·rw[zak e2,← List.append_assoc] at hz'
     rcases List.mem_append.mp hz' with h|h
     ·have h':=ir' z h
      unfold InR at h' ⊢
      rw[cg z h]
      exact h'
     ·rw[List.mem_singleton.mp h]
      unfold InR
      rw[pi]
      omega
    ·rw[zak e2]
     refine RsE.snoc (hi:=at_) (by rw[if_pos rfl];exact Int.le_refl _) (by rw[if_pos rfl];show at_ + 1≤at_ + 1 + uj % m;omega) (re.congr fun z hz'=>cg z (List.mem_append_right _ hz'))
    ·show 0≤at_ + 1 + uj % m
     omega
    ·show at_ + 1 + uj % m≤29 + 30 * ((j + 1:Nat):Int)
     omega
   ·rintro σ G' ⟨v7,v8,pl',at_,rfl,sg',hu',hd',rs',ir',re,a0,a1⟩
    rw[hz.len,List.take_length] at hd' ir' re
    refine⟨_,_,_,_,_,_,pl',rfl,sg',by rw[zbI e1];exact hd',?_,by rw[zbI e1];exact ir'⟩
    intro r hr'
    rw[zak e1] at hr'
    rcases List.mem_append.mp hr' with h|h
    ·exact rs' r h
    ·rw[List.mem_singleton.mp h]
     exact re.rs
  ·rintro σ G ⟨v3,v4,v5,v6,v7,v8,pl,rfl,sg,hd,rs,ir⟩
   rw[hx.len,List.take_length] at hd rs ir
   exact⟨_,rfl,q d pl G sg nd hd rs ir⟩
end
end K71
namespace K71
open PySem L2
section
variable {P:Program}{w:World}{K:PySem.W.Frag}{mg:Str→Option Value}{base:Heap}{a:Adr}
theorem ze6 (T:Tx K mg a):Cal P w K mg base CX0 1 "_law_words" ["_law_line"] [] (zhO K):=T.d__law_words.cal fun f fd F=>by
 refine F.ok za8 (fun vs H Q E h=>?_) (fun cdv A outer s H vs Q E hr h=>?_)
 ·obtain⟨s,rfl,_⟩:=h
  rfl
 ·obtain⟨s,rfl,sl,k⟩:=h
  have wl:=zco (y:=bk) sl
  refine⟨_,(zac (zao (i:=1) za8.nd rfl (by first|exact Or.inl rfl|exact Or.inr rfl) (zaY zad))
   (zac (zao (i:=2) za8.nd rfl (by first|exact Or.inl rfl|exact Or.inr rfl) zah)
   (zac (za4 PassesOwn.never rfl (zaF (zbn PySem.F.plainAttrs_str PySem.F.slot_str_split PySem.F.type_str_split zc8 (pv 0) (zaa zaX zad))) (zal (i:=3) za8.nd rfl (by first|exact Or.inl rfl|exact Or.inr rfl)) (zac (zbJ (zat zf4 (pv 3) zaX (zaz _)) (zae (za3 (zbn PySem.F.plainAttrs_list PySem.F.slot_list_append PySem.F.type_list_append zaH (pv 1) (zaa (zbQ (zaa (pv 3) (zaa (pv 2) zad))) zad)))) zaC)
   (zae (zao (i:=2) za8.nd rfl (by first|exact Or.inl rfl|exact Or.inr rfl) (zam za0 (zam za0 (pv 2) (zay zaS rfl T.n_len zb9 (zaa (pv 3) zad))) zah)))))
   (zae (zap (pv 1)))))),?_⟩
  refine⟨(by show 0≤sizeLine;decide),fun g ng=>?_⟩
  have s1:zaj H (upd H g (.lst [])):=zaj.new ng
  have h1:upd H g (.lst []) g=some (.lst []):=zab
  generalize upd H g (.lst [])=H1 at s1 h1 ⊢
  refine⟨_,rfl,rfl,s,bk,rfl,rfl,rfl,zix sl,fun p np=>?_⟩
  have s2:zaj H1 (upd H1 p (.lst ((Txt.split s bk).map V.str))):=zaj.new np
  have h2:upd H1 p (.lst ((Txt.split s bk).map V.str)) p=some (.lst ((Txt.split s bk).map V.str)):=zab
  have h2g:=s2 _ _ h1
  have pg:p≠g:=fun z=>by rw[z,h1] at np;cases np
  generalize upd H1 p (.lst ((Txt.split s bk).map V.str))=H2 at s2 h2 h2g ⊢
  have s12:=s1.trans s2
  refine⟨p,rfl,⟨_,SqL.of h2⟩,zbd (K:=K) (a:=p) (xs:=(Txt.split s bk).map V.str) (fun i σ G=>∃ v3 ys,σ=[some (.str s),some (.ref g),some (.int (tot ((Txt.split s bk).take i))),v3]∧zaj H G∧G p=some (.lst ((Txt.split s bk).map V.str))∧G g=some (.lst ys)∧zbr K G ((wc 0 ((Txt.split s bk).take i)).map wdD) ys) ⟨none,[],rfl,s12,h2,h2g,rfl⟩ ?_ ?_ ?_⟩
  ·rintro i σ G _ ⟨_,_,rfl,_,hp,_⟩
   exact SqL.of hp
  ·rintro i x σ G hx ⟨v3,ys,rfl,sg,hp,hg,dy⟩
   obtain⟨z,hz,rfl⟩:=zby hx
   have hi:i<(Txt.split s bk).length:=(List.getElem?_eq_some_iff.mp hz).1
   have zl:z.length≤100000:=Nat.le_trans (PyProof.Rows.part_short (List.mem_of_getElem? hz)) sl
   have yl:ys.length≤100002:=by
    rw[← zbc dy,List.length_map]
    have:=zea ((Txt.split s bk).take i) 0
    rw[List.length_take] at this
    omega
   have et:tot ((Txt.split s bk).take (i + 1))=tot ((Txt.split s bk).take i) + (z.length:Int) + 1:=by
    rw[zak hz,zcT]
    show _ + ((z.length:Int) + 1 + 0)=_
    omega
   have ew:wc 0 ((Txt.split s bk).take (i + 1))=wc 0 ((Txt.split s bk).take i)++(if z.length=0 then[] else[(z,tot ((Txt.split s bk).take i))]):=by
    rw[zak hz,ze0,Int.zero_add]
    show _++((if z.length=0 then[] else[(z,tot ((Txt.split s bk).take i))])++[])=_
    rw[List.append_nil]
   dsimp only[zaI]
   refine⟨_,rfl,rfl,_,rfl,?_⟩
   refine zcl (fun c=>?_) (fun c=>?_)
   ·have zn:¬ z.length=0:=fun e=>by
     rw[len0 e] at c
     exact absurd c (by decide)
    refine⟨_,rfl,.inl ⟨rfl,_,SqL.of hg⟩,_,rfl,_,rfl,(by show 2≤sizeLine;decide),fun t nt=>?_⟩
    obtain⟨g1,g2,g3⟩:=zi4 (d:=wdD (z,tot ((Txt.split s bk).take i))) (vs:=[.str z,.int (tot ((Txt.split s bk).take i))]) ng sg hg dy (zcU _) nt fun H' h=>zhN h
    have pt:p≠t:=zai hp nt
    refine⟨g,ys,_,rfl,rfl,g1,by rw[sizeLine_eq];omega,?_⟩
    refine⟨_,rfl,_,rfl,z,rfl,by rw[sizeLine_eq];omega,_,_,rfl,rfl,_,_,rfl,rfl,?_⟩
    refine⟨some (.str z),_,by rw[et];rfl,g2,by rw[zaf pg,zaf pt];exact hp,zab,?_⟩
    rw[ew,if_neg zn,List.map_append]
    exact g3
   ·have zn:z.length=0:=by
     have e:z=Str.ofString "":=by simpa using c
     rw[e]
     rfl
    refine⟨_,rfl,_,rfl,z,rfl,by rw[sizeLine_eq];omega,_,_,rfl,rfl,_,_,rfl,rfl,?_⟩
    refine⟨some (.str z),ys,by rw[et];rfl,sg,hp,hg,?_⟩
    rw[ew,if_pos zn,List.append_nil]
    exact dy
  ·rintro σ G ⟨v3,ys,rfl,sg,hp,hg,dy⟩
   rw[List.length_map,List.take_length] at dy
   exact⟨_,rfl,k g ys G sg ng hg dy⟩
def spText (a:Adr):Sp:=fun vs H Q _=>∃ p xs rows d kv pl,vs=[.ref p,.ref d]∧H p=some (.lst xs)∧WsV a H xs rows∧zcK rows∧H d=some (.dK kv)∧(∀ r∈rows,∀ it∈r,Vl kv pl it.label∧InR pl it)∧∀ H',zaj H H'→Q (.str (pic pl rows)) H'
theorem zkb (T:Tx K mg a):Cal P w K mg base CX0 2 "_law_text" ["_law_rows_here","_law_places_here"] [] (spText a):=T.d__law_text.cal fun f fd F=>by
 have m_Own_label:=za2 (P:=P) (w:=w) (base:=base) T
 have m_Small_label:=zaO (P:=P) (w:=w) (base:=base) T
 have m_Own_drawn:=zb0 (P:=P) (w:=w) (base:=base) T
 have m_Small_drawn:=zbA (P:=P) (w:=w) (base:=base) T
 refine F.ok zaU (fun vs H Q E h=>?_) (fun cdv A outer s H vs Q E hr h=>?_)
 ·obtain⟨p,xs,rows,d,kv,pl,rfl,_⟩:=h
  rfl
 ·obtain⟨p,xs,rows,d,kv,pl,rfl,hp,hx,R,hd,hv,k⟩:=h
  have r5:=R.r5
  refine⟨_,(zac (zao (i:=2) zaU.nd rfl (by first|exact Or.inl rfl|exact Or.inr rfl) (zaY zad))
   (zac (za4 PassesOwn.never rfl (zaF (pv 0)) (zal (i:=3) zaU.nd rfl (by first|exact Or.inl rfl|exact Or.inr rfl)) (zac (zao (i:=4) zaU.nd rfl (by first|exact Or.inl rfl|exact Or.inr rfl) zaX)
   (zac (za4 PassesOwn.never rfl (zaF (pv 3)) (zal (i:=5) zaU.nd rfl (by first|exact Or.inl rfl|exact Or.inr rfl)) (zac (zao (i:=6) zaU.nd rfl (by first|exact Or.inl rfl|exact Or.inr rfl) (zam zdX zah (zbg (zcu hr) (pv 1) (zaM (zaq (pv 5) T.c_Own m_Own_label (hr.mono (by decide))) (zaq (pv 5) T.c_Small m_Small_label (hr.mono (by decide)))) (fun _ _=>rfl))))
   (zae (zao (i:=4) zaU.nd rfl (by first|exact Or.inl rfl|exact Or.inr rfl) (zam zaG (zam zaG (pv 4) (zam zjS zaX (zam ziN (pv 6) (zay zaS rfl T.n_len zb9 (zaa (pv 4) zad))))) (zaM (zaq (pv 5) T.c_Own m_Own_drawn (hr.mono (by decide))) (zaq (pv 5) T.c_Small m_Small_drawn (hr.mono (by decide)))))))))
   (zae (za3 (zbn PySem.F.plainAttrs_list PySem.F.slot_list_append PySem.F.type_list_append zaH (pv 2) (zaa (pv 4) zad)))))))
   (zae (zap (zbn PySem.F.plainAttrs_str PySem.F.slot_str_join PySem.F.type_str_join zfj zaX (zaa (pv 2) zad)))))),?_⟩
  refine⟨(by show 0≤sizeLine;decide),fun g ng=>?_⟩
  have s1:zaj H (upd H g (.lst [])):=zaj.new ng
  have h1:upd H g (.lst []) g=some (.lst []):=zab
  generalize upd H g (.lst [])=H1 at s1 h1 ⊢
  refine⟨_,rfl,p,rfl,⟨_,SqL.of (s1 _ _ hp)⟩,zbd (K:=K) (a:=p) (xs:=xs) (fun i σ G=>∃ v3 v4 v5 v6,σ=[some (.ref p),some (.ref d),some (.ref g),v3,v4,v5,v6]∧zaj H G∧G g=some (.lst (((rows.take i).map (zaA pl)).map V.str))) ⟨none,none,none,none,rfl,s1,h1⟩ ?_ ?_ ?_⟩
  ·rintro i σ G _ ⟨_,_,_,_,rfl,sg,_⟩
   exact SqL.of (sg _ _ hp)
  ·rintro i x σ G hx' ⟨v3,v4,v5,v6,rfl,sg,hg⟩
   obtain⟨its,e1,r1,zs,rfl,hr1,hz⟩:=hx.get hx'
   have mi:=List.mem_of_getElem? e1
   obtain⟨i5,iok⟩:=R.ok its mi
   have hi:i<rows.length:=(List.getElem?_eq_some_iff.mp e1).1
   have okI:∀ it∈its,InR pl it∧it.Ok:=fun it h=>⟨(hv its mi it h).2,iok it h⟩
   dsimp only[zaI]
   refine⟨_,rfl,r1,rfl,⟨_,SqL.of (sg _ _ hr1)⟩,zbd (K:=K) (a:=r1) (xs:=zs) (fun j σ G'=>G'=G∧∃ v5 v6,σ=[some (.ref p),some (.ref d),some (.ref g),some (.ref r1),some (.str ((its.take j).foldl (zbs pl) (Str.ofString ""))),v5,v6]) ⟨rfl,v5,v6,rfl⟩ ?_ ?_ ?_⟩
   ·rintro j σ G' _ ⟨rfl,_,_,rfl⟩
    exact SqL.of (sg _ _ hr1)
   ·rintro j y σ G' hy ⟨rfl,v5,v6,rfl⟩
    obtain⟨it,e2,b,rfl,ib⟩:=hz.get hy
    have mi2:=List.mem_of_getElem? e2
    have hj:j<its.length:=(List.getElem?_eq_some_iff.mp e2).1
    obtain⟨ir,io⟩:=okI it mi2
    have ll:=zc9 (pl:=pl) (its:=its.take j) (line:=Str.ofString "") (n:=0) (fun z hz=>okI z (List.mem_of_mem_take hz)) (by decide)
    have ln:=zdL ir io ll
    rw[List.length_take] at ll ln
    have ib':=ib.same sg
    dsimp only[zaI]
    refine⟨_,rfl,?_⟩
    refine zbl ib' io (fun Q' h=>⟨_,rfl,h⟩) ?_
    refine⟨d,_,rfl,zbv (k:=Sum.inr it.label) (sg _ _ hd) (hv its mi it mi2).1,_,_,rfl,rfl,.inl ⟨by decide,by decide⟩,?_⟩
    generalize el:(its.take j).foldl (zbs pl) (Str.ofString "")=line at ll ln ⊢
    obtain⟨ir0,ir1⟩:=ir
    refine⟨_,rfl,_,rfl,_,rfl,line,rfl,by rw[sizeLine_eq];omega,_,_,rfl,rfl,bk,_,rfl,rfl,?_,_,_,rfl,rfl,?_,?_⟩
    ·exact PyProof.Rows.mulOk_of 1 2000 (by decide) (by show 10 * pl it.label - (line.length:Int)≤2000;omega) (by show -(2 ^ 63)≤10 * pl it.label - (line.length:Int);omega) (by decide) (by decide)
    ·have e:line.length + (Txt.mul bk (10 * pl it.label - (line.length:Int))).length=(Txt.ljust line (10 * pl it.label)).length:=by rw[← zi2,PySem.Str.length_append]
     have e2:(Txt.ljust line (10 * pl it.label)).length≤(zbs pl line it).length:=by unfold zbs;rw[PySem.Str.length_append];omega
     show line.length + (Txt.mul bk (10 * pl it.label - (line.length:Int))).length≤sizeLine
     rw[e,sizeLine_eq]
     omega
    refine zer ib' io (fun Q' h=>⟨_,rfl,h⟩) ?_
    have ep:line++Txt.mul bk (10 * pl it.label - (line.length:Int))=Txt.ljust line (10 * pl it.label):=zi2 _ _
    refine⟨_,_,rfl,rfl,?_,rfl,some (.ref b),some (.int (10 * pl it.label)),?_⟩
    ·show(line++Txt.mul bk (10 * pl it.label - (line.length:Int))).length + it.drawn.length≤sizeLine
     rw[ep,← PySem.Str.length_append,sizeLine_eq]
     have:(zbs pl line it).length≤5000:=by omega
     unfold zbs at this
     omega
    ·rw[zak e2,List.foldl_append,el]
     show _=[_,_,_,_,some (V.str (Txt.ljust line (10 * pl it.label)++it.drawn)),_,_]
     rw[← ep]
     rfl
   ·rintro σ G' ⟨rfl,v5,v6,rfl⟩
    rw[hz.len,List.take_length]
    refine⟨_,rfl,.inl ⟨rfl,_,SqL.of hg⟩,_,rfl,g,_,_,rfl,rfl,hg,by rw[List.length_map,List.length_map,List.length_take,sizeLine_eq];omega,?_⟩
    refine⟨_,_,_,_,rfl,zaw ng sg,?_⟩
    rw[zab,zak e1,List.map_append,List.map_append]
    rfl
  ·rintro σ G ⟨v3,v4,v5,v6,rfl,sg,hg⟩
   rw[hx.len,List.take_length] at hg
   refine⟨rfl,_,rfl,_,g,_,rfl,rfl,SqL.of hg,?_,k G sg⟩
   have:=zfX (f:=fun s:Str=>s.length) (n:=2040) (l:=rows.map (zaA pl)) fun x hx=>by
    obtain⟨r,hr,rfl⟩:=List.mem_map.mp hx
    exact zdM (fun it hi=>⟨(hv r hr it hi).2,(R.ok r hr).2 it hi⟩) (R.ok r hr).1
   rw[List.length_map] at this ⊢
   rw[show(Str.ofString "\n").length=1 from rfl]
   omega
def zkc (a:Adr):Sp:=fun vs H Q _=>∃ p xs rows d kv pl,vs=[.ref p,.ref d]∧H p=some (.lst xs)∧WsV a H xs rows∧zcK rows∧H d=some (.dK kv)∧(∀ r∈rows,∀ it∈r,Vl kv pl it.label) ∧
 ((∀ r∈rows,∀ it∈r,InR pl it)→∀ H',zaj H H'→Q (.str (pic pl rows)) H')∧((∃ r∈rows,∃ it∈r,¬ InR pl it)→∀ H',zaj H H'→Q .non H')
theorem ziH (T:Tx K mg a):Cal P w K mg base CX0 5 "_law_drawn" ["_law_rows_here","_law_places_here"] [] (zkc a):=T.d__law_drawn.cal fun f fd F=>by
 have c_picture:=zgo (P:=P) (w:=w) (base:=base) T
 refine F.ok zep (fun vs H Q E h=>?_) (fun cdv A outer s H vs Q E hr h=>?_)
 ·obtain⟨p,xs,rows,d,kv,pl,rfl,_⟩:=h
  rfl
 ·obtain⟨p,xs,rows,d,kv,pl,rfl,hp,hx,R,hd,hv,k1,k2⟩:=h
  refine⟨_,(zae (ziU ⟨rfl,rfl⟩ rfl (PHs.one rfl T.g_TooLong T.xb_TooLong T.xt_TooLong (by decide) (fun a H₀=>(zae (zap ziM))) PHs.nil) (fun pn E1 R1 hp1 po1=>(zae (zap (zhc c_picture hp1 (hr.mono (by decide)) rfl (zaa (pv 0) (zaa (pv 1) zad)))))) zaC)),?_⟩
  refine⟨_,rfl,_,rfl,p,xs,rows,d,kv,pl,rfl,hp,hx,R.r5,R.ok,hd,hv,k1,fun hl H1 s1=>?_⟩
  refine⟨a.TooLong,true,rfl,T.mr_TooLong_TooLong,zgY (fun x ob hx ho hdd hf=>?_)⟩
  exact k2 hl _ (s1.trans (zaj.new hx))
def zhV (K:PySem.W.Frag):Sp:=fun vs H Q _=>∃ s:Str,vs=[.str s]∧s.length≤100000 ∧
 (bad (Txt.split s nl)=none→∀ l ys H',zaj H H'→H l=none→H' l=some (.lst ys)→F2 (RAt K H') ys ((Txt.split s nl).map zfW)→Q (.ref l) H')∧(∀ i:Nat,bad (Txt.split s nl)=some i→∀ H',zaj H H'→Q (.int (i:Int)) H')
theorem ziI (T:Tx K mg a):Cal P w K mg base CX0 5 "_law_read" ["_law_text_here"] [] (zhV K):=T.d__law_read.cal fun f fd F=>by
 have c_read_picture:=zdN (P:=P) (w:=w) (base:=base) T
 refine F.ok zbZ (fun vs H Q E h=>?_) (fun cdv A outer s H vs Q E hr h=>?_)
 ·obtain⟨s,rfl,_⟩:=h
  rfl
 ·obtain⟨s,rfl,sl,k1,k2⟩:=h
  refine⟨_,(zac (ziU ⟨rfl,rfl⟩ rfl (PHs.as_ (i:=2) rfl T.g_NoLine T.xb_NoLine T.xt_NoLine (by decide) zbZ.nd rfl rfl (fun a H₀=>(zac (zbJ (PW.pt (zeA (zfy (zdW (zay (zcA (K:=K) rfl) rfl T.n_isinstance za5 (zaa (pv 2) (zaa (ziS rfl T.g_DrawError) zad))))) (zde (zdW (zay (zcA (K:=K) rfl) rfl T.n_isinstance za5 (zaa (pv 2) (zaa (ziS rfl T.g_TooLong) zad))))))) (zae (zap ziM)) zaC)
   (zae (zap (zik (K:=K) rfl (pv 2) rfl))))) PHs.nil) (fun pn E1 R1 hp1 po1=>(zae (zao (i:=1) zbZ.nd rfl (by first|exact Or.inl rfl|exact Or.inr rfl) (zhc c_read_picture hp1 (hr.mono (by decide)) rfl (zaa (pv 0) zad))))) zaC)
   (zae (zap (pv 1)))),?_⟩
  refine⟨_,rfl,s,rfl,sl,fun hb l ys H1 s1 n1 h1 f1=>⟨_,rfl,k1 hb l ys H1 s1 n1 h1 f1⟩,fun i hb H1 d s1 hd=>?_⟩
  refine⟨a.NoLine,true,rfl,T.mr_NoLine_NoLine,zgY (fun x ob hx ho hdd hf=>?_)⟩
  have s2:zaj H1 (upd H1 x (.frz ob (.own x))):=zaj.new hx
  have ix:IsX (upd H1 x (.frz ob (.own x))) x a.NoLine (some d):=⟨ob,.own x,zab,ho,hdd,hf⟩
  have hd2:=s2 _ _ hd
  refine⟨_,rfl,x,a.NoLine,some d,_,_,true,rfl,ix,⟨_,hd2⟩,T.is_NoLine,(fun _ r=>r),T.kt_NoLine_DrawError,_,rfl,zhq rfl ?_⟩
  refine⟨_,rfl,x,a.NoLine,some d,_,_,false,rfl,ix,⟨_,hd2⟩,T.is_NoLine,(fun _ r=>r),T.kt_NoLine_TooLong,_,rfl,?_⟩
  refine⟨_,rfl,x,a.NoLine,d,_,_,rfl,ix,hd2,T.xg_NoLine_number,lk0,?_⟩
  exact k2 i hb _ (s1.trans s2)
theorem zdc {H:Hp}:∀ ls:List Str,zbr K H (ls.map Dt.str) (ls.map V.str)
 | []=>rfl
 | s::ls=>⟨_,_,rfl,rfl,zdc ls⟩
theorem zdQ {n:Nat} (ls:List Str):zbD (n + 1) (.lst (ls.map Dt.str)):=zcz (fun _=>by cases n <;> trivial) _
theorem zhW:∀ ls:List Str,eqD (.lst (ls.map Dt.str)) (.lst [])=decide (ls=[])
 | []=>rfl
 | _::_=>rfl
theorem zkd {z:Str}{c:Nat} (h:(cl z).getLast?=some c):atI z.cps.toList (-1)=some c:=by
 have hl:0<(cl z).length:=by
  cases e:cl z with
  | nil=>rw[e] at h;cases h
  | cons _ _=>simp
 rw[List.getLast?_eq_getElem?] at h
 unfold atI ixN
 have hl':0<z.cps.toList.length:=hl
 rw[if_neg (by decide),if_pos (by omega)]
 show z.cps.toList[_]?=_
 rw[show((-1:Int) + (z.cps.toList.length:Int)).toNat=z.cps.toList.length - 1 by omega]
 exact h
def spDue (K:PySem.W.Frag):Sp:=zhV K
theorem ziJ (w:Str) (i:Nat):((((cl w).take i).filter fun c=>!small c).map fun c=>(⟨#[c]⟩:Str)).length≤w.length:=by
 rw[List.length_map]
 refine Nat.le_trans (List.length_filter_le _ _) ?_
 rw[List.length_take,zbH]
 omega
set_option maxHeartbeats 1000000 in
theorem ok_due (T:Tx K mg a):Cal P w K mg base CX0 2 "_law_due" ["_law_text_here"] [] (spDue K):=T.d__law_due.cal fun f fd F=>by
 have c__law_words:=ze6 (P:=P) (w:=w) (base:=base) T
 refine F.ok zaV (fun vs H Q E h=>?_) (fun cdv A outer s H vs Q E hr h=>?_)
 ·obtain⟨s,rfl,_⟩:=h
  rfl
 ·obtain⟨s,rfl,sl,k1,k2⟩:=h
  have wl:=zco (y:=nl) sl
  refine⟨_,(zac (zao (i:=1) zaV.nd rfl (by first|exact Or.inl rfl|exact Or.inr rfl) (zaY zad))
   (zac (za4 PassesOwn.never rfl (za1 rfl T.n_enumerate (zaa (zbn PySem.F.plainAttrs_str PySem.F.slot_str_split PySem.F.type_str_split zc8 (pv 0) (zaa zaX zad)) zad)) (zcq rfl (zar (zal (i:=2) zaV.nd rfl (by first|exact Or.inl rfl|exact Or.inr rfl)) (zar (zal (i:=3) zaV.nd rfl (by first|exact Or.inl rfl|exact Or.inr rfl)) zbm))) (zac (zao (i:=4) zaV.nd rfl (by first|exact Or.inl rfl|exact Or.inr rfl) (zaY zad))
   (zac (za4 PassesOwn.never rfl (zaF (zaE c__law_words (hr.mono (by decide)) rfl (zaa (pv 3) zad))) (zcq rfl (zar (zal (i:=5) zaV.nd rfl (by first|exact Or.inl rfl|exact Or.inr rfl)) (zar (zal (i:=6) zaV.nd rfl (by first|exact Or.inl rfl|exact Or.inr rfl)) zbm))) (zac (zg1 (i:=7) zaV.nd rfl rfl (N:=["_law_sign"]) (cap:=[none]) rfl (zbC (osc:=zag zcQ) (XN:=["_law_text_here","_law_rows_here","_law_number","_law_line","_law_row","_law_word","_law_at","_law_odd"]) rfl rfl (by decide +kernel)) (ziV (pv 5)) (fun cl C s H fp pins=>(zal (i:=0) (show(["_law_sign"]:List Str).Nodup by decide +kernel) rfl (by first|exact Or.inl rfl|exact Or.inr rfl))) (fun cl C s H fp pins=>zgZ (zat zeJ (pv 0) zaX (by with_unfolding_all rfl))) (fun cl C s H fp pins=>(pv 0)) (hsw:=rfl))
   (zac (zbJ (PW.pt (zeA (zat zf4 (zam zaL (pv 6) zah) zah (zaz _)) (zde (PW.pt (zgC (zat zf4 (pv 5) zaX (zaz _)) (zfd (PW.pt (zeA (zat (zd2 hr.units) (pv 7) (zaY zad) (zaz _)) (zde (zat zjg (zay zaS rfl T.n_len zb9 (zaa (pv 5) zad)) zah (zaz _))))))))))) (zae (zap (pv 2))) zaC)
   (zae (za3 (zbn PySem.F.plainAttrs_list PySem.F.slot_list_append PySem.F.type_list_append zaH (pv 4) (zaa (zbQ (zaa (pv 5) (zaa (zam zbK (pv 6) zah) zad))) zad)))))))
   (zac (zbJ (PW.pt (zgC (zat zf4 (pv 3) zaX (zaz _)) (zfd (zat zeC (zbR zfF (pv 3) (zje zgF zah) (fun _ _=>rfl)) zaX (zaz _))))) (zae (zap (pv 2))) zaC)
   (zae (za3 (zbn PySem.F.plainAttrs_list PySem.F.slot_list_append PySem.F.type_list_append zaH (pv 1) (zaa (pv 4) zad))))))))
   (zae (zap (pv 1))))),?_⟩
  refine⟨(by show 0≤sizeLine;decide),fun g ng=>?_⟩
  have s1:zaj H (upd H g (.lst [])):=zaj.new ng
  have h1:upd H g (.lst []) g=some (.lst []):=zab
  generalize upd H g (.lst [])=H1 at s1 h1 ⊢
  refine⟨_,rfl,rfl,s,nl,rfl,rfl,rfl,zix sl,fun p np=>?_⟩
  have s2:zaj H1 (upd H1 p (.lst ((Txt.split s nl).map V.str))):=zaj.new np
  have h2:upd H1 p (.lst ((Txt.split s nl).map V.str)) p=some (.lst ((Txt.split s nl).map V.str)):=zab
  have h2g:=s2 _ _ h1
  have pg:p≠g:=fun z=>by rw[z,h1] at np;cases np
  generalize upd H1 p (.lst ((Txt.split s nl).map V.str))=H2 at s2 h2 h2g ⊢
  have s12:=s1.trans s2
  refine⟨p,rfl,⟨_,SqL.of h2⟩,zb4 (K:=K) (l:=p) (xs:=(Txt.split s nl).map V.str) (fun i σ G=>∃ v2 v3 v4 v5 v6 v7 ys,σ=[some (.str s),some (.ref g),v2,v3,v4,v5,v6,v7]∧zaj H G∧G p=some (.lst ((Txt.split s nl).map V.str))∧G g=some (.lst ys)∧F2 (fun v l=>RAt K G v l∧v≠.ref g) ys (((Txt.split s nl).take i).map zfW)∧∀ x∈(Txt.split s nl).take i,zaD x=true) ⟨none,none,none,none,none,none,[],rfl,s12,h2,h2g,trivial,fun _ h=>by simp at h⟩ ?_ ?_ ?_⟩
  ·rintro i σ G _ ⟨_,_,_,_,_,_,_,rfl,_,hp,_⟩
   exact SqL.of hp
  ·rintro i x t σ G hx nt ⟨v2,v3,v4,v5,v6,v7,ys,rfl,sg,hp,hg,fy,pb⟩
   obtain⟨z,hz,rfl⟩:=zby hx
   have hi:i<(Txt.split s nl).length:=(List.getElem?_eq_some_iff.mp hz).1
   have zl:z.length≤100000:=Nat.le_trans (PyProof.Rows.part_short (List.mem_of_getElem? hz)) sl
   have wz:=zco (y:=bk) zl
   have wz2:(zbi z).length≤100002:=Nat.le_trans (zea _ _) wz
   have yl:ys.length≤100002:=by
    rw[fy.len,List.length_map,List.length_take]
    omega
   have st:zaj G (upd G t (.tup [.int (i:Int),.str z])):=zaj.new nt
   have ht:SqT K (upd G t (.tup [.int (i:Int),.str z])) t [.int (i:Int),.str z]:=SqT.of zab
   generalize upd G t (.tup [.int (i:Int),.str z])=G1 at st ht ⊢
   refine⟨t,_,rfl,ht,rfl,_,_,rfl,_,_,rfl,rfl,?_⟩
   dsimp only[zaI]
   refine⟨(by show 0≤sizeLine;decide),fun rw_ nrw=>?_⟩
   have sw:zaj G1 (upd G1 rw_ (.lst [])):=zaj.new nrw
   have hw:upd G1 rw_ (.lst []) rw_=some (.lst []):=zab
   have rg:rw_≠g:=Ne.symm (zai (st _ _ hg) nrw)
   generalize upd G1 rw_ (.lst [])=G2 at sw hw ⊢
   refine⟨_,rfl,z,rfl,zl,fun l zs G3 s3 n3 h3 d3=>?_⟩
   have no:zaD z=false→∀ H',zaj H H'→Q (.int (i:Int)) H':=fun e=>k2 i (zfY hz e pb)
   have sB:=(sg.trans st).trans (sw.trans s3)
   refine⟨l,rfl,⟨_,SqL.of h3⟩,zbd (K:=K) (a:=l) (xs:=zs) (fun j σ G'=>∃ v5 v6 v7 us,σ=[some (.str s),some (.ref g),some (.int (i:Int)),some (.str z),some (.ref rw_),v5,v6,v7]∧zaj G1 G'∧G' l=some (.lst zs)∧zbr K G' ((zbi z).map wdD) zs∧G' rw_=some (.lst us)∧zbr K G' ((((zbi z).take j).map fun p=>(p.1,p.2 / 10)).map wdD) us∧∀ p∈(zbi z).take j,ze1 p=false) ⟨v5,v6,v7,[],rfl,sw.trans s3,h3,d3,s3 _ _ hw,rfl,fun _ h=>by simp at h⟩ ?_ ?_ ?_⟩
   ·rintro j σ G' _ ⟨_,_,_,_,rfl,_,hl,_⟩
    exact SqL.of hl
   ·rintro j y σ G' hy ⟨v5,v6,v7,us,rfl,sg',hl,dl,hr',du,wb⟩
    obtain⟨q,t',hq,rfl,ht'⟩:=zj3 dl hy
    have hj:j<(zbi z).length:=(List.getElem?_eq_some_iff.mp hq).1
    have ul:us.length≤100002:=by
     rw[← zbc du,List.length_map,List.length_map,List.length_take]
     omega
    have ql:q.1.length≤100000:=Nat.le_trans (PyProof.Rows.part_short (zfV _ _ q (List.mem_of_getElem? hq)).2) zl
    refine⟨t',_,rfl,ht',rfl,_,_,rfl,_,_,rfl,rfl,?_⟩
    dsimp only[zaI]
    refine⟨_,rfl,q.1,rfl,fun D hD=>?_⟩
    refine zfQ (x:=q.1) (fun m τ G4=>∃ v,τ=[v]∧zaj G' G4∧G4 D=some (.lst (((((cl q.1).take m).filter fun c=>!small c).map fun c=>(⟨#[c]⟩:Str)).map V.str))) ⟨none,rfl,zaj.new hD,zab⟩ ?_ ?_
    ·rintro m c τ G4 hc ⟨v,rfl,sm,hl4⟩
     have hc':(cl q.1)[m]?=some c:=by
      show q.1.cps.toList[m]?=_
      rw[Array.getElem?_toList]
      exact hc
     have ol:=ziJ q.1 m
     dsimp only[zaI]
     refine⟨_,rfl,_,_,rfl,rfl,_,rfl,?_⟩
     refine zcl (fun c1=>?_) (fun c1=>?_)
     ·have e:(!small c)=true:=c1
      refine⟨_,rfl,_,hl4,by rw[List.length_map,sizeLine_eq];omega,_,rfl,zaw hD sm,?_⟩
      rw[zab,zak hc',List.filter_append,List.map_append,List.map_append,show[c].filter (fun c=>!small c)=[c] from List.filter_cons_of_pos (p:=fun c=>!small c) e]
      rfl
     ·have e:¬ (!small c)=true:=by rw[show(!small c)=false from c1];decide
      refine⟨_,rfl,sm,?_⟩
      rw[zak hc',List.filter_append,show[c].filter (fun c=>!small c)=[] from List.filter_cons_of_neg (p:=fun c=>!small c) e,List.append_nil]
      exact hl4
    rintro τ G4 ⟨v,rfl,sm,hl4⟩
    rw[List.take_of_length_le (show(cl q.1).length≤q.1.cps.size by rw[zbH];exact Nat.le_refl _)] at hl4
    have hl4':G4 D=some (.lst ((odd q.1).map V.str)):=hl4
    have bad1:ze1 q=true→∀ H',zaj H H'→Q (.int (i:Int)) H':=fun e=>no (by
     rw[zb6,show(zbi z).any ze1=true from List.any_eq_true.mpr ⟨q,List.mem_of_getElem? hq,e⟩]
     rfl)
    have sH:=(sg.trans st).trans sg'
    have more:∀ G5,zaj G' G5→ze1 q=false→∀ t2,G5 t2=none→(upd G5 t2 (.tup [.str q.1,.int (q.2 / 10)])) rw_=some (.lst us)∧us.length<sizeLine∧∀ G6,G6=upd (upd G5 t2 (.tup [.str q.1,.int (q.2 / 10)])) rw_ (.lst (us++[.ref t2]))→zaj G1 G6∧G6 l=some (.lst zs)∧zbr K G6 ((zbi z).map wdD) zs∧G6 rw_=some (.lst (us++[.ref t2]))∧zbr K G6 ((((zbi z).take (j + 1)).map fun p=>(p.1,p.2 / 10)).map wdD) (us++[.ref t2])∧∀ p∈(zbi z).take (j + 1),ze1 p=false:=fun G5 s5 eb t2 nt2=>by
     obtain⟨g1,g2,g3⟩:=zi4 (d:=wdD (q.1,q.2 / 10)) (vs:=[.str q.1,.int (q.2 / 10)]) nrw (sg'.trans s5) (s5 _ _ hr') (s5.dts du) (zcU _) nt2 fun H' h=>zhN h
     refine⟨g1,by rw[sizeLine_eq];omega,?_⟩
     rintro _ rfl
     have lr:l≠rw_:=fun e=>by rw[e,hw] at n3;cases n3
     have l2:l≠t2:=zai (s5 _ _ hl) nt2
     have tk:Tk (upd G5 t2 (.tup [.str q.1,.int (q.2 / 10)])) (upd (upd G5 t2 (.tup [.str q.1,.int (q.2 / 10)])) rw_ (.lst (us++[.ref t2]))):=Tk.upd g1 rfl
     refine⟨g2,by rw[zaf lr,zaf l2];exact s5 _ _ hl,tk.dts (zcU _) ((zaj.new nt2).dts (s5.dts dl)),zab,?_,fun p hp'=>?_⟩
     ·rw[zak hq,List.map_append,List.map_append]
      exact g3
     ·rw[zak hq] at hp'
      rcases List.mem_append.mp hp' with h|h
      ·exact wb p h
      ·rw[List.mem_singleton.mp h]
       exact eb
    refine⟨_,rfl,_,_,rfl,rfl,(by show(0:Int)<10;decide),rfl,_,rfl,?_⟩
    refine zcl (fun c1=>?_) (fun c1=>?_)
    ·refine zgY ⟨_,rfl,bad1 ?_ _ (sH.trans sm)⟩
     have e:q.2 % 10≠0:=by simpa using c1
     unfold ze1
     rw[decide_eq_true e]
     rfl
    have e1:decide (q.2 % 10≠0)=false:=by
     have e:q.2 % 10=0:=by simpa using c1
     exact decide_eq_false (fun z=>z e)
    refine⟨_,rfl,rfl,_,rfl,?_⟩
    refine zcl (fun c2=>?_) (fun c2=>?_)
    ·have e2:q.1≠Str.ofString ".":=by simpa using c2
     refine⟨_,rfl,(by show 0≤sizeLine;decide),fun e ne=>?_⟩
     have s5:zaj G4 (upd G4 e (.lst [])):=zaj.new ne
     have h5:upd G4 e (.lst []) e=some (.lst []):=zab
     generalize upd G4 e (.lst [])=G5 at s5 h5 ⊢
     have s45:=sm.trans s5
     refine⟨.lst ((odd q.1).map Dt.str),.lst [],rfl,rfl,⟨D,_,rfl,SqL.of (s5 _ _ hl4'),zdc _⟩,⟨e,_,rfl,SqL.of h5,rfl⟩,zdQ _,_,rfl,?_⟩
     rw[zhW]
     refine zcl (fun c3=>?_) (fun c3=>?_)
     ·refine zgY ⟨_,rfl,bad1 ?_ _ (sH.trans s45)⟩
      have e3:odd q.1≠[]:=by simpa using c3
      unfold ze1
      rw[e1,decide_eq_true e2,decide_eq_true e3]
      rfl
     ·have e3:decide (odd q.1≠[])=false:=by
       have e:odd q.1=[]:=by simpa using c3
       exact decide_eq_false (fun z=>z e)
      refine⟨_,rfl,q.1,rfl,by rw[sizeLine_eq];omega,_,_,rfl,rfl,_,rfl,?_⟩
      refine zcl (fun c4=>?_) (fun c4=>?_)
      ·refine⟨_,rfl,bad1 ?_ _ (sH.trans s45)⟩
       have e4:(8:Int)<q.1.length:=of_decide_eq_true c4
       unfold ze1
       rw[e1,decide_eq_true e2,e3,decide_eq_true (show 8<q.1.length by omega)]
       rfl
      ·have e4:¬ (8:Int)<q.1.length:=of_decide_eq_false c4
       have eb:ze1 q=false:=by
        unfold ze1
        rw[e1,e3,decide_eq_false (show ¬ 8<q.1.length by omega),Bool.or_false,Bool.and_false]
        rfl
       refine⟨_,rfl,.inl ⟨rfl,_,SqL.of (s45 _ _ hr')⟩,_,rfl,_,rfl,_,_,rfl,rfl,⟨by decide,by decide⟩,(by show 2≤sizeLine;decide),fun t2 nt2=>?_⟩
       obtain⟨m1,m2,m3⟩:=more G5 s45 eb t2 nt2
       exact⟨rw_,us,_,rfl,rfl,m1,m2,_,_,_,_,rfl,m3 _ rfl⟩
    ·have e2:¬ q.1≠Str.ofString ".":=fun z=>z (by simpa using c2)
     have eb:ze1 q=false:=by
      unfold ze1
      rw[e1,decide_eq_false e2]
      rfl
     refine iteF ?_
     refine⟨_,rfl,.inl ⟨rfl,_,SqL.of (sm _ _ hr')⟩,_,rfl,_,rfl,_,_,rfl,rfl,⟨by decide,by decide⟩,(by show 2≤sizeLine;decide),fun t2 nt2=>?_⟩
     obtain⟨m1,m2,m3⟩:=more G4 sm eb t2 nt2
     exact⟨rw_,us,_,rfl,rfl,m1,m2,_,_,_,_,rfl,m3 _ rfl⟩
   ·rintro σ G' ⟨v5,v6,v7,us,rfl,sg',hl,dl,hr',du,wb⟩
    rw[← zbc d3,List.length_map,List.take_length] at du wb
    have hg':=(st.trans sg') _ _ hg
    have sA:=(sg.trans st).trans sg'
    have wall:(zbi z).any ze1=false:=List.any_eq_false.mpr fun p hp'=>by rw[wb p hp'];decide
    have fin:zaD z=true→g≠rw_∧ys.length<sizeLine∧∀ G6,G6=upd G' g (.lst (ys++[.ref rw_]))→zaj H G6∧G6 p=some (.lst ((Txt.split s nl).map V.str))∧G6 g=some (.lst (ys++[.ref rw_]))∧F2 (fun v l=>RAt K G6 v l∧v≠.ref g) (ys++[.ref rw_]) (((Txt.split s nl).take (i + 1)).map zfW)∧∀ x∈(Txt.split s nl).take (i + 1),zaD x=true:=fun ep=>by
     refine⟨Ne.symm rg,by rw[sizeLine_eq];omega,?_⟩
     rintro _ rfl
     have tk:Tk G' (upd G' g (.lst (ys++[.ref rw_]))):=Tk.upd hg' rfl
     refine⟨zaw ng sA,by rw[zaf pg];exact(st.trans sg') _ _ hp,zab,?_,fun x hx'=>?_⟩
     ·rw[zak hz,List.map_append]
      have f1:F2 (fun v l=>RAt K (upd G' g (.lst (ys++[.ref rw_]))) v l∧v≠.ref g) ys (((Txt.split s nl).take i).map zfW):=fy.mono fun v l ⟨⟨r,us',ev,hr,dr⟩,nv⟩=>⟨⟨r,us',ev,by rw[zaf (fun z=>nv (by rw[ev,z]))];exact(st.trans sg') _ _ hr,tk.dts (zcU _) ((st.trans sg').dts dr)⟩,nv⟩
      exact f1.snoc ⟨⟨rw_,us,rfl,by rw[zaf rg];exact hr',tk.dts (zcU _) du⟩,fun z=>rg (by cases z;rfl)⟩
     ·rw[zak hz] at hx'
      rcases List.mem_append.mp hx' with h|h
      ·exact pb x h
      ·rw[List.mem_singleton.mp h]
       exact ep
    refine⟨_,rfl,rfl,_,rfl,?_⟩
    refine zcl (fun c1=>?_) (fun c1=>?_)
    ·have zn:z≠Str.ofString "":=by simpa using c1
     obtain⟨ch,hch⟩:∃ ch,(cl z).getLast?=some ch:=by
      cases e:(cl z).getLast? with
      | none=>exact absurd (len0 (by rw[← zbH,List.getLast?_eq_none_iff.mp e];rfl)) zn
      | some ch=>exact⟨ch,rfl⟩
     refine⟨_,rfl,_,rfl,z,_,ch,rfl,rfl,by rw[sizeLine_eq];omega,zkd hch,rfl,_,rfl,?_⟩
     have eb:decide (V.str (⟨#[ch]⟩:Str)=V.str (Str.ofString " "))=zbx z:=by
      unfold zbx
      rw[hch,show Str.ofString " "=(⟨#[32]⟩:Str) from ziv]
      simp
     rw[eb]
     refine zcl (fun c2=>?_) (fun c2=>?_)
     ·refine⟨_,rfl,no ?_ _ sA⟩
      rw[zb6,c2,Bool.or_true]
      rfl
     ·obtain⟨f1,f2,f3⟩:=fin (by rw[zb6,wall,c2];rfl)
      exact⟨_,rfl,.inl ⟨rfl,_,SqL.of hg'⟩,_,rfl,g,ys,_,rfl,rfl,hg',f2,_,_,_,_,_,_,_,rfl,f3 _ rfl⟩
    ·have e0:z=Str.ofString "":=by simpa using c1
     obtain⟨f1,f2,f3⟩:=fin (by rw[zb6,wall,e0];decide)
     refine iteF ?_
     exact⟨_,rfl,.inl ⟨rfl,_,SqL.of hg'⟩,_,rfl,g,ys,_,rfl,rfl,hg',f2,_,_,_,_,_,_,_,rfl,f3 _ rfl⟩
  ·rintro σ G ⟨v2,v3,v4,v5,v6,v7,ys,rfl,sg,hp,hg,fy,pb⟩
   rw[List.length_map,List.take_length] at fy pb
   exact⟨_,rfl,k1 (zfZ pb) g ys G sg ng hg (fy.mono fun _ _ h=>h.1)⟩
end
end K71
namespace K71
open PySem L2
theorem cut_to (xs:List V){k:Int} (h0:0≤k):zgu xs none (some k)=xs.take (min k.toNat xs.length):=by
 unfold zgu
 have h2:HT.sIx xs.length xs.length (some ((k.toNat:Nat):Int))=min k.toNat xs.length:=HT.zfe _ _ k.toNat
 rw[show((k.toNat:Nat):Int)=k by omega] at h2
 rw[HT.zib,h2,List.drop_zero,Nat.sub_zero]
def zke (K:PySem.W.Frag) (B G:Hp) (l e:Addr) (pl lev:Str→Int) (ok:Lne→Prop) (ls:List Lne):Prop:=zaj B G∧(∃ ys,G l=some (.lst ys)∧zbr K G (ls.map lnD) ys)∧(∃ zs,G e=some (.lst zs)∧zbr K G (ls.map (edD pl lev)) zs)∧∀ q∈ls,ok q
theorem zke.same {K:PySem.W.Frag}{B G G':Hp}{l e:Addr}{pl lev:Str→Int}{ok:Lne→Prop}{ls:List Lne} (h:zke K B G l e pl lev ok ls) (s:zaj G G'):zke K B G' l e pl lev ok ls:=by
 obtain⟨h1,⟨ys,h2,h3⟩,⟨zs,h4,h5⟩,h6⟩:=h
 exact⟨h1.trans s,⟨ys,s _ _ h2,s.dts h3⟩,⟨zs,s _ _ h4,s.dts h5⟩,h6⟩
section
variable {P:Program}{w:World}{K:PySem.W.Frag}{mg:Str→Option Value}{base:Heap}{a:Adr}
def zhX:Sp:=fun vs H Q _=>∃ (s:Str) (c:Int),vs=[.str s,.int c]∧s.length≤40000∧∀ s':Str,s'.length≤100000→Q (.str s') H
abbrev sgn:Str:=Str.ofString "  .abz\nA1-,"
theorem at_sgn {z:Int} (h1:0≤z) (h2:z<11):∃ c,atI sgn.cps.toList z=some c:=by
 have hl:sgn.cps.toList.length=11:=by decide +kernel
 obtain⟨c,hc⟩:=zbE (l:=sgn.cps.toList) (j:=z.toNat) (by omega)
 exact⟨c,by rw[at_i h1,hc]⟩
theorem zgr (T:Tx K mg a):Cal P w K mg base CX0 1 "_law_changed" ["_law_text_here","_law_cell"] [] zhX:=T.d__law_changed.cal fun f fd F=>by
 refine F.ok zbq (fun vs H Q E h=>?_) (fun cdv A outer s H vs Q E hr h=>?_)
 ·obtain⟨s,c,rfl,_⟩:=h
  rfl
 ·obtain⟨s,c,rfl,sl,k⟩:=h
  have hz:s.length≤sizeLine:=by rw[sizeLine_eq];omega
  have cut:∀ lo hi,(Txt.slice s lo hi).length≤40000:=fun lo hi=>Nat.le_trans (Txt.slice_le s lo hi) sl
  have one:∀ c:Nat,(⟨#[c]⟩:Str).length=1:=fun _=>rfl
  refine⟨_,(zac (zao (i:=2) zbq.nd rfl (by first|exact Or.inl rfl|exact Or.inr rfl) (zam zaL (zam zbK (pv 1) zah) (zam za0 (zay zaS rfl T.n_len zb9 (zaa (pv 0) zad)) zah)))
   (zac (zao (i:=3) zbq.nd rfl (by first|exact Or.inl rfl|exact Or.inr rfl) (zbR zfF zaX (zam zaL (zam zbK (pv 1) zah) zah) (fun _ _=>rfl)))
   (zac (zbJ (zat zeC (zam zaL (pv 1) zah) zah (zaz _)) (zae (zap (zam zaG (zam zaG (zbu zd6 (pv 0) zcf (zbL (pv 2))) (pv 3)) (zbu zd6 (pv 0) (zbL (pv 2)) zcf)))) zaC)
   (zac (zbJ (zat zeC (zam zaL (pv 1) zah) zah (zaz _)) (zae (zap (zam zaG (zbu zd6 (pv 0) zcf (zbL (pv 2))) (zbu zd6 (pv 0) (zbL (zam za0 (pv 2) zah)) zcf)))) zaC)
   (zae (zap (zam zaG (zam zaG (zbu zd6 (pv 0) zcf (zbL (pv 2))) (pv 3)) (zbu zd6 (pv 0) (zbL (zam za0 (pv 2) zah)) zcf)))))))),?_⟩
  refine⟨_,rfl,_,_,rfl,rfl,⟨by decide,by decide⟩,_,rfl,s,rfl,hz,_,_,rfl,rfl,_,_,rfl,rfl,(by show(0:Int)<(s.length:Int) + 1;omega),?_⟩
  dsimp only
  generalize c / 3 % ((s.length:Int) + 1)=at_
  have z0:0≤c / 7 % 11:=Int.emod_nonneg _ (by decide)
  have z1:c / 7 % 11<11:=Int.emod_lt_of_pos _ (by decide)
  obtain⟨ch,hch⟩:=at_sgn z0 z1
  refine⟨_,rfl,_,_,rfl,rfl,⟨by decide,by decide⟩,_,_,rfl,rfl,(by show(0:Int)<11;decide),sgn,_,_,rfl,rfl,(by decide +kernel),hch,?_⟩
  have c1:=cut none (some at_)
  have c2:=cut (some at_) none
  have c3:=cut (some (at_ + 1)) none
  refine⟨_,rfl,_,_,rfl,rfl,(by show(0:Int)<3;decide),rfl,_,rfl,?_⟩
  refine zcl (fun _=>?_) (fun _=>?_)
  ·refine⟨_,rfl,_,rfl,_,rfl,_,rfl,hz,_,rfl,_,_,rfl,rfl,?_,_,rfl,_,rfl,_,rfl,_,rfl,hz,_,_,rfl,rfl,?_,k _ ?_⟩
   ·rw[one,sizeLine_eq]
    omega
   ·rw[PySem.Str.length_append,one,sizeLine_eq]
    omega
   ·rw[PySem.Str.length_append,PySem.Str.length_append,one]
    omega
  refine⟨_,rfl,_,_,rfl,rfl,(by show(0:Int)<3;decide),rfl,_,rfl,?_⟩
  refine zcl (fun _=>?_) (fun _=>?_)
  ·refine⟨_,rfl,_,rfl,_,rfl,_,rfl,hz,_,rfl,_,rfl,_,_,rfl,rfl,_,rfl,_,rfl,hz,_,_,rfl,rfl,?_,k _ ?_⟩
   ·rw[sizeLine_eq]
    show(Txt.slice s none (some at_)).length + (Txt.slice s (some (at_ + 1)) none).length≤_
    omega
   ·rw[PySem.Str.length_append]
    show(Txt.slice s none (some at_)).length + (Txt.slice s (some (at_ + 1)) none).length≤_
    omega
  ·refine⟨_,rfl,_,rfl,_,rfl,_,rfl,hz,_,rfl,_,_,rfl,rfl,?_,_,rfl,_,rfl,_,_,rfl,rfl,_,rfl,_,rfl,hz,_,_,rfl,rfl,?_,k _ ?_⟩
   ·rw[one,sizeLine_eq]
    omega
   ·rw[PySem.Str.length_append,one,sizeLine_eq]
    show(Txt.slice s none (some at_)).length + 1 + (Txt.slice s (some (at_ + 1)) none).length≤_
    omega
   ·rw[PySem.Str.length_append,PySem.Str.length_append,one]
    show(Txt.slice s none (some at_)).length + 1 + (Txt.slice s (some (at_ + 1)) none).length≤_
    omega
def LnOk (rows:List (List It)) (kv:Kvs) (pl:Str→Int) (q:Lne):Prop:=Vl kv pl q.1∧Vl kv pl q.2.1∧q.1∈(rows.map zcS).flatten∧q.2.1∈(rows.map zcS).flatten
theorem zi8 {rows:List (List It)}{r:List It}{it:It} (h:r∈rows) (hi:it∈r):it.label∈(rows.map zcS).flatten:=List.mem_flatten.mpr ⟨zcS r,List.mem_map_of_mem h,List.mem_map_of_mem hi⟩
def zgs (K:PySem.W.Frag) (a:Adr):Sp:=fun vs H Q _=>∃ p xs rows d kv pl lev u,∃ us:List Int,vs=[.ref p,.ref d,.ref u]∧H p=some (.lst xs)∧WsV a H xs rows∧zcK rows∧H d=some (.dK kv)∧(∀ r∈rows,∀ it∈r,Vl kv pl it.label)∧zj5 rows lev∧H u=some (.lst (us.map V.int))∧us.length=6 ∧
 ∀ t l e ls H',H' t=some (.tup [.ref l,.ref e])→zke K H H' l e pl lev (LnOk rows kv pl) ls→ls.length≤1000→Q (.ref t) H'
set_option maxHeartbeats 2000000 in
theorem zfx (T:Tx K mg a):Cal P w K mg base CX0 2 "_law_strokes" ["_law_rows_here","_law_places_here","_law_xs"] [] (zgs K a):=T.d__law_strokes.cal fun f fd F=>by
 have m_Own_label:=za2 (P:=P) (w:=w) (base:=base) T
 have m_Small_label:=zaO (P:=P) (w:=w) (base:=base) T
 refine F.ok zav (fun vs H Q E h=>?_) (fun cdv A outer s H vs Q E hr h=>?_)
 ·obtain⟨p,xs,rows,d,kv,pl,lev,u,us,rfl,_⟩:=h
  rfl
 ·obtain⟨p,xs,rows,d,kv,pl,lev,u,us,rfl,hp,hx,R,hd,hv,lo,hu,ul,k⟩:=h
  have r5:=R.r5
  have xl:=hx.len
  refine⟨_,(zac (zao (i:=3) zav.nd rfl (by first|exact Or.inl rfl|exact Or.inr rfl) (zaY zad))
   (zac (zao (i:=4) zav.nd rfl (by first|exact Or.inl rfl|exact Or.inr rfl) (zaY zad))
   (zac (za4 PassesOwn.never rfl (zcr rfl T.n_range (zaa (zam ziN (zay zbS rfl T.n_len zb9 (zaa (pv 0) zad)) zah) zad)) (zal (i:=5) zav.nd rfl (by first|exact Or.inl rfl|exact Or.inr rfl)) (zae (za4 PassesOwn.never rfl (za1 rfl T.n_enumerate (zaa (zbR zba (pv 0) (pv 5) (fun _ _=>rfl)) zad)) (zcq rfl (zar (zal (i:=6) zav.nd rfl (by first|exact Or.inl rfl|exact Or.inr rfl)) (zar (zal (i:=7) zav.nd rfl (by first|exact Or.inl rfl|exact Or.inr rfl)) zbm))) (zae (za4 PassesOwn.never rfl (zaF (zbu zgP (zbR zba (pv 0) (zam za0 (pv 5) zah) (fun _ _=>rfl)) zcf (zbL (zam za0 zah (zam zaL (zbR zba (pv 2) (pv 6) (fun _ _=>rfl)) zah))))) (zal (i:=8) zav.nd rfl (by first|exact Or.inl rfl|exact Or.inr rfl)) (zac (za3 (zbn PySem.F.plainAttrs_list PySem.F.slot_list_append PySem.F.type_list_append zaH (pv 3) (zaa (zbQ (zaa (zaM (zaq (pv 7) T.c_Own m_Own_label (hr.mono (by decide))) (zaq (pv 7) T.c_Small m_Small_label (hr.mono (by decide)))) (zaa (zaM (zaq (pv 8) T.c_Own m_Own_label (hr.mono (by decide))) (zaq (pv 8) T.c_Small m_Small_label (hr.mono (by decide)))) (zaa (zam za0 zah (zam zaL (zbR zba (pv 2) (pv 6) (fun _ _=>rfl)) (zam ziO zah zah))) zad)))) zad)))
   (zac (zao (i:=9) zav.nd rfl (by first|exact Or.inl rfl|exact Or.inr rfl) (zbQ (zaa (zbg (zcu hr) (pv 1) (zaM (zaq (pv 7) T.c_Own m_Own_label (hr.mono (by decide))) (zaq (pv 7) T.c_Small m_Small_label (hr.mono (by decide)))) (fun _ _=>rfl)) (zaa (pv 5) zad))))
   (zae (za3 (zbn PySem.F.plainAttrs_list PySem.F.slot_list_append PySem.F.type_list_append zaH (pv 4) (zaa (zam zjq (pv 9) (zbQ (zaa (zbg (zcu hr) (pv 1) (zaM (zaq (pv 8) T.c_Own m_Own_label (hr.mono (by decide))) (zaq (pv 8) T.c_Small m_Small_label (hr.mono (by decide)))) (fun _ _=>rfl)) (zaa (zam za0 (pv 5) zah) zad)))) zad)))))))))))
   (zae (zap (zbQ (zaa (pv 3) (zaa (pv 4) zad)))))))),?_⟩
  refine⟨(by show 0≤sizeLine;decide),fun l nl_=>?_⟩
  have s1:zaj H (upd H l (.lst [])):=zaj.new nl_
  have h1:upd H l (.lst []) l=some (.lst []):=zab
  generalize upd H l (.lst [])=H1 at s1 h1 ⊢
  refine⟨(by show 0≤sizeLine;decide),fun e ne_=>?_⟩
  have s2:zaj H1 (upd H1 e (.lst [])):=zaj.new ne_
  have h2:upd H1 e (.lst []) e=some (.lst []):=zab
  have h2l:=s2 _ _ h1
  have le_:l≠e:=zai h1 ne_
  have neH:H e=none:=zdO s1 ne_
  generalize upd H1 e (.lst [])=H2 at s2 h2 h2l ⊢
  have s12:=s1.trans s2
  refine⟨_,rfl,p,_,rfl,.inl (SqL.of (s12 _ _ hp)),_,_,rfl,rfl,_,rfl,by rw[xl];omega,by rw[xl];omega,zdg (lo:=0) (n:=((xs.length:Int) - 1).toNat) (fun i σ G=>∃ v5 v6 v7 v8 v9 ls,σ=[some (.ref p),some (.ref d),some (.ref u),some (.ref l),some (.ref e),v5,v6,v7,v8,v9]∧zke K H G l e pl lev (LnOk rows kv pl) ls∧ls.length≤25 * i)
   ⟨none,none,none,none,none,[],rfl,⟨s12,⟨[],h2l,rfl⟩,⟨[],h2,rfl⟩,fun _ h=>by simp at h⟩,Nat.le_refl _⟩ ?_ ?_⟩
  ·rintro i σ G hi ⟨v5,v6,v7,v8,v9,ls,rfl,S,ln⟩
   obtain⟨its,e1⟩:=zbE (l:=rows) (j:=i) (by omega)
   obtain⟨its2,e2⟩:=zbE (l:=rows) (j:=i + 1) (by omega)
   obtain⟨y1,f1,r1,zs,rfl,hr1,hz⟩:=hx.at_ e1
   obtain⟨y2,f2,r2,zs2,rfl,hr2,hz2⟩:=hx.at_ e2
   have m1:=List.mem_of_getElem? e1
   have m2:=List.mem_of_getElem? e2
   obtain⟨i5,iok⟩:=R.ok its m1
   obtain⟨i5',iok2⟩:=R.ok its2 m2
   dsimp only[zaI]
   refine⟨_,rfl,_,rfl,p,_,_,_,rfl,rfl,SqL.of (S.1 _ _ hp),(by rw[at_i (by omega),show(0 + (i:Int)).toNat=i by omega];exact f1),?_⟩
   refine⟨r1,rfl,⟨_,SqL.of (S.1 _ _ hr1)⟩,zb4 (K:=K) (l:=r1) (xs:=zs) (fun j σ G'=>∃ v6 v7 v8 v9 ls,σ=[some (.ref p),some (.ref d),some (.ref u),some (.ref l),some (.ref e),some (.int (0 + (i:Int))),v6,v7,v8,v9]∧zke K H G' l e pl lev (LnOk rows kv pl) ls∧ls.length≤25 * i + 5 * j) ⟨v6,v7,v8,v9,ls,rfl,S,by omega⟩ ?_ ?_ ?_⟩
   ·rintro j σ G' _ ⟨_,_,_,_,_,rfl,S',_⟩
    exact SqL.of (S'.1 _ _ hr1)
   ·rintro j y t σ G' hy nt ⟨v6,v7,v8,v9,ls,rfl,S',ln'⟩
    obtain⟨it,e3,b,rfl,ib⟩:=hz.get hy
    have hj:j<its.length:=(List.getElem?_eq_some_iff.mp e3).1
    have m3:=List.mem_of_getElem? e3
    have io:=iok it m3
    obtain⟨uj,huj,auj⟩:=zeb (ns:=us) (k:=(j:Int)) (by omega) (by omega)
    have st:zaj G' (upd G' t (.tup [.int (j:Int),.ref b])):=zaj.new nt
    have ht:SqT K (upd G' t (.tup [.int (j:Int),.ref b])) t [.int (j:Int),.ref b]:=SqT.of zab
    generalize upd G' t (.tup [.int (j:Int),.ref b])=G1 at st ht ⊢
    have S1:=S'.same st
    refine⟨t,_,rfl,ht,rfl,_,_,rfl,_,_,rfl,rfl,?_⟩
    dsimp only[zaI]
    have z0:0≤uj % 3:=Int.emod_nonneg _ (by decide)
    refine⟨_,rfl,_,rfl,_,_,rfl,rfl,p,_,_,_,rfl,rfl,SqL.of (S1.1 _ _ hp),(by rw[at_i (by omega),show(0 + (i:Int) + 1).toNat=i + 1 by omega];exact f2),_,rfl,_,rfl,u,_,_,_,rfl,rfl,SqL.of (S1.1 _ _ hu),auj,_,_,rfl,rfl,(by show(0:Int)<3;decide),_,_,rfl,rfl,_,rfl,r2,_,rfl,SqL.of (S1.1 _ _ hr2),fun c nc=>?_⟩
    rw[cut_to zs2 (show 0≤1 + uj % 3 by omega)]
    generalize hn:min (1 + uj % 3).toNat zs2.length=n
    have hcI:=F2.take n hz2
    have s3:zaj G1 (upd G1 c (.lst (zs2.take n))):=zaj.new nc
    have h3:upd G1 c (.lst (zs2.take n)) c=some (.lst (zs2.take n)):=zab
    have cl_:c≠l:=fun z=>by
     obtain⟨ys,h,_⟩:=S1.2.1
     rw[z,h] at nc
     cases nc
    have ce:c≠e:=fun z=>by
     obtain⟨ys,h,_⟩:=S1.2.2.1
     rw[z,h] at nc
     cases nc
    generalize upd G1 c (.lst (zs2.take n))=G2 at s3 h3 ⊢
    refine⟨c,rfl,⟨_,SqL.of h3⟩,zbd (K:=K) (a:=c) (xs:=zs2.take n) (fun m σ G3=>∃ v8 v9 ls,σ=[some (.ref p),some (.ref d),some (.ref u),some (.ref l),some (.ref e),some (.int (0 + (i:Int))),some (.int (j:Int)),some (.ref b),v8,v9]∧G3 c=some (.lst (zs2.take n))∧zke K H G3 l e pl lev (LnOk rows kv pl) ls∧ls.length≤25 * i + 5 * j + m) ⟨v8,v9,ls,rfl,h3,S1.same s3,by omega⟩ ?_ ?_ ?_⟩
    ·rintro m σ G3 _ ⟨_,_,_,rfl,hc,_⟩
     exact SqL.of hc
    ·rintro m y σ G3 hy ⟨v8,v9,ls,rfl,hc,S3,ln3⟩
     obtain⟨it2,e4,b2,rfl,ib2⟩:=hcI.get hy
     have m4:it2∈its2:=List.mem_of_mem_take (List.mem_of_getElem? e4)
     have hm:m<its2.length:=by
      have:=(List.getElem?_eq_some_iff.mp e4).1
      rw[List.length_take] at this
      omega
     have io2:=iok2 it2 m4
     have jb:=ib.same S3.1
     have jb2:=ib2.same S3.1
     obtain⟨sH,⟨ys,hl,dl⟩,⟨ws,he,de⟩,okq⟩:=S3
     have yl:ys.length≤1000:=by
      rw[← zbc dl,List.length_map]
      omega
     have wl:ws.length≤1000:=by
      rw[← zbc de,List.length_map]
      omega
     dsimp only[zaI]
     refine⟨_,rfl,.inl ⟨rfl,_,SqL.of hl⟩,?_⟩
     refine zbl jb io (fun Q' h=>⟨_,rfl,h⟩) ?_
     refine zbl jb2 io2 (fun Q' h=>⟨_,rfl,h⟩) ?_
     refine⟨_,rfl,_,rfl,u,_,_,_,rfl,rfl,SqL.of (sH _ _ hu),auj,_,_,rfl,rfl,⟨by decide,by decide,by decide⟩,_,_,rfl,rfl,(by show(0:Int)<10 ^ 6;decide),_,_,rfl,rfl,(by show 3≤sizeLine;decide),fun t1 nt1=>?_⟩
     dsimp only
     generalize (1:Int) + uj % 10 ^ Int.toNat 6=wt
     obtain⟨g1,g2,g3⟩:=zi4 (d:=lnD (it.label,it2.label,wt)) (vs:=[.str it.label,.str it2.label,.int wt]) nl_ sH hl dl (zj4 _) nt1 fun H' h=>dt_ln h
     have ct1:c≠t1:=zai hc nt1
     have et1:e≠t1:=zai he nt1
     refine⟨l,ys,_,rfl,rfl,g1,by rw[sizeLine_eq];omega,?_⟩
     have tk1:Tk (upd G3 t1 (.tup [.str it.label,.str it2.label,.int wt])) (upd (upd G3 t1 (.tup [.str it.label,.str it2.label,.int wt])) l (.lst (ys++[.ref t1]))):=Tk.upd g1 rfl
     have de4:zbr K (upd (upd G3 t1 (.tup [.str it.label,.str it2.label,.int wt])) l (.lst (ys++[.ref t1]))) (ls.map (edD pl lev)) ws:=tk1.dts (ziz pl lev _) ((zaj.new nt1).dts de)
     have hc4:upd (upd G3 t1 (.tup [.str it.label,.str it2.label,.int wt])) l (.lst (ys++[.ref t1])) c=some (.lst (zs2.take n)):=by rw[zaf cl_,zaf ct1];exact hc
     have he4:upd (upd G3 t1 (.tup [.str it.label,.str it2.label,.int wt])) l (.lst (ys++[.ref t1])) e=some (.lst ws):=by rw[zaf (Ne.symm le_),zaf et1];exact he
     have hl4:upd (upd G3 t1 (.tup [.str it.label,.str it2.label,.int wt])) l (.lst (ys++[.ref t1])) l=some (.lst (ys++[.ref t1])):=zab
     dsimp only
     generalize upd (upd G3 t1 (.tup [.str it.label,.str it2.label,.int wt])) l (.lst (ys++[.ref t1]))=G4 at g2 g3 de4 hc4 he4 hl4 ⊢
     have kb:=ib.same g2
     have kb2:=ib2.same g2
     refine⟨_,rfl,?_⟩
     refine zbl kb io (fun Q' h=>⟨_,rfl,h⟩) ?_
     refine⟨d,_,rfl,zbv (k:=Sum.inr it.label) (g2 _ _ hd) (hv its m1 it m3),_,rfl,(by show 2≤sizeLine;decide),fun t2 nt2=>?_⟩
     have s5:zaj G4 (upd G4 t2 (.tup [.int (pl it.label),.int (0 + (i:Int))])):=zaj.new nt2
     have h5:SqT K (upd G4 t2 (.tup [.int (pl it.label),.int (0 + (i:Int))])) t2 [.int (pl it.label),.int (0 + (i:Int))]:=SqT.of zab
     generalize upd G4 t2 (.tup [.int (pl it.label),.int (0 + (i:Int))])=G5 at s5 h5 ⊢
     refine⟨_,rfl,.inl ⟨rfl,_,SqL.of (s5 _ _ he4)⟩,_,rfl,_,rfl,?_⟩
     refine zbl (kb2.same s5) io2 (fun Q' h=>⟨_,rfl,h⟩) ?_
     refine⟨d,_,rfl,zbv (k:=Sum.inr it2.label) (s5 _ _ (g2 _ _ hd)) (hv its2 m2 it2 m4),_,rfl,_,_,rfl,rfl,(by show 2≤sizeLine;decide),fun t3 nt3=>?_⟩
     have s6:zaj G5 (upd G5 t3 (.tup [.int (pl it2.label),.int (0 + (i:Int) + 1)])):=zaj.new nt3
     have h6:SqT K (upd G5 t3 (.tup [.int (pl it2.label),.int (0 + (i:Int) + 1)])) t3 [.int (pl it2.label),.int (0 + (i:Int) + 1)]:=SqT.of zab
     generalize upd G5 t3 (.tup [.int (pl it2.label),.int (0 + (i:Int) + 1)])=G6 at s6 h6 ⊢
     have s56:=s5.trans s6
     refine⟨t2,t3,_,_,rfl,rfl,(Tk.of s6).sqT h5,h6,(fun z=>by cases z),(by show 4≤sizeLine;decide),(fun z=>by cases z),fun _ t4 nt4=>?_⟩
     obtain⟨k1,k2,k3⟩:=zi4 (d:=edD pl lev (it.label,it2.label,wt)) (vs:=[.int (pl it.label),.int (0 + (i:Int)),.int (pl it2.label),.int (0 + (i:Int) + 1)]) neH (g2.trans s56) (s56 _ _ he4) (s56.dts de4) (ziz pl lev _) nt4 fun H' h=>dt_ed (by
      show SqT K H' t4 [.int (pl it.label),.int (lev it.label),.int (pl it2.label),.int (lev it2.label)]
      rw[lo i its e1 it m3,lo (i + 1) its2 e2 it2 m4,show((i:Nat):Int)=0 + (i:Int) by omega,show((i + 1:Nat):Int)=0 + (i:Int) + 1 by omega]
      exact h)
     have hl6:=s56 _ _ hl4
     have l4:l≠t4:=zai hl6 nt4
     have c4:c≠t4:=zai (s56 _ _ hc4) nt4
     have tk2:Tk (upd G6 t4 (.tup [.int (pl it.label),.int (0 + (i:Int)),.int (pl it2.label),.int (0 + (i:Int) + 1)])) (upd (upd G6 t4 (.tup [.int (pl it.label),.int (0 + (i:Int)),.int (pl it2.label),.int (0 + (i:Int) + 1)])) e (.lst (ws++[.ref t4]))):=Tk.upd k1 rfl
     refine⟨e,ws,_,rfl,rfl,k1,by rw[sizeLine_eq];omega,?_⟩
     refine⟨_,_,ls++[(it.label,it2.label,wt)],rfl,by rw[zaf ce,zaf c4];exact s56 _ _ hc4,⟨k2,⟨_,by rw[zaf le_,zaf l4];exact hl6,?_⟩,⟨_,zab,by rw[List.map_append];exact k3⟩,fun q hq=>?_⟩,by rw[List.length_append];show ls.length + 1≤_;omega⟩
     ·rw[List.map_append]
      refine tk2.dts ?_ ((zaj.new nt4).dts (s56.dts g3))
      have:=zj4 (ls++[(it.label,it2.label,wt)])
      rw[List.map_append] at this
      exact this
     ·rcases List.mem_append.mp hq with h|h
      ·exact okq q h
      ·rw[List.mem_singleton.mp h]
       exact⟨hv its m1 it m3,hv its2 m2 it2 m4,zi8 m1 m3,zi8 m2 m4⟩
    ·rintro σ G3 ⟨v8,v9,ls,rfl,hc,S3,ln3⟩
     refine⟨_,_,_,_,ls,rfl,S3,?_⟩
     have:(zs2.take n).length≤5:=by
      rw[List.length_take,hz2.len]
      omega
     omega
   ·rintro σ G' ⟨v6,v7,v8,v9,ls,rfl,S',ln'⟩
    refine⟨_,_,_,_,_,ls,rfl,S',?_⟩
    have:=hz.len
    omega
  ·rintro σ G ⟨v5,v6,v7,v8,v9,ls,rfl,S,ln⟩
   refine⟨_,rfl,_,rfl,(by show 2≤sizeLine;decide),fun t nt=>?_⟩
   exact k t l e ls _ zab (S.same (zaj.new nt)) (by omega)
end
end K71
namespace K71
open PySem L2
def zgt (rows:List (List It)) (s:Str):Int:=((rows.findIdx fun r=>r.any fun it=>decide (it.label=s):Nat):Int)
theorem lev_ok {rows:List (List It)} (R:zcK rows):zj5 rows (zgt rows):=by
 intro n r e it hi
 have hn:n<rows.length:=(List.getElem?_eq_some_iff.mp e).1
 have hr:rows[n]=r:=(List.getElem?_eq_some_iff.mp e).2
 unfold zgt
 have:(rows.findIdx fun r=>r.any fun it'=>decide (it'.label=it.label))=n:=by
  rw[List.findIdx_eq hn]
  refine⟨?_,fun m hm=>?_⟩
  ·rw[hr]
   exact List.any_eq_true.mpr ⟨it,hi,decide_eq_true rfl⟩
  ·rw[List.any_eq_false]
   intro it' hi' z
   have z':it'.label=it.label:=of_decide_eq_true z
   have m1:it'∈(rows.take n).flatten:=List.mem_flatten.mpr ⟨rows[m],List.mem_take_iff_getElem.mpr ⟨m,by omega,rfl⟩,hi'⟩
   obtain⟨j',hj'⟩:=List.getElem?_of_mem m1
   obtain⟨j,hj⟩:=List.getElem?_of_mem hi
   have fp:rows.flatten=(rows.take n).flatten++(r++(rows.drop (n + 1)).flatten):=by
    rw[← List.append_assoc,← zbI e,← List.flatten_append,List.take_append_drop]
   have l1:=(List.getElem?_eq_some_iff.mp hj').1
   have l2:=(List.getElem?_eq_some_iff.mp hj).1
   have a1:rows.flatten[j']?=some it':=by rw[fp,List.getElem?_append_left l1];exact hj'
   have a2:rows.flatten[(rows.take n).flatten.length + j]?=some it:=by
    rw[fp,List.getElem?_append_right (by omega),show(rows.take n).flatten.length + j - (rows.take n).flatten.length=j by omega,List.getElem?_append_left l2]
    exact hj
   have:=zi7 R.ix R.fl a1 a2 z'
   omega
 rw[this]
theorem RAt.same {K:PySem.W.Frag}{H H':Hp}{v:V}{l:List Wd} (h:RAt K H v l) (s:zaj H H'):RAt K H' v l:=by
 obtain⟨r,ys,e,h1,h2⟩:=h
 exact⟨r,ys,e,s _ _ h1,s.dts h2⟩
def zh2 (ls:List (List Wd)):Dt:=.lst (ls.map rowD)
theorem zdd (ls:List (List Wd)):zbD 60 (zh2 ls):=zcz (n:=59) (fun l=>ziy (n:=57) l) _
theorem zdR {K:PySem.W.Frag}{H:Hp}{r:Addr}{ys:List V}{ls:List (List Wd)} (h:H r=some (.lst ys)) (f:F2 (RAt K H) ys ls):DtV K H (zh2 ls) (.ref r):=⟨r,ys,rfl,SqL.of h,zhQ f⟩
theorem zkf:∀ ls:List (List Wd),eqD (zh2 ls) (.lst [])=decide (ls=[])
 | []=>rfl
 | _::_=>rfl
theorem ziK (pl lev:Str→Int) (ls:List Lne):zbD 60 (.lst (ls.map (edD pl lev))):=zcz (n:=59) (f:=edD pl lev) (fun _=>⟨trivial,trivial,trivial,trivial,trivial⟩) _
theorem zkg {pl:Str→Int}{rows:List (List It)} (R:zcK rows) (h:∀ it∈rows.flatten,InR pl it):(pic pl rows).length≤40000:=by
 have h1:=zfX (f:=fun s:Str=>s.length) (n:=2040) (l:=rows.map (zaA pl)) fun x hx=>by
  obtain⟨r,hr,rfl⟩:=List.mem_map.mp hx
  exact zdM (fun it hi=>⟨h it (List.mem_flatten.mpr ⟨r,hr,hi⟩),(R.ok r hr).2 it hi⟩) (R.ok r hr).1
 rw[List.length_map] at h1
 have r5:=R.r5
 unfold pic
 cases rows with
 | nil=>exact(by decide:(Str.ofString "").length≤40000)
 | cons r rows=>
  show(Builtin.Str.glued nl (zaA pl r::rows.map (zaA pl))).length≤_
  rw[StrLaws.glued_eq_join,PyProof.Rows.len_join_cons,show nl.length=1 from by decide +kernel,List.length_map]
  rw[List.map_cons] at h1
  rw[List.length_cons] at r5 h1
  omega
section
variable {P:Program}{w:World}{K:PySem.W.Frag}{mg:Str→Option Value}{base:Heap}{a:Adr}
def spLaw (K:PySem.W.Frag):Sp:=fun vs H Q _=>∃ p,∃ ns:List Int,vs=[.ref p]∧SqL K H p (ns.map V.int)∧ns.length≤63∧∀ H',Q (.bl true) H'
set_option maxHeartbeats 4000000 in
theorem ok_law (T:Tx K mg a) (f:Addr) (fd:FuncData) (F:zfP K "law" "law" zfr f fd):zc5 P w K mg base CX0 9 f fd ["_law_script"] (spLaw K):=by
 have c__law_cell_at:=zgq (P:=P) (w:=w) (base:=base) T
 have c__law_rows:=zka (P:=P) (w:=w) (base:=base) T
 have c__law_places:=zhU (P:=P) (w:=w) (base:=base) T
 have c__law_drawn:=ziH (P:=P) (w:=w) (base:=base) T
 have c__law_text:=zkb (P:=P) (w:=w) (base:=base) T
 have c__law_read:=ziI (P:=P) (w:=w) (base:=base) T
 have c__law_due:=ok_due (P:=P) (w:=w) (base:=base) T
 have c__law_stream:=zdP (P:=P) (w:=w) (base:=base) T
 have c__law_strokes:=zfx (P:=P) (w:=w) (base:=base) T
 have c_strokes:=zgp (P:=P) (w:=w) (base:=base) T
 have c__law_changed:=zgr (P:=P) (w:=w) (base:=base) T
 have m_Own_label:=za2 (P:=P) (w:=w) (base:=base) T
 have m_Small_label:=zaO (P:=P) (w:=w) (base:=base) T
 have m_Own_drawn:=zb0 (P:=P) (w:=w) (base:=base) T
 have m_Small_drawn:=zbA (P:=P) (w:=w) (base:=base) T
 refine F.ok zbG (fun vs H Q E h=>?_) (fun cdv A outer s H vs Q E hr h=>?_)
 ·obtain⟨p,ns,rfl,_⟩:=h
  rfl
 ·obtain⟨p,ns,rfl,hS,h63,k⟩:=h
  refine⟨_,(zac (zao (i:=1) zbG.nd rfl (by first|exact Or.inl rfl|exact Or.inr rfl) (zam zaL (zaE c__law_cell_at (hr.mono (by decide)) rfl (zaa (pv 0) (zaa zah zad))) zah))
   (zac (zao (i:=2) zbG.nd rfl (by first|exact Or.inl rfl|exact Or.inr rfl) (zaE c__law_rows (hr.mono (by decide)) rfl (zaa (pv 0) zad)))
   (zac (zao (i:=3) zbG.nd rfl (by first|exact Or.inl rfl|exact Or.inr rfl) (zaE c__law_places (hr.mono (by decide)) rfl (zaa (pv 2) (zaa (zam zaL (zaE c__law_cell_at (hr.mono (by decide)) rfl (zaa (pv 0) (zaa zah zad))) zah) zad))))
   (zac (zao (i:=4) zbG.nd rfl (by first|exact Or.inl rfl|exact Or.inr rfl) (zcs zgh rfl T.n_list zjJ (zaa (pv 3) zad)))
   (zac (zbJ (PW.pt (zgC (zat zeC (zam zaL (pv 1) zah) zah (zaz _)) (zfd (zat (zd2 hr.units) (pv 4) (zaY zad) (zaz _))))) (zae (zgV (zcu hr) (pv 3) (zbR zba (pv 4) (zam zaL (zam zbK (pv 1) zah) (zay zbS rfl T.n_len zb9 (zaa (pv 4) zad))) (fun _ _=>rfl)) (zbR zba (zaY (zaa zah (zaa (zje zgF zah) (zaa (zam ziO zah zah) (zaa (zje zgF zah) zad))))) (zam zaL (zam zbK (pv 1) zah) zah) (fun _ _=>rfl)) rfl)) zaC)
   (zac (zao (i:=5) zbG.nd rfl (by first|exact Or.inl rfl|exact Or.inr rfl) (zcs zgi rfl T.n_dict zjK (zaa (pv 3) zad)))
   (zac (zao (i:=6) zbG.nd rfl (by first|exact Or.inl rfl|exact Or.inr rfl) (zaE c__law_drawn (hr.mono (by decide)) rfl (zaa (pv 2) (zaa (pv 5) zad))))
   (zac (zbJ (zat (zd2 hr.units) (zbp (N:=["_law_name","_law_places_here"]) (cap:=[none,some 3]) rfl (zbC (osc:=zag zfr) (XN:=["_law_script","_law_cell","_law_rows_here","_law_places_here","_law_names","_law_handed","_law_text_here","_law_told","_law_due_here","_law_lines","_law_ends"]) rfl rfl (by decide +kernel)) (zaF (pv 4)) (fun cl C s H fp pins=>(zal (i:=0) (show(["_law_name","_law_places_here"]:List Str).Nodup by decide +kernel) rfl (by first|exact Or.inl rfl|exact Or.inr rfl))) (fun cl C s H fp pins=>zgZ (PW.pt (zeA (zat zjf (zbg (zcu hr) (pv 1) (pv 0) (fun _ _=>rfl)) zah (zaz _)) (zde (zat zjg (zbg (zcu hr) (pv 1) (pv 0) (fun _ _=>rfl)) zah (zaz _)))))) (fun cl C s H fp pins=>(pv 0))) (zaY zad) (zaz _)) (zae (zap (pe_cmp (pc_isN (pv 6))))) zaC)
   (zac (zbJ (PW.pt (zeA (zat zf4 (pv 6) (zaE c__law_text (hr.mono (by decide)) rfl (zaa (pv 2) (zaa (pv 3) zad))) (zaz _)) (zde (zat (op_neK hr.units) (pv 5) (pv 3) (zaz _))))) (zae (zap zgB)) zaC)
   (zac (zao (i:=7) zbG.nd rfl (by first|exact Or.inl rfl|exact Or.inr rfl) (zaE c__law_read (hr.mono (by decide)) rfl (zaa (pv 6) zad)))
   (zac (zg1 (i:=8) zbG.nd rfl rfl (N:=["_law_row","_law_places_here"]) (cap:=[none,some 3]) rfl (zbC (osc:=zag zfr) (XN:=["_law_script","_law_cell","_law_rows_here","_law_places_here","_law_names","_law_handed","_law_text_here","_law_told","_law_due_here","_law_lines","_law_ends"]) rfl rfl (by decide +kernel)) (zaF (pv 2)) (fun cl C s H fp pins=>(zal (i:=0) (show(["_law_row","_law_places_here"]:List Str).Nodup by decide +kernel) rfl (by first|exact Or.inl rfl|exact Or.inr rfl))) (fun cl C s H fp pins=>zbo) (fun cl C s H fp pins=>(zbp (N:=["_law_item_here","_law_places_here"]) (cap:=[none,some 1]) rfl (zbC (osc:={ kind:=.function,names:=[(".0",.local),("_law_row",.local),("_law_places_here",.cell)],isGenerator:=false,isCoroutine:=false }) (XN:=["_law_row","_law_places_here"]) rfl rfl (by decide +kernel)) (zil (K:=K) rfl (pv 0)) (fun cl C s H fp pins=>(zal (i:=0) (show(["_law_item_here","_law_places_here"]:List Str).Nodup by decide +kernel) rfl (by first|exact Or.inl rfl|exact Or.inr rfl))) (fun cl C s H fp pins=>zbo) (fun cl C s H fp pins=>(zbQ (zaa (zaM (zaq (pv 0) T.c_Own m_Own_drawn (hr.mono (by decide))) (zaq (pv 0) T.c_Small m_Small_drawn (hr.mono (by decide)))) (zaa (zbg (zcu hr) (pv 1) (zaM (zaq (pv 0) T.c_Own m_Own_label (hr.mono (by decide))) (zaq (pv 0) T.c_Small m_Small_label (hr.mono (by decide)))) (fun _ _=>rfl)) zad)))))) (hsw:=rfl))
   (zac (zbJ (zat (ziR hr.units) (pv 8) (zaY zad) (zaz _)) (zae (zao (i:=8) zbG.nd rfl (by first|exact Or.inl rfl|exact Or.inr rfl) (zaY (zaa (zaY zad) zad)))) zaC)
   (zac (zbJ (PW.pt (zeA (zat (zd2 hr.units) (pv 7) (pv 8) (zaz _)) (zde (zat (zd2 hr.units) (zaE c__law_due (hr.mono (by decide)) rfl (zaa (pv 6) zad)) (pv 8) (zaz _))))) (zae (zap zgB)) zaC)
   (zac (ps_asg (zaE c__law_strokes (hr.mono (by decide)) rfl (zaa (pv 2) (zaa (pv 3) (zaa (zaE c__law_stream (hr.mono (by decide)) rfl (zaa (pv 1) (zaa zah zad))) zad)))) (zcq rfl (zar (zal (i:=9) zbG.nd rfl (by first|exact Or.inl rfl|exact Or.inr rfl)) (zar (zal (i:=10) zbG.nd rfl (by first|exact Or.inl rfl|exact Or.inr rfl)) zbm))))
   (zac (zbJ (zat (zd2 hr.units) (zaE c_strokes (hr.mono (by decide)) rfl (zaa (pv 2) (zaa (pv 9) (zaa (pv 3) zad)))) (pv 10) (zaz _)) (zae (zap zgB)) zaC)
   (zac (zao (i:=6) zbG.nd rfl (by first|exact Or.inl rfl|exact Or.inr rfl) (zaE c__law_changed (hr.mono (by decide)) rfl (zaa (pv 6) (zaa (zam zbK (pv 1) zah) zad))))
   (zae (zap (zcM (zeC.or (ziR hr.units)) (zaE c__law_read (hr.mono (by decide)) rfl (zaa (pv 6) zad)) (zaE c__law_due (hr.mono (by decide)) rfl (zaa (pv 6) zad)) (zaz _)))))))))))))))))))),?_⟩
  refine⟨_,rfl,p,ns,0,rfl,hS,Int.le_refl 0,fun c0=>⟨_,_,rfl,rfl,(by show(0:Int)<2147483647;decide),?_⟩⟩
  dsimp only[zaI]
  generalize c0 % 2147483647=c
  refine⟨_,rfl,p,ns,rfl,hS,fun l xs rows H1 s1 n1 h1 hx R=>?_⟩
  refine⟨_,rfl,_,rfl,p,ns,1,rfl,s1.sqL hS,by decide,fun c1=>⟨_,_,rfl,rfl,(by show(0:Int)<2147483647;decide),l,xs,rows,_,rfl,h1,hx,R,fun d pl H2 s2 n2 h2 rs ir=>?_⟩⟩
  have f25:=R.fl
  refine⟨_,rfl,d,_,rfl,h2,fun nm nnm=>?_⟩
  have lbE:((rows.flatten.map (kvP pl)).map fun kv=>kV kv.1)=(rows.flatten.map It.label).map V.str:=by
   rw[List.map_map,List.map_map]
   rfl
  rw[lbE]
  have s3:zaj H2 (upd H2 nm (.lst ((rows.flatten.map It.label).map V.str))):=zaj.new nnm
  have h3:upd H2 nm (.lst ((rows.flatten.map It.label).map V.str)) nm=some (.lst ((rows.flatten.map It.label).map V.str)):=zab
  generalize upd H2 nm (.lst ((rows.flatten.map It.label).map V.str))=H3 at s3 h3 ⊢
  have t3:=s2.trans s3
  have hd3:=s3 _ _ h2
  apply joinS (fun y:(Str→Int)×Kvs=>[some (.ref p),some (.int c),some (.ref l),some (.ref d),some (.ref nm),none,none,none,none,none,none]) (fun y H'=>zaj H1 H'∧H' d=some (.dK y.2)∧H' nm=some (.lst ((rows.flatten.map It.label).map V.str))∧(∀ it∈rows.flatten,Vl y.2 y.1 it.label)∧((y.2=rows.flatten.map (kvP y.1)∧(∀ r∈rows,Rs y.1 0 r)∧∀ it∈rows.flatten,InR y.1 it)∨∃ it∈rows.flatten,¬ InR y.1 it))
  case g=>
   intro zbt
   have same:∀ H4,zaj H3 H4→_:=fun H4 s4=>zbt (pl,rows.flatten.map (kvP pl)) H4 ⟨t3.trans s4,s4 _ _ hd3,s4 _ _ h3,fun it hi=>zeu hi,.inl ⟨rfl,rs,ir⟩⟩
   refine⟨_,rfl,_,_,rfl,rfl,(by show(0:Int)<8;decide),rfl,_,rfl,?_⟩
   refine zcl (fun cc=>?_) (fun cc=>iteF (same H3 (zaj.refl _)))
   refine⟨_,rfl,(by show 0≤sizeLine;decide),fun z nz=>?_⟩
   have s4:zaj H3 (upd H3 z (.lst [])):=zaj.new nz
   have h4:upd H3 z (.lst []) z=some (.lst []):=zab
   generalize upd H3 z (.lst [])=H4 at s4 h4 ⊢
   have hnm4:=s4 _ _ h3
   refine⟨.lst ((rows.flatten.map It.label).map Dt.str),.lst [],rfl,rfl,⟨nm,_,rfl,SqL.of hnm4,zdc _⟩,⟨z,_,rfl,SqL.of h4,rfl⟩,zdQ _,_,rfl,?_⟩
   rw[zhW]
   refine zcl (fun cd=>?_) (fun cd=>same H4 s4)
   have ne:rows.flatten.map It.label≠[]:=by simpa using cd
   have lp:0<rows.flatten.length:=by
    have:=List.length_pos_iff.mpr ne
    rwa [List.length_map] at this
   refine⟨_,rfl,_,_,rfl,rfl,⟨by decide,by decide,by decide⟩,_,rfl,(by show 4≤sizeLine;decide),fun li nli=>?_⟩
   dsimp only
   have s5:zaj H4 (upd H4 li (.lst [.int 201,.int (-1),.int (10 ^ Int.toNat 6),.int (-40)])):=zaj.new nli
   have h5:upd H4 li (.lst [.int 201,.int (-1),.int (10 ^ Int.toNat 6),.int (-40)]) li=some (.lst [.int 201,.int (-1),.int (10 ^ Int.toNat 6),.int (-40)]):=zab
   generalize upd H4 li (.lst [.int 201,.int (-1),.int (10 ^ Int.toNat 6),.int (-40)])=H5 at s5 h5 ⊢
   have m0:0≤c / 64 % 4:=Int.emod_nonneg _ (by decide)
   have m1:c / 64 % 4<4:=Int.emod_lt_of_pos _ (by decide)
   obtain⟨v,hv,hv2⟩:∃ v:Int,atI [V.int 201,.int (-1),.int (10 ^ Int.toNat 6),.int (-40)] (c / 64 % 4)=some (.int v)∧(v<0∨200<v):=by
    rcases(by omega:c / 64 % 4=0∨c / 64 % 4=1∨c / 64 % 4=2∨c / 64 % 4=3) with e|e|e|e
    ·exact⟨201,by rw[e];rfl,.inr (by decide)⟩
    ·exact⟨-1,by rw[e];rfl,.inl (by decide)⟩
    ·exact⟨10 ^ Int.toNat 6,by rw[e];rfl,.inr (by decide)⟩
    ·exact⟨-40,by rw[e];rfl,.inl (by decide)⟩
   have nl_:(((rows.flatten.map It.label).map V.str).length:Int)=(rows.flatten.length:Int):=by rw[List.length_map,List.length_map]
   have j0:0≤c / 8 % (((rows.flatten.map It.label).map V.str).length:Int):=Int.emod_nonneg _ (by omega)
   have j1:c / 8 % (((rows.flatten.map It.label).map V.str).length:Int)<(((rows.flatten.map It.label).map V.str).length:Int):=Int.emod_lt_of_pos _ (by omega)
   obtain⟨it,hit⟩:=zbE (l:=rows.flatten) (j:=(c / 8 % (((rows.flatten.map It.label).map V.str).length:Int)).toNat) (by omega)
   have mi:=List.mem_of_getElem? hit
   have s45:=s4.trans s5
   refine⟨_,rfl,_,_,rfl,rfl,⟨by decide,by decide⟩,_,_,rfl,rfl,(by show(0:Int)<4;decide),li,_,_,_,rfl,rfl,SqL.of h5,hv,_,rfl,_,rfl,_,rfl,_,_,rfl,rfl,⟨by decide,by decide⟩,_,rfl,nm,_,rfl,.inl (SqL.of (s5 _ _ hnm4)),_,_,rfl,rfl,(by show(0:Int)<(((rows.flatten.map It.label).map V.str).length:Int);omega),nm,_,_,.str it.label,rfl,rfl,SqL.of (s5 _ _ hnm4),(by rw[at_i j0,List.getElem?_map,List.getElem?_map,hit];rfl),d,_,rfl,zki.k (k:=Sum.inr it.label) (s45 _ _ hd3) (by rw[List.length_map,sizeLine_eq];omega),?_⟩
   have dn:nm≠d:=fun z=>by rw[z,hd3] at h3;cases h3
   refine zbt ((fun x=>if x=it.label then v else pl x),zdZ (rows.flatten.map (kvP pl)) (Sum.inr it.label) (.int v)) _ ⟨zaw n2 (t3.trans s45),zab,by rw[zaf dn];exact s45 _ _ h3,fun it' hi'=>?_,.inr ⟨it,mi,fun z=>?_⟩⟩
   ·show zcp (zdZ (rows.flatten.map (kvP pl)) (Sum.inr it.label) (.int v)) (Sum.inr it'.label)=some (.int (if it'.label=it.label then v else pl it'.label))
    rw[zfH]
    by_cases e:it'.label=it.label
    ·rw[if_pos (by rw[e]),if_pos e]
    ·rw[if_neg (fun z=>e (Sum.inr.inj z)),if_neg e]
     exact zeu hi'
   ·have z':0≤(if it.label=it.label then v else pl it.label)∧(if it.label=it.label then v else pl it.label)≤200:=z
    rw[if_pos rfl] at z'
    omega
  case h=>
   rintro⟨pl',kv⟩ H5 ⟨s5,hd,hnm,hv,alt⟩
   dsimp only at hd hv alt ⊢
   refine⟨_,rfl,d,_,rfl,hd,fun hh nhh=>?_⟩
   have s6:zaj H5 (upd H5 hh (.dK kv)):=zaj.new nhh
   have h6:upd H5 hh (.dK kv) hh=some (.dK kv):=zab
   generalize upd H5 hh (.dK kv)=H6 at s6 h6 ⊢
   have t6:=s5.trans s6
   have hvr:∀ r∈rows,∀ it∈r,Vl kv pl' it.label:=fun r hr it hi=>hv it (List.mem_flatten.mpr ⟨r,hr,hi⟩)
   refine⟨_,rfl,_,rfl,l,xs,rows,hh,kv,pl',rfl,t6 _ _ h1,zcR hx t6,R,h6,hvr,fun inr H7 s7=>?_,fun outr H7 s7=>?_⟩
   ·obtain⟨ek,rs',ir'⟩:=alt.resolve_right (fun⟨it,hi,n⟩=>by
     obtain⟨r,hr',hi'⟩:=List.mem_flatten.mp hi
     exact n (inr r hr' it hi'))
    have u7:=s6.trans s7
    have t7:=s5.trans u7
    refine⟨_,rfl,nm,rfl,⟨_,SqL.of (u7 _ _ hnm)⟩,fun D hD=>?_⟩
    refine zaT (K:=K) (a:=nm) (xs:=(rows.flatten.map It.label).map V.str) (fun j τ G=>∃ v1,τ=[v1,some (.ref d)]∧zaj H7 G∧G D=some (.lst [])) ⟨none,rfl,zaj.new hD,zab⟩ ?_ ?_ ?_
    ·rintro j τ G _ ⟨_,rfl,sg,_⟩
     exact SqL.of (sg _ _ (u7 _ _ hnm))
    ·rintro j y τ G hy ⟨v1,rfl,sg,hG⟩
     obtain⟨z,hz,rfl⟩:=zby hy
     obtain⟨it,hi,rfl⟩:=List.mem_map.mp (List.mem_of_getElem? hz)
     obtain⟨i0,i1⟩:=ir' it hi
     have hdG:=sg _ _ (u7 _ _ hd)
     dsimp only[zaI]
     refine⟨_,rfl,_,rfl,d,_,rfl,zbv (k:=Sum.inr it.label) hdG (hv it hi),_,_,rfl,rfl,_,rfl,zhq (decide_eq_false (by omega)) ?_⟩
     refine⟨_,rfl,_,rfl,d,_,rfl,zbv (k:=Sum.inr it.label) hdG (hv it hi),_,_,rfl,rfl,_,rfl,?_⟩
     exact zcl (fun c=>absurd (of_decide_eq_true c) (by omega)) (fun _=>⟨_,rfl,sg,hG⟩)
    rintro τ G ⟨v1,rfl,sg,hG⟩
    refine⟨(by show 0≤sizeLine;decide),fun z nz=>?_⟩
    have s8:zaj G (upd G z (.lst [])):=zaj.new nz
    have h8:upd G z (.lst []) z=some (.lst []):=zab
    generalize upd G z (.lst [])=H8 at s8 h8 ⊢
    have u8:=(u7.trans sg).trans s8
    refine⟨.lst [],.lst [],rfl,rfl,⟨D,_,rfl,SqL.of (s8 _ _ hG),rfl⟩,⟨z,_,rfl,SqL.of h8,rfl⟩,trivial,_,rfl,?_⟩
    refine zcl (fun c=>absurd c (by decide)) (fun _=>?_)
    have t8:=s5.trans u8
    refine⟨_,rfl,_,rfl,_,rfl,l,xs,rows,d,kv,pl',rfl,t8 _ _ h1,zcR hx t8,R,u8 _ _ hd,fun r hr it hi=>⟨hvr r hr it hi,inr r hr it hi⟩,fun H9 s9=>⟨rfl,_,rfl,zhq (by simp) ?_⟩⟩
    have u9:=u8.trans s9
    have t9:=s5.trans u9
    have fk:zjO K H9 kv:=fun q hq=>by
     rw[ek] at hq
     obtain⟨it,_,rfl⟩:=List.mem_map.mp hq
     exact⟨.int (pl' it.label),rfl,trivial⟩
    refine⟨_,rfl,_,rfl,hh,d,kv,rfl,rfl,(s7.trans (sg.trans (s8.trans s9))) _ _ h6,u9 _ _ hd,fk,_,rfl,?_⟩
    refine zcl (fun c=>absurd c (by decide)) (fun _=>?_)
    obtain⟨pb,pr⟩:=ziw (pl:=pl') (rows:=rows) fun r hr=>⟨rs' r hr,(R.ok r hr).2⟩
    have plen:=zkg R ir'
    refine⟨_,rfl,pic pl' rows,rfl,by omega,fun _ to ys H10 s10 nto hto fy=>?_,fun i hb=>by rw[pb] at hb;cases hb⟩
    rw[pr] at fy
    have u10:=u9.trans s10
    have t10:=s5.trans u10
    have hx10:=zcR hx t10
    refine⟨_,rfl,l,rfl,⟨_,SqL.of (t10 _ _ h1)⟩,fun D2 hD2=>?_⟩
    refine zaT (K:=K) (a:=l) (xs:=xs) (fun j τ G=>∃ v1 zs,τ=[v1,some (.ref d)]∧zaj H10 G∧G D2=some (.lst zs)∧F2 (fun v l=>RAt K G v l∧v≠.ref D2) zs ((rows.take j).map (zh1 pl'))) ⟨none,[],rfl,zaj.new hD2,zab,trivial⟩ ?_ ?_ ?_
    ·rintro j τ G _ ⟨_,_,rfl,sg,_⟩
     exact SqL.of (sg _ _ (t10 _ _ h1))
    ·rintro j y τ G hy ⟨v1,zs,rfl,sg,hG,fz⟩
     obtain⟨its,e1,r1,ws,rfl,hr1,hz⟩:=hx10.get hy
     have mi:=List.mem_of_getElem? e1
     obtain⟨i5,iok⟩:=R.ok its mi
     have hj:j<rows.length:=(List.getElem?_eq_some_iff.mp e1).1
     have r5:=R.r5
     dsimp only[zaI,zgv]
     rw[if_pos rfl]
     refine⟨_,rfl,r1,rfl,⟨_,SqL.of (sg _ _ hr1)⟩,fun D3 hD3=>?_⟩
     refine zaT (K:=K) (a:=r1) (xs:=ws) (fun m τ' G'=>∃ v1 us,τ'=[v1,some (.ref d)]∧zaj G G'∧G' D3=some (.lst us)∧zbr K G' ((zh1 pl' (its.take m)).map wdD) us) ⟨none,[],rfl,zaj.new hD3,zab,rfl⟩ ?_ ?_ ?_
     ·rintro m τ' G' _ ⟨_,_,rfl,sg',_⟩
      exact SqL.of (sg' _ _ (sg _ _ hr1))
     ·rintro m y τ' G' hy ⟨v1,us,rfl,sg',hG',du⟩
      obtain⟨it,e2,b,rfl,ib⟩:=hz.get hy
      have m2:=List.mem_of_getElem? e2
      have hm:m<its.length:=(List.getElem?_eq_some_iff.mp e2).1
      have io:=iok it m2
      have ib':=ib.same (sg.trans sg')
      have ul:us.length≤1000:=by
       rw[← zbc du,List.length_map]
       unfold zh1
       rw[List.length_map,List.length_take]
       omega
      dsimp only[zaI,zgv]
      rw[if_pos rfl]
      refine zer ib' io (fun Q' h=>⟨_,rfl,h⟩) ?_
      refine⟨_,rfl,?_⟩
      refine zbl ib' io (fun Q' h=>⟨_,rfl,h⟩) ?_
      refine⟨d,_,rfl,zbv (k:=Sum.inr it.label) ((sg.trans sg') _ _ (u10 _ _ hd)) (hvr its mi it m2),(by show 2≤sizeLine;decide),fun t nt=>?_⟩
      obtain⟨g1,g2,g3⟩:=zi4 (d:=wdD (it.drawn,pl' it.label)) (vs:=[.str it.drawn,.int (pl' it.label)]) hD3 sg' hG' du (zcU _) nt fun H' h=>zhN h
      refine⟨us,g1,by rw[sizeLine_eq];omega,_,_,rfl,g2,zab,?_⟩
      unfold zh1 at g3 ⊢
      rw[zak e2,List.map_append,List.map_append]
      exact g3
     rintro τ' G' ⟨v1',us,rfl,sg',hG',du⟩
     rw[hz.len,List.take_length] at du
     have gD:D2≠D3:=zai hG hD3
     have hG2:=sg' _ _ hG
     have tk:Tk G' (upd G' D2 (.lst (zs++[.ref D3]))):=Tk.upd hG2 rfl
     refine⟨zs,hG2,by rw[fz.len,List.length_map,List.length_take,sizeLine_eq];omega,_,_,rfl,zaw hD2 (sg.trans sg'),zab,?_⟩
     rw[zak e1,List.map_append]
     have f1:F2 (fun v l=>RAt K (upd G' D2 (.lst (zs++[.ref D3]))) v l∧v≠.ref D2) zs ((rows.take j).map (zh1 pl')):=fz.mono fun v l ⟨⟨r,us',ev,hr,dr⟩,nv⟩=>⟨⟨r,us',ev,by rw[zaf (fun z=>nv (by rw[ev,z]))];exact sg' _ _ hr,tk.dts (zcU _) (sg'.dts dr)⟩,nv⟩
     exact f1.snoc ⟨⟨D3,us,rfl,by rw[zaf (Ne.symm gD)];exact hG',tk.dts (zcU _) du⟩,fun z=>gD (by cases z;rfl)⟩
    rintro τ G11 ⟨v1',zs,rfl,s11,hG11,fz⟩
    rw[hx.len,List.take_length] at fz
    have fz':F2 (RAt K G11) zs (rows.map (zh1 pl')):=fz.mono fun _ _ h=>h.1
    apply joinS (fun y:Addr×List V=>[some (.ref p),some (.int c),some (.ref l),some (.ref d),some (.ref nm),some (.ref hh),some (.str (pic pl' rows)),some (.ref to),some (.ref y.1),none,none]) (fun y H'=>zaj H10 H'∧H' y.1=some (.lst y.2)∧F2 (RAt K H') y.2 (zb1 pl' rows))
    case g=>
     intro zbt
     refine⟨_,rfl,(by show 0≤sizeLine;decide),fun z nz=>?_⟩
     have s12:zaj G11 (upd G11 z (.lst [])):=zaj.new nz
     have h12:upd G11 z (.lst []) z=some (.lst []):=zab
     generalize upd G11 z (.lst [])=H12 at s12 h12 ⊢
     refine⟨zh2 (rows.map (zh1 pl')),.lst [],rfl,rfl,zdR (s12 _ _ hG11) (fz'.mono fun _ _ h=>h.same s12),⟨z,_,rfl,SqL.of h12,rfl⟩,zdd _,_,rfl,?_⟩
     rw[zkf]
     refine zcl (fun cc=>?_) (fun cc=>?_)
     ·have e:rows=[]:=by simpa using cc
      refine⟨(by show 0≤sizeLine;decide),fun q nq=>⟨(by show 1≤sizeLine;decide),fun q2 nq2=>?_⟩⟩
      have sq:zaj H12 (upd H12 q (.lst [])):=zaj.new nq
      have hq:upd H12 q (.lst []) q=some (.lst []):=zab
      generalize upd H12 q (.lst [])=H13 at sq hq nq2 ⊢
      have sq2:zaj H13 (upd H13 q2 (.lst [.ref q])):=zaj.new nq2
      dsimp only[zaI]
      refine zbt (q2,[.ref q]) _ ⟨((s11.trans s12).trans sq).trans sq2,zab,?_⟩
      show F2 _ _ (zb1 pl' rows)
      unfold zb1
      rw[if_pos e]
      exact⟨⟨q,[],rfl,sq2 _ _ hq,rfl⟩,trivial⟩
     ·have e:¬ rows=[]:=by simpa using cc
      refine zbt (D2,zs) H12 ⟨s11.trans s12,s12 _ _ hG11,?_⟩
      show F2 _ _ (zb1 pl' rows)
      unfold zb1
      rw[if_neg e]
      exact fz'.mono fun _ _ h=>h.same s12
    case h=>
     rintro⟨D4,zs4⟩ H12 ⟨s12,h12,f12⟩
     dsimp only at h12 f12 ⊢
     refine⟨_,rfl,_,rfl,zh2 (zb1 pl' rows),zh2 (zb1 pl' rows),rfl,rfl,zdR (s12 _ _ hto) (fy.mono fun _ _ h=>h.same s12),zdR h12 f12,zdd _,_,rfl,zhq (by rw[zb3];rfl) ?_⟩
     refine⟨_,rfl,pic pl' rows,rfl,by omega,fun _ du ys2 H13 s13 ndu hdu fd2=>?_,fun i hb=>by rw[pb] at hb;cases hb⟩
     rw[pr] at fd2
     refine⟨_,rfl,zh2 (zb1 pl' rows),zh2 (zb1 pl' rows),rfl,rfl,zdR hdu fd2,zdR (s13 _ _ h12) (f12.mono fun _ _ h=>h.same s13),zdd _,_,rfl,?_⟩
     rw[zb3]
     refine zcl (fun c=>absurd c (by decide)) (fun _=>?_)
     have u13:=u10.trans (s12.trans s13)
     have t13:=s5.trans u13
     have lo:=lev_ok R
     refine⟨_,rfl,_,rfl,_,rfl,c,6,rfl,by decide,by decide,fun u us H14 s14 nu hu ul ub=>?_⟩
     have u14:=u13.trans s14
     have t14:=s5.trans u14
     refine⟨l,xs,rows,d,kv,pl',zgt rows,u,us,rfl,t14 _ _ h1,zcR hx t14,R,u14 _ _ hd,hvr,lo,hu,by omega,fun t la le ls H15 ht S ln=>?_⟩
     obtain⟨s15,⟨ysl,hla,dla⟩,⟨yse,hle,dle⟩,lk⟩:=S
     have u15:=u14.trans s15
     have t15:=s5.trans u15
     refine⟨t,_,rfl,SqT.of ht,rfl,_,_,rfl,_,_,rfl,rfl,?_⟩
     dsimp only[zaI]
     refine⟨_,rfl,_,rfl,_,rfl,l,xs,rows,la,ls,ysl,d,kv,pl',zgt rows,rfl,t15 _ _ h1,zcR hx t15,R.r5,R.ok,hla,dla,ln,u15 _ _ hd,lo,lk,fun sl ysr H16 s16 nsl hsl dsl=>?_⟩
     refine⟨_,rfl,.lst (ls.map (edD pl' (zgt rows))),.lst (ls.map (edD pl' (zgt rows))),rfl,rfl,⟨sl,_,rfl,SqL.of hsl,dsl⟩,⟨le,_,rfl,SqL.of (s16 _ _ hle),s16.dts dle⟩,ziK _ _ _,_,rfl,?_⟩
     rw[zb3]
     refine zcl (fun c=>absurd c (by decide)) (fun _=>?_)
     refine⟨_,rfl,_,rfl,_,_,rfl,rfl,⟨by decide,by decide⟩,pic pl' rows,_,rfl,plen,fun s' sl'=>?_⟩
     refine⟨_,rfl,s',rfl,sl',fun hb l1 ys1 H17 s17 nl1 hl1 fl1=>?_,fun i hb H17 s17=>?_⟩
     ·refine⟨_,rfl,s',rfl,sl',fun _ l2 ys3 H18 s18 nl2 hl2 fl2=>?_,fun i hb2=>by rw[hb] at hb2;cases hb2⟩
      refine .inr ⟨zh2 ((Txt.split s' nl).map zfW),zh2 ((Txt.split s' nl).map zfW),rfl,rfl,zdR (s18 _ _ hl1) (fl1.mono fun _ _ h=>h.same s18),zdR hl2 fl2,zdd _,?_⟩
      rw[zb3]
      exact k _
     ·refine⟨_,rfl,s',rfl,sl',(fun hb2=>by rw[hb] at hb2;cases hb2),fun i' hb' H18 s18=>?_⟩
      rw[hb] at hb'
      cases hb'
      refine .inl ⟨rfl,?_⟩
      rw[show decide (V.int (i:Int)=V.int (i:Int))=true from decide_eq_true rfl]
      exact k _
   ·obtain⟨it0,m0,n0⟩:∃ it∈rows.flatten,¬ InR pl' it:=by
     obtain⟨r,hr',it,hi',n⟩:=outr
     exact⟨it,List.mem_flatten.mpr ⟨r,hr',hi'⟩,n⟩
    obtain⟨j0,hj0⟩:=List.getElem?_of_mem m0
    have hj0l:=(List.getElem?_eq_some_iff.mp hj0).1
    have u7:=s6.trans s7
    refine⟨_,rfl,nm,rfl,⟨_,SqL.of (u7 _ _ hnm)⟩,fun D hD=>?_⟩
    refine zaT (K:=K) (a:=nm) (xs:=(rows.flatten.map It.label).map V.str) (fun j τ G=>∃ v1,∃ os:List Str,τ=[v1,some (.ref d)]∧zaj H7 G∧G D=some (.lst (os.map V.str))∧os.length≤j∧(j0<j→os≠[])) ⟨none,[],rfl,zaj.new hD,zab,Nat.le_refl _,fun z=>absurd z (Nat.not_lt_zero _)⟩ ?_ ?_ ?_
    ·rintro j τ G _ ⟨_,_,rfl,sg,_⟩
     exact SqL.of (sg _ _ (u7 _ _ hnm))
    ·rintro j y τ G hy ⟨v1,os,rfl,sg,hG,ol,on⟩
     obtain⟨z,hz,rfl⟩:=zby hy
     rw[List.getElem?_map] at hz
     cases eit:rows.flatten[j]? with
     | none=>rw[eit] at hz;cases hz
     | some it=>
     rw[eit] at hz
     cases hz
     have hi:=List.mem_of_getElem? eit
     have hj:j<rows.flatten.length:=(List.getElem?_eq_some_iff.mp eit).1
     have hdG:=sg _ _ (u7 _ _ hd)
     have yes:∃ ys,G D=some (.lst ys)∧ys.length<sizeLine∧∃ v1,∃ os:List Str,[some (V.str it.label),some (V.ref d)]=[v1,some (.ref d)]∧zaj H7 (upd G D (.lst (ys++[.str it.label])))∧upd G D (.lst (ys++[.str it.label])) D=some (.lst (os.map V.str))∧os.length≤j + 1∧(j0<j + 1→os≠[]):=⟨_,hG,by rw[List.length_map,sizeLine_eq];omega,_,os++[it.label],rfl,zaw hD sg,by rw[zab,List.map_append];rfl,by rw[List.length_append];show os.length + 1≤_;omega,fun _=>by simp⟩
     dsimp only[zaI]
     refine⟨_,rfl,_,rfl,d,_,rfl,zbv (k:=Sum.inr it.label) hdG (hv it hi),_,_,rfl,rfl,_,rfl,?_⟩
     refine zcl (fun c1=>zgY ⟨_,rfl,yes⟩) (fun c1=>?_)
     refine⟨_,rfl,_,rfl,d,_,rfl,zbv (k:=Sum.inr it.label) hdG (hv it hi),_,_,rfl,rfl,_,rfl,?_⟩
     refine zcl (fun c2=>⟨_,rfl,yes⟩) (fun c2=>⟨_,os,rfl,sg,hG,by omega,fun z=>?_⟩)
     by_cases e:j0=j
     ·subst e
      rw[eit] at hj0
      cases hj0
      have a1:=of_decide_eq_false c1
      have a2:=of_decide_eq_false c2
      exact absurd ⟨by omega,by omega⟩ n0
     ·exact on (by omega)
    rintro τ G ⟨v1,os,rfl,sg,hG,ol,on⟩
    rw[List.length_map,List.length_map] at on
    refine⟨(by show 0≤sizeLine;decide),fun z nz=>?_⟩
    have s8:zaj G (upd G z (.lst [])):=zaj.new nz
    have h8:upd G z (.lst []) z=some (.lst []):=zab
    generalize upd G z (.lst [])=H8 at s8 h8 ⊢
    refine⟨.lst (os.map Dt.str),.lst [],rfl,rfl,⟨D,_,rfl,SqL.of (s8 _ _ hG),zdc _⟩,⟨z,_,rfl,SqL.of h8,rfl⟩,zdQ _,_,rfl,?_⟩
    rw[zhW,decide_eq_false (on hj0l)]
    refine zgY ?_
    exact⟨_,rfl,k _⟩
end
end K71
namespace K71
open PySem L2
set_option maxHeartbeats 4000000 in
theorem all_mk {l:PySem.W.OpenLaw}{w:World}{K:PySem.W.Frag}{h:Heap}{mg:Str→Option Value}{fa f:Addr}{TS:List Addr}{q0 q1 q2 q3 q4 q5:Addr}{oc:Value}{od an:Option Addr}{osl:Array (Option Value)}{kV doc pm cdv ct:Value} (X:K.In h) (G:h.Ns mainGlobals mg) (hfa:mg "law"=some (.ref fa)) (T:Tx K mg ⟨q0,q1,q2,q3,q4,q5⟩) (al:PySem.W.nsIn K mainGlobals "law"=some (some (.ref f))) (ll:K.lookup f=some ⟨oc,od,.func (fnN "law" "law" zfr kV doc pm an cdv ct),osl⟩) (cl:PySem.W.codeIn K cdv "law"=true) (hnd:([]:List Addr).Nodup) :
  ∃ (fd:FuncData) (ts:List Tab) (sp:Sp),(∀ (s:Shared) (u:Value),BindsTo s fd ⟨[u],[]⟩ [("_law_script",u)])∧(ts.map (·.1)).Nodup∧(∀ t∈ts,t.1∈TS∧(∃ c,PySem.W.codeHdIn K c t.1=true)∧K.lookup t.1=none) ∧
    (∀ (H:Hp) (a:Addr) (ns:List Int),ns.length≤63→zhv ts H→SqL K H a (ns.map V.int)→sp [.ref a] H (fun v _=>v=.bl true) fun _ _ _=>False) ∧
    ∀ base:Heap,K.In base→base.Ns mainGlobals mg→zc5 l.prog w K mg base CX0 9 fa fd ["_law_script"] sp:=by
 have e:=hfa.symm.trans (PySem.W.mg_of X G al)
 cases e
 refine⟨_,[],spLaw K,fun s v=>.of_eq rfl,hnd,?_,?_,fun base _ _=>ok_law T _ _ (zdu (st:=zfr) ll cl)⟩
 ·intro t ht
  cases ht
 ·exact fun H p ns hl hO hS=>⟨p,ns,rfl,hS,hl,fun _=>rfl⟩
theorem walk {l:PySem.W.OpenLaw}{q:Program}{loose:List Str}{XP:(Str→Option Value)→Heap→Prop}{YP:World→Heap→Prop}{d:DefRec}{K:Params→PySem.W.Frag}{TS:List Addr} (hn:l.most=some 63) (hdf:d.params.defaults=[])
  (hY:∀ (w:World) (h:Heap),YP w h→(K w.params).In h∧∀ P∈TS,h.get? P=some (PySem.W.tabObj #[]))
  (F:∀ (w:World) (mg:Str→Option Value) (fa:Addr) (h:Heap),(K w.params).In h→h.Ns mainGlobals mg→mg d.name=some (.ref fa)→∃ (fd:FuncData) (ts:List Tab) (sp:Sp),(∀ (s:Shared) (u:Value),BindsTo s fd ⟨[u],[]⟩ [("_law_script",u)])∧(ts.map (·.1)).Nodup∧(∀ t∈ts,t.1∈TS∧(∃ c,PySem.W.codeHdIn (K w.params) c t.1=true)∧(K w.params).lookup t.1=none) ∧
    (∀ (H:Hp) (a:Addr) (ns:List Int),ns.length≤63→zhv ts H→SqL (K w.params) H a (ns.map V.int)→sp [.ref a] H (fun v _=>v=.bl true) fun _ _ _=>False) ∧
    ∀ base:Heap,(K w.params).In base→base.Ns mainGlobals mg→zc5 l.prog w (K w.params) mg base CX0 9 fa fd ["_law_script"] sp) :
  PySem.W.WalkO q loose XP YP l.row.toRowW d [] (fun f vs=>PySem.call f vs):=
 L2.zio (n:=63) (k:=9) (x:="_law_script") hn (by decide) hdf ⟨by decide,by decide⟩ hY F
end K71
namespace PySem.W.Fast
def tw10904674028675134178:=()
def tw1833218808888944870:=()
def tw11540103857147448578:=()
def tw3199671486632192875:=()
def tw3418369247396466355:=()
def tw220349260920488095:=()
def tw6767155698973796507:=()
def tw9811359429940215373:=()
def tw9595261599263741726:=()
def tw10887296115779881310:=()
def tw15267434811161751666:=()
def tw14475003587432267511:=()
def tw12275508892992751010:=()
def tw5959824601573838938:=()
def tw17389636167031898340:=()
def tw11045682987374487542:=()
def tw15862482434779341763:=()
def tw2826822029851886912:=()
def tw11598767821499643035:=()
def tw2501034582244870425:=()
def tw1900603264967732587:=()
def tw3322172411624969993:=()
def tw16142276208846461190:=()
def tw12706120227775062329:=()
def tw7521879828273890116:=()
def tw8682693112083387614:=()
def tw8909231072434866810:=()
def tw14546132934434689800:=()
def tw16922139557440264289:=()
def tw6908856471443117072:=()
def tw5339266323384317905:=()
def tw8869237646142798005:=()
def tw990714946530967419:=()
def tw1225217688273288928:=()
def tw16465146241918838805:=()
def tw1688517787963183232:=()
def tw7023444869837270038:=()
def tw13577290964162489292:=()
def tw14574395818898910183:=()
def tw2549624089234891917:=()
def tw17381472857720059997:=()
def tw15986710784534701679:=()
def tw12230200090121329777:=()
def tw13113969712139732002:=()
def tw7386427281614602831:=()
def tw15857438700752700059:=()
def tw11574769123570453285:=()
def tw2011832815055668259:=()
def tw10627631756142453223:=()
def tw14835901859007611372:=()
def tw17481097797176242331:=()
def tw10774173934305260546:=()
def tw9448097774283662524:=()
def tw17991977802007941876:=()
def tw14976025695311242712:=()
def tw10817086388787051730:=()
def tw3968843569540798521:=()
def tw3308265442033425732:=()
def tw8660909799071132027:=()
def tw17751948385802450948:=()
def tw7883245389476706402:=()
def tw17927728329292383282:=()
def tw7559845062830015821:=()
def tw12662884517214869329:=()
def tw16326215880198914646:=()
def tw6555660989103939852:=()
def tw11452144327804748224:=()
def tw7247702723045106509:=()
def tw1562070881188313000:=()
def tw16802291926250714999:=()
def tw2676554826218861194:=()
def tw9174157403315454487:=()
def tw5083074697447686144:=()
def tw1355872827924365816:=()
def tw1562698315385210547:=()
def tw13164337941614645698:=()
def tw1862113992206455209:=()
def tw3782834901354261287:=()
def tw9447213356741540430:=()
def tw13887583488972536015:=()
def tw1558750835509769372:=()
def tw14199667813803522899:=()
end PySem.W.Fast
open PySem PySem.W PyProof.Rows
set_option maxRecDepth 100000 in
set_option maxHeartbeats 0 in
theorem PySem.Challenge.cw_layerdraw_k71_pictures_and_back_holds : PySem.Challenge.rw_layerdraw_k71_pictures_and_back.Holds := by
 w_on;o_law;k_head;(case hw=>w_witness2)
 k_fill
 refine K71.walk (l:=PySem.Challenge.rw_layerdraw_k71_pictures_and_back) (TS:=[]) rfl rfl (fun w h Y=>⟨PySem.W.kIn_of Y,fun _ hP=>nomatch hP⟩) ?F
 case F=>
  intro w mg fa h KX G hmg
  refine' K71.all_mk KX G hmg ?T ?al ?ll ?cl ?hnd
  case T=>
   constructor
   any_goals dsimp only
   any_goals first|k_is|kit_is|(refine' PySem.W.mg_of KX G ?_;k_is)|(refine' PySem.W.mg_none_of KX G ?_;k_is)|(refine' L2.int_mk KX G ?_;any_goals first|k_is|kit_is|kernel_rfl|rfl)|(refine' L2.str_mk KX G ?_;any_goals first|k_is|kit_is|kernel_rfl|rfl)|(unfold L2.zbP;k_is)|((first|refine' L2.def_mk KX G ?_ ?_ ?_ ?_ ?_|refine' L2.met_mk ?_ ?_ ?_ ?_ ?_ ?_|refine' L2.ini_mk KX G ?_ ?_ ?_ ?_ ?_ ?_ ?_ ?_|refine' L2.zjQ KX G ?_ ?_ ?_ ?_ ?_ ?_ ?_ ?_);any_goals (first|k_is|kit_is|kernel_rfl|exact L2.len1 fun _=>rfl|exact L2.len2 fun _ _=>rfl|exact L2.len3 fun _ _ _=>rfl);done)|(refine' L2.lam_mk KX G ?u0 ?u1 ?u2 ?u3 ?u4 ?u5 ?u6;(case u0=>first|k_is|kit_is|kernel_rfl|rfl);(case u1=>first|k_is|kit_is|kernel_rfl|rfl);(case u2=>rfl);(case u3=>first|k_is|kit_is|kernel_rfl|rfl);(case u4=>rfl);(case u5=>first|k_is|kit_is|kernel_rfl|rfl);(case u6=>first|k_is|kit_is|kernel_rfl|rfl))|(constructor <;> first|k_is|kit_is|kernel_rfl|rfl)
  any_goals first|k_is|kit_is|exact List.mem_cons_self|(simp;done)|decide
