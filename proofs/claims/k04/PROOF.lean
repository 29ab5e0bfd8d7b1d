import PyProof.Rows.All
import Wide.All
import OpenK.AllK
import Wide.FinOn
import Lean
import PyProof.EqAt
import PyProof.EqKinds
import PyProof.TupleCall
import PyProof.NeKinds
import PySem.Challenge.RW_layerdraw_k04_written_and_read
set_option Elab.async false
set_option linter.all false
set_option maxRecDepth 100000
set_option genInjectivity false
set_option genSizeOf false
noncomputable section
namespace L2
theorem ex3 {α:Sort _}{a b:α→Prop}{G:Prop} (k:∀ x,a x→b x→G):(∃ x,a x∧b x)→G:=fun⟨x,h1,h2⟩=>k x h1 h2
theorem ex4 {α β:Sort _}{a b:α→β→Prop}{G:Prop} (k:∀ x y,a x y→b x y→G):(∃ x y,a x y∧b x y)→G:=fun⟨x,y,h1,h2⟩=>k x y h1 h2
theorem ex5 {α β:Sort _}{a b c:α→β→Prop}{G:Prop} (k:∀ x y,a x y→b x y→c x y→G):(∃ x y,a x y∧b x y∧c x y)→G:=fun⟨x,y,h1,h2,h3⟩=>k x y h1 h2 h3
end L2
namespace L2
open PySem PySem.Spec PyProof.Rows
theorem zff:entryFor table "proto.unchain"=some Builtin.«proto.unchain»:=entryFor_of_tree (by kernel_rfl)
def nxt (cs:List Addr) (j:Nat):Value:=match cs[j]? with|none=>Value.none|some b=>Value.ref b
def Chn (h:Heap) (cs:List Addr):Prop:=cs.Nodup∧∀ j a,cs[j]?=some a→∃ o vs,h.get? a=some o∧o.data=.fields vs∧vs[2]?=some (nxt cs (j + 1))
def Hd (A:Around) (h:Heap):Prop:=A.handled=none∨∃ a cs,A.handled=some (.ref a)∧Chn h (a::cs)
theorem Hd.keeps {A:Around}{h h':Heap} (x:Hd A h) (k:∀ b o,h.get? b=some o→h'.get? b=some o):Hd A h':=by
 rcases x with e|⟨a,cs,e,nd,c⟩
 ·exact .inl e
 ·refine .inr ⟨a,cs,e,nd,fun j b hb=>?_⟩
  obtain⟨o,vs,ho,r⟩:=c j b hb
  exact⟨o,vs,k b o ho,r⟩
theorem Hd.but {A:Around}{h h':Heap}{it:Addr}{oi:Obj} (x:Hd A h) (hit:h.get? it=some oi) (hno:∀ vs,oi.data=.fields vs→vs.size<3∨vs[2]?≠some Value.none∧∀ b,vs[2]?≠some (.ref b)) (k:∀ b o,b≠it→h.get? b=some o→h'.get? b=some o):Hd A h':=by
 rcases x with e|⟨a,cs,e,nd,c⟩
 ·exact .inl e
 ·refine .inr ⟨a,cs,e,nd,fun j b hb=>?_⟩
  obtain⟨o,vs,ho,hd,h2⟩:=c j b hb
  refine⟨o,vs,k b o (fun z=>?_) ho,hd,h2⟩
  subst z
  rw[hit] at ho
  cases ho
  rcases hno vs hd with q|⟨q1,q2⟩
  ·have:=(Array.getElem?_eq_some_iff.mp h2).1
   omega
  ·unfold nxt at h2
   cases hz:(a::cs)[j + 1]? with
   | none=>rw[hz] at h2;exact q1 h2
   | some y=>rw[hz] at h2;exact q2 y h2
section
variable {prog:Program}{w:World}{A:Around}{E:Value→Shared→Prop}{s:Shared}
theorem zhJ {cs:List Addr}{e:Addr}{R:Result→Shared→Prop} (c:Chn s.heap cs) (he:e∉cs) (hR:R (.ok (.ret .none)) s):∀ (n j i:Nat) (o sl:Addr) (tg:Bool),cs.length - j=n→cs[j]?=some o→cs[i]?=some sl→i≤j →
  codeAny (model prog w) A (.builtin "proto.unchain" ⟨[.ref e,.ref o,.ref sl,.bool tg],[]⟩) R s:=by
 intro n
 induction n with
 | zero=>
  intro j i o sl tg hn hj _ _
  have:=(List.getElem?_eq_some_iff.mp hj).1
  omega
 | succ n ih=>
  intro j i o sl tg hn hj hi hij
  obtain⟨oo,vs,ho,hd,h2⟩:=c.2 j o hj
  refine codeAny_builtin zff ?_
  unfold Builtin.«proto.unchain»
  refine wpAny_bind (wpAny_field ho hd h2 ?_)
  cases hz:cs[j + 1]? with
  | none=>
   simp only[nxt,hz]
   rw[if_pos (by rfl)]
   refine wpAny_bind (wpAny_pure (wpAny_pure ?_))
   exact hR
  | some b=>
   simp only[nxt,hz]
   have hb:b∈cs:=List.mem_of_getElem? hz
   have hbe:b≠e:=fun z=>he (z ▸ hb)
   have hbs:b≠sl:=fun z=>by
    subst z
    have e1:=List.getElem?_eq_some_iff.mp hz
    have e2:=List.getElem?_eq_some_iff.mp hi
    have lt:i<j + 1:=by omega
    exact(List.pairwise_iff_getElem.mp c.1) i (j + 1) e2.1 e1.1 lt (e2.2.trans e1.2.symm)
   rw[if_neg (by simp),if_neg (by simpa using hbe),if_neg (by simpa using hbs)]
   have hi1:∃ b',cs[i + 1]?=some b':=by
    have e1:=(List.getElem?_eq_some_iff.mp hz).1
    exact⟨_,List.getElem?_eq_getElem (by omega)⟩
   obtain⟨b',hb'⟩:=hi1
   cases tg with
   | false=>
    rw[if_neg (by simp)]
    refine wpAny_bind (wpAny_pure (wpAny_pure ?_))
    exact(⟨Code.quiet_builtin _ (by decide +kernel),ih (j + 1) i b sl true (by omega) hz hi (by omega)⟩)
   | true=>
    rw[if_pos rfl]
    obtain⟨os,ws,hos,hds,hs2⟩:=c.2 i sl hi
    simp only[nxt,hb'] at hs2
    refine wpAny_bind (wpAny_field hos hds hs2 (wpAny_pure ?_))
    exact(⟨Code.quiet_builtin _ (by decide +kernel),ih (j + 1) (i + 1) b b' false (by omega) hz hb' (by omega)⟩)
theorem zhm {α:Type}{e:Addr}{oe:Obj}{vs:Array Value}{Q:α→Shared→Prop} (hd:A.handled=none∨∃ a cs,A.handled=some (.ref a)∧Chn s.heap (a::cs)∧e∉a::cs) (he:s.heap.get? e=some oe) (hf:oe.data=.fields vs) (h2:2<vs.size)
  (h:∀ h' o' vs',(∀ b o,b≠e→s.heap.get? b=some o→h'.get? b=some o)→h'.get? e=some o'→o'.cls=oe.cls→o'.dict=oe.dict→o'.data=.fields vs'→vs'.size=vs.size→vs'[1]?=vs[1]?→vs'[2]?=(match A.handled with|none=>vs[2]?|some v=>some v)→E (.ref e) { s with heap:=h' }) :
  wpAny (model prog w) A (raiseNew (.ref e):Sem α) Q E s:=by
 unfold raiseNew
 refine wpAny_bind (wpAny_handled ?_)
 rcases hd with hn|⟨a,cs,ha,c,hin⟩
 ·rw[hn]
  exact wpAny_bind (wpAny_pure (wpAny_throw (h s.heap oe vs (fun _ _ _ q=>q) he rfl rfl hf rfl rfl (by rw[hn]))))
 ·rw[ha]
  have hae:a≠e:=fun z=>hin (by simp[z])
  show wpAny _ _ (if (Value.ref a != Value.ref e)=true then _ else _) _ _ s
  rw[if_pos (by simpa using hae)]
  refine wpAny_bind (wpAny_holding (wpAny_runValue (zhJ c hin ?_ _ 0 0 a a false rfl rfl rfl (Nat.le_refl _))))
  have up:=Obj.data_mapFields hf (·.setIfInBounds 2 (Value.ref a))
  refine wpAny_bind (show wpAny _ _ (setField (.ref e) 2 (.ref a)) _ _ s from wpAny_setField he hf h2 (wpAny_throw (h _ _ _ (fun b q hb hq=>(Heap.get?_update_other _ _ (Ne.symm hb)).trans hq) (Heap.get?_update_self _ he (Obj.isFreed_of_fields up)) (Obj.cls_mapFields _ _) ?_ up (by simp) ?_ ?_)))
  ·obtain⟨c1,d1,dt,sl⟩:=oe
   cases dt <;> rfl
  ·rw[Array.getElem?_setIfInBounds_ne (by decide)]
  ·rw[ha];simp[h2]
theorem Chn.lt {h:Heap}{cs:List Addr} (c:Chn h cs):∀ b∈cs,b<h.objs.size:=fun b hb=>by
 obtain⟨j,hj⟩:=List.mem_iff_getElem?.mp hb
 obtain⟨o,_,ho,_⟩:=c.2 j b hj
 exact Heap.lt_size ho
theorem Chn.mono {h h':Heap}{cs:List Addr} (c:Chn h cs) (k:∀ b o,b∈cs→h.get? b=some o→h'.get? b=some o):Chn h' cs:=⟨c.1,fun j a hj=>by
 obtain⟨o,vs,ho,r⟩:=c.2 j a hj
 exact⟨o,vs,k a o (List.mem_of_getElem? hj) ho,r⟩⟩
theorem zcw {α:Type}{Q:α→Shared→Prop} (hd:Hd A s.heap)
  (h:∀ h' e,(∀ b o,s.heap.get? b=some o→h'.get? b=some o)→(∃ o',h'.get? e=some o'∧o'.cls=.type "StopIteration")→E (.ref e) { s with heap:=h' }) :
  wpAny (model prog w) A (newExc (.type "StopIteration") [] >>= fun e=>(raiseNew e:Sem α)) Q E s:=by
 refine wpAny_bind ?_
 unfold newExc newTuple
 refine wpAny_bind (wpAny_newObj_type ?_ (by size_fits))
 refine wpAny_bind (m:=firstArgMember _ _) (wpAny_of_eq (a:=Value.none) (by first|rfl|(simp only[firstArgMember];rfl)) (wpAny_newObj_type ?_ (by size_fits)))
 refine zhm ?_ (Heap.get?_push_size _ rfl) rfl (by simp;omega) fun h' o' vs' k' e' c' _ _ _ _ _=>
  h h' _ (fun b o q=>k' b o (Nat.ne_of_lt (by rw[Heap.size_push];exact Nat.lt_succ_of_lt (Heap.lt_size q))) (Heap.get?_push_of_some _ (Heap.get?_push_of_some _ q))) ⟨o',e',c'⟩
 rcases hd with hn|⟨a,cs,ha,c⟩
 ·exact .inl hn
 ·refine .inr ⟨a,cs,ha,c.mono fun b o _ q=>Heap.get?_push_of_some _ (Heap.get?_push_of_some _ q),fun z=>?_⟩
  have:=c.lt _ z
  rw[Heap.size_push] at this
  exact absurd (Nat.lt_of_lt_of_le this (Nat.le_succ _)) (Nat.lt_irrefl _)
theorem zfV {it l:Addr}{i:Nat} {items}{Q:Option Value→Shared→Prop} (hd:Hd A s.heap) (hit:s.heap.IsListIter it l i) (hl:s.heap.IsList l items) (hx:items[i]?=none)
  (hQ:∀ h',Heap.ExtBut it s.heap h'→Q none { s with heap:=h' }):wpAny (model prog w) A (pyNext (.ref it)) Q E s:=by
 obtain⟨o,ho,hc,hdat⟩:=id hit
 obtain⟨ol,hol,_,nl,hdl⟩:=hl
 unfold pyNext
 refine wpAny_bind (wpAny_attempt (wpAny_callSpecial?_slot (name:=Str.ofString "__next__") hit.typeIs slot_listiter_next (wpAny_call_entry slot_listiter_next hit.typeIs entry_listiter_next ?_ (args_listiter_next _))))
 refine(show wpAny _ _ (field (.ref it) 0 >>= _) _ _ s from wpAny_bind (wpAny_field ho hdat (x:=.ref l) rfl ?_))
 refine(show wpAny _ _ (if (Value.ref l == Value.none)=true then _ else _) _ _ s from ?_)
 rw[if_neg (by simp)]
 refine(show wpAny _ _ (field (.ref it) 1 >>= _) _ _ s from wpAny_bind (wpAny_field ho hdat (x:=.int i 0) rfl ?_))
 refine(show wpAny _ _ (seqItems? (.ref l) >>= _) _ _ s from wpAny_bind (wpAny_seqItems hol hdl ?_))
 simp only[Int.toNat_natCast,hx]
 refine wpAny_bind (wpAny_rule (wpAny_bind (wpAny_setField ho hdat (by simp) ?_)))
 have sb:Heap.SameBut it s.heap (s.heap.update it (Obj.mapFields (·.setIfInBounds 0 Value.none))):=Heap.SameBut.update ..
 refine zcw (A:=A.in1) (hd.but ho (fun vs q=>.inl (by rw[hdat] at q;cases q;simp)) sb.extBut) fun h' e k' ⟨o',e',c'⟩=>?_
 exact wpAny_bind (wpAny_isInstance (T:="StopIteration") (b:=true) ⟨o',e',c'⟩ isSubtype_stop (wpAny_pure (hQ h' fun b q hb hq=>k' b q (sb.extBut b q hb hq))))
theorem zjS {it t:Addr}{i:Nat} {items}{Q:Option Value→Shared→Prop} (hd:Hd A s.heap) (hit:s.heap.IsTupleIter it t i) (ht:s.heap.IsTuple t items) (hx:items[i]?=none)
  (hQ:∀ h',Heap.ExtBut it s.heap h'→Q none { s with heap:=h' }):wpAny (model prog w) A (pyNext (.ref it)) Q E s:=by
 obtain⟨o,ho,hc,hdat⟩:=id hit
 obtain⟨ol,hol,_,nl,hdl⟩:=ht
 unfold pyNext
 refine wpAny_bind (wpAny_attempt (wpAny_callSpecial?_slot (name:=Str.ofString "__next__") hit.typeIs F.slot_tuple_iterator_next (wpAny_call_entry F.slot_tuple_iterator_next hit.typeIs F.entry_tuple_iterator_next ?_ (F.args_tuple_iterator_next_1 _))))
 refine(show wpAny _ _ (field (.ref it) 0 >>= _) _ _ s from wpAny_bind (wpAny_field ho hdat (x:=.ref t) rfl ?_))
 refine(show wpAny _ _ (if (Value.ref t == Value.none)=true then _ else _) _ _ s from ?_)
 rw[if_neg (by simp)]
 refine(show wpAny _ _ (field (.ref it) 1 >>= _) _ _ s from wpAny_bind (wpAny_field ho hdat (x:=.int i 0) rfl ?_))
 refine(show wpAny _ _ (seqItems? (.ref t) >>= _) _ _ s from wpAny_bind (wpAny_seqItems hol hdl ?_))
 simp only[Int.toNat_natCast,hx]
 refine wpAny_bind (wpAny_rule (wpAny_bind (wpAny_setField ho hdat (by simp) ?_)))
 have sb:Heap.SameBut it s.heap (s.heap.update it (Obj.mapFields (·.setIfInBounds 0 Value.none))):=Heap.SameBut.update ..
 refine zcw (A:=A.in1) (hd.but ho (fun vs q=>.inl (by rw[hdat] at q;cases q;simp)) sb.extBut) fun h' e k' ⟨o',e',c'⟩=>?_
 exact wpAny_bind (wpAny_isInstance (T:="StopIteration") (b:=true) ⟨o',e',c'⟩ isSubtype_stop (wpAny_pure (hQ h' fun b q hb hq=>k' b q (sb.extBut b q hb hq))))
theorem zhK {it:Addr}{x left step:Int}{Q:Option Value→Shared→Prop} (hd:Hd A s.heap) (hit:IsRangeIter s.heap it x left step) (hleft:left≤0)
  (hQ:∀ h',Heap.ExtBut it s.heap h'→Q none { s with heap:=h' }):wpAny (model prog w) A (pyNext (.ref it)) Q E s:=by
 have hT:s.TypeIs (.ref it) "range_iterator":=⟨_,hit,rfl⟩
 unfold pyNext
 refine wpAny_bind (wpAny_attempt (wpAny_callSpecial?_slot (name:=Str.ofString "__next__") hT F.slot_range_iterator_next (wpAny_call_entry F.slot_range_iterator_next hT F.entry_range_iterator_next ?_ (F.args_range_iterator_next_1 _))))
 refine(show wpAny _ _ (field (.ref it) 0 >>= _) _ _ s from wpAny_bind (wpAny_field hit rfl (x:=rawInt x) rfl ?_))
 refine(show wpAny _ _ (field (.ref it) 1 >>= _) _ _ s from wpAny_bind (wpAny_field hit rfl (x:=rawInt left) rfl ?_))
 refine(show wpAny _ _ (field (.ref it) 2 >>= _) _ _ s from wpAny_bind (wpAny_field hit rfl (x:=rawInt step) rfl ?_))
 refine(show wpAny _ _ (if left≤0 then _ else _) _ _ s from ?_)
 rw[if_pos hleft]
 refine wpAny_bind (wpAny_rule (wpAny_bind ?_))
 refine zcw (A:=A.in1) hd fun h' e k' ⟨o',e',c'⟩=>?_
 exact wpAny_bind (wpAny_isInstance (T:="StopIteration") (b:=true) ⟨o',e',c'⟩ isSubtype_stop (wpAny_pure (hQ h' fun b q _ hq=>k' b q hq)))
theorem zkW {t:Addr}{items:Array Value}{Q:List Value→Shared→Prop} (hd:Hd A s.heap) (ht:IsTup s.heap t items)
  (hQ:∀ h',Heap.ExtBut s.heap.objs.size s.heap h'→Q items.toList { s with heap:=h' }):wpAny (model prog w) A (unpackItems (.ref t) items.size none) Q E s:=by
 have hlt:t≠s.heap.objs.size:=by obtain⟨o,ho,_⟩:=ht;exact Nat.ne_of_lt (Heap.lt_size ho)
 unfold unpackItems
 refine wpAny_bind ?_
 unfold notIterableAtAll
 refine wpAny_bind (wpAny_specialOf ht.typeIs slot_tuple_iter.lookup (wpAny_pure ?_))
 simp only[Bool.false_eq_true,if_false]
 refine wpAny_bind (wpAny_holding (iter_tuple ht (wpAny_bind (wpAny_holding (draw_tuple hlt items.size 0 _ _ ⟨_,Heap.get?_push_size _ rfl,rfl,rfl⟩ (ht.push _) (by omega) fun h₁ hit₁ hs₁=>?_)))))
 rw[show List.take items.size (List.drop 0 items.toList)=items.toList by rw[List.drop_zero];exact List.take_of_length_le (by simp)]
 rw[if_neg (by simp)]
 have ht₁:IsTup h₁ t items:=(ht.push _).extBut hs₁.extBut hlt
 have k₁:∀ b o,s.heap.get? b=some o→h₁.get? b=some o:=fun b o e=>hs₁.extBut b o (Nat.ne_of_lt (Heap.lt_size e)) (Heap.get?_push_of_some _ e)
 refine wpAny_bind (wpAny_holding (zjS (hd.keeps k₁) hit₁ (show Heap.IsTuple h₁ t items from ht₁) (by simp) fun h₂ he₂=>?_))
 simp only[Option.isSome_none,Bool.false_eq_true,if_false]
 exact wpAny_pure (hQ h₂ fun b o hb e=>he₂ b o hb (k₁ b o e))
theorem zgI {env:Env}{elts:List Expr} {x1}{pos:Pos}{t:Addr}{items:Array Value}{Q:Unit→Shared→Prop} (hd:Hd A s.heap) (ht:IsTup s.heap t items) (hn:(assignEach elts env).length=items.size) (hstar:(assignEach elts env).findIdx? (·.1)=none)
  (h:∀ h',Heap.ExtBut s.heap.objs.size s.heap h'→wpAny (model prog w) A (assignInOrder ((assignEach elts env).map (·.2)) items.toList) Q E { s with heap:=h' }):wpAny (model prog w) A (assign (.Tuple elts x1 pos) env (.ref t)) Q E s:=by
 rw[assign_Tuple]
 refine wpAny_bind (wpAny_standAt ?_)
 unfold unpack
 rw[hn,hstar]
 exact wpAny_bind (wpAny_holding (zkW hd ht h))
end
end L2
namespace L2
open PySem PySem.Spec PyProof.Rows
abbrev Key:=Sum Int Str
def zfg:Key→Value→Bool
 | .inl k,v=>Value.isInt k v
 | .inr x,v=>Value.isStrOf x v
def keyH (w:World):Key→Int
 | .inl k=>hashInt k
 | .inr x=>hashStr w x
theorem zaR:∀ {k:Key}{v:Value},zfg k v=true→(∃ i t,k=Sum.inl i∧v=Value.int i t)∨(∃ x t,k=Sum.inr x∧v=Value.str x t)
 | .inl i,v,h=>by
  obtain⟨t,e⟩:=Value.isInt_shape (k:=i) (v:=v) h
  exact .inl ⟨i,t,rfl,e⟩
 | .inr x,v,h=>by
  obtain⟨t,e⟩:=Value.isStrOf_shape (x:=x) (v:=v) h
  exact .inr ⟨x,t,rfl,e⟩
theorem zig (i:Int) (t:Tok):zfg (.inl i) (.int i t)=true:=by simp[zfg,Value.isInt]
theorem zih (x:Str) (t:Tok):zfg (.inr x) (.str x t)=true:=by simp[zfg,Value.isStrOf]
theorem key_ll (a b:Int):decide ((Sum.inl a:Key)=Sum.inl b)=(a == b):=by
 by_cases e:a=b
 ·subst e;simp
 ·have h:¬ (Sum.inl a:Key)=Sum.inl b:=fun q=>e (Sum.inl.inj q)
  rw[decide_eq_false h]
  exact(beq_eq_false_iff_ne.mpr e).symm
theorem key_rr (a b:Str):decide ((Sum.inr a:Key)=Sum.inr b)=decide (a=b):=by
 by_cases e:a=b
 ·subst e;simp
 ·have h:¬ (Sum.inr a:Key)=Sum.inr b:=fun q=>e (Sum.inr.inj q)
  rw[decide_eq_false h,decide_eq_false e]
theorem key_lr (a:Int) (b:Str):decide ((Sum.inl a:Key)=Sum.inr b)=false:=decide_eq_false (fun q=>nomatch q)
theorem key_rl (a:Str) (b:Int):decide ((Sum.inr a:Key)=Sum.inl b)=false:=decide_eq_false (fun q=>nomatch q)
def zaL (prog:Program) (w:World):PySem.KeyKind prog w Key where
 is:=zfg
 hash:=keyH w
 inj:=fun v a b ha hb=>by
  rcases zaR ha with⟨i,t,rfl,rfl⟩|⟨x,t,rfl,rfl⟩
  ·rcases zaR hb with⟨j,u,rfl,e⟩|⟨y,u,rfl,e⟩
   ·injection e with e1 _;rw[e1]
   ·exact nomatch e
  ·rcases zaR hb with⟨j,u,rfl,e⟩|⟨y,u,rfl,e⟩
   ·exact nomatch e
   ·injection e with e1 _;rw[e1]
 byValue:=fun k v h=>by
  rcases zaR h with⟨i,t,rfl,rfl⟩|⟨x,t,rfl,rfl⟩ <;> rfl
 pyHash:=fun hv h=>by
  rcases zaR hv with⟨i,t,rfl,rfl⟩|⟨x,t,rfl,rfl⟩
  ·exact wpAny_pyHash_int h
  ·exact wpAny_pyHash_str h
 eqBool:=fun hu hv h=>by
  rcases zaR hu with⟨i,t,rfl,rfl⟩|⟨x,t,rfl,rfl⟩
  ·rcases zaR hv with⟨j,u,rfl,rfl⟩|⟨y,u,rfl,rfl⟩
   ·rw[key_ll] at h;exact wpAny_eqBool_int h
   ·rw[key_lr] at h;exact SeqAt.EqAt.int_str i t y u _ _ _ _ h
  ·rcases zaR hv with⟨j,u,rfl,rfl⟩|⟨y,u,rfl,rfl⟩
   ·rw[key_rl] at h;exact SeqAt.EqAt.str_int x t j u _ _ _ _ h
   ·rw[key_rr] at h;exact wpAny_eqBool_str h
 «strs»:=fun k x t v h=>by
  rcases zaR h with⟨i,u,rfl,e⟩|⟨y,u,rfl,e⟩
  ·exact nomatch e
  ·injection e with e1 _
   subst e1
   cases v <;> rfl
theorem zgJ (prog:Program) (w:World) (i:Int) (t:Tok):(zaL prog w).is (.inl i) (.int i t)=true:=zig i t
theorem zgK (prog:Program) (w:World) (x:Str) (t:Tok):(zaL prog w).is (.inr x) (.str x t)=true:=zih x t
end L2
namespace L2
open PySem PySem.Spec PyProof.Rows
set_option genInjectivity true
inductive V where
 | non | bl (b:Bool) | int (i:Int) | str (x:Str) | byt (b:Array UInt8) | flt (b:UInt64) | ref (a:Addr) | ty (n:String)
 deriving DecidableEq
set_option genInjectivity false
def za8:V→Value→Prop
 | .non,u=>u=Value.none
 | .bl b,u=>u=Value.bool b
 | .int i,u=>∃ t,u=Value.int i t
 | .str x,u=>∃ t,u=Value.str x t
 | .byt b,u=>∃ t,u=Value.bytes b t
 | .flt b,u=>∃ t,u=Value.float b t
 | .ref a,u=>u=Value.ref a
 | .ty n,u=>u=Value.type n
abbrev zaX:List V→List Value→Prop:=Paired za8
theorem zaX.length {xs:List V}{us:List Value} (r:zaX xs us):xs.length=us.length:=Paired.length r
theorem zaX.get:∀ {xs:List V}{us:List Value}{i:Nat}{x:V},zaX xs us→xs[i]?=some x→∃ u,us[i]?=some u∧za8 x u
 | _,_,_,_,.nil,e=>by simp at e
 | _,_,0,_,.cons r _,e=>by simp at e;subst e;exact⟨_,rfl,r⟩
 | _,_,i + 1,x,.cons _ t,e=>by
  obtain⟨u,h1,h2⟩:=zaX.get (i:=i) (x:=x) t (by simpa using e)
  exact⟨u,by simpa using h1,h2⟩
theorem zaX.append:∀ {xs ys:List V}{us ws:List Value},zaX xs us→zaX ys ws→zaX (xs++ys) (us++ws)
 | _,_,_,_,.nil,s=>s
 | _,_,_,_,.cons r t,s=>.cons r (zaX.append t s)
theorem zaX.take:∀ {xs:List V}{us:List Value} (n:Nat),zaX xs us→zaX (xs.take n) (us.take n)
 | _,_,0,_=>.nil
 | _,_,_ + 1,.nil=>.nil
 | _,_,n + 1,.cons r t=>.cons r (zaX.take n t)
theorem zaX.drop:∀ {xs:List V}{us:List Value} (n:Nat),zaX xs us→zaX (xs.drop n) (us.drop n)
 | _,_,0,r=>r
 | _,_,_ + 1,.nil=>.nil
 | _,_,n + 1,.cons _ t=>zaX.drop n t
def zfh:Option V→Option Value→Prop
 | some v,some u=>za8 v u
 | none,none=>True
 | _,_=>False
def KV {κ:Type}:List (κ×V)→List (κ×Value)→Prop:=Paired fun(p:κ×V) (q:κ×Value)=>p.1=q.1∧za8 p.2 q.2
def kV:Key→V
 | .inl i=>.int i
 | .inr x=>.str x
inductive HO where
 | lst (xs:List V)
 | tup (xs:List V)
 | dK (kvs:List (Key×V)) | dT (kvs:List (List Key×V))
 | set (S:Int→Bool) (n:Nat)
 | ins (C dx:Addr) (fs:List (Str×V))
 | own (x:Addr)
 | xd (fs:List (Str×V))
 | met (f x:Addr)
 | rng (lo hi:Int)
 | frz (o:Obj) (u:HO)
 | tbl (pos:Pos) (qual:Str)
 | ext (φ:Heap→Prop)
abbrev Hp:=Addr→Option HO
def upd (H:Hp) (a:Addr) (o:HO):Hp:=fun b=>if b=a then some o else H b
theorem zab {H:Hp}{a:Addr}{o:HO}:upd H a o a=some o:=by unfold upd;rw[if_pos rfl]
theorem zaf {H:Hp}{a b:Addr}{o:HO} (h:b≠a):upd H a o b=H b:=by unfold upd;rw[if_neg h]
theorem zbC {H:Hp}{a b:Addr}{o u:HO} (h:H a=some o) (h':H b=some u) (d:o≠u):a≠b:=by
 intro e;subst e;rw[h] at h';exact d (Option.some.inj h')
theorem zae {H:Hp}{a b:Addr}{o:HO} (h:H a=some o) (h':H b=none):a≠b:=by
 intro e;subst e;rw[h] at h';cases h'
section
variable (P:Program) (w:World)
def zbw (H:Hp) (h:Heap) (a:Addr):HO→Prop
 | .lst xs=>xs.length≤sizeLine∧∃ (its:List Value) (n:Nat),zaX xs its∧h.get? a=some { cls:=.type "list",data:=.seq its.toArray n }
 | .tup xs=>xs.length≤sizeLine∧∃ its:List Value,zaX xs its∧IsTup h a its.toArray
 | .dK kvs=>kvs.length≤sizeLine∧(a == sysModules)=false∧∃ vs,KV kvs vs∧h.DictOf (zaL P w) a vs
 | .dT kvs=>kvs.length≤sizeLine∧(a == sysModules)=false∧∃ xs:List (List Key×Addr×Value),
   Paired (fun(p:List Key×V) (q:List Key×Addr×Value)=>p.1=q.1∧H q.2.1=some (.tup (p.1.map kV))∧za8 p.2 q.2.2) kvs xs ∧
   ∃ o es ep,h.get? a=some o∧o.ExactDict∧o.data=.dict es ep∧es.toList=xs.map (entryOfKey (tupleKind (zaL P w)))∧(xs.map (·.1)).Nodup
 | .set S n=>h.SetOf (intKind P w) a S n
 | .ins C dx fs=>H dx=some (.own a)∧fs.length≤1000∧dx≠a∧h.get? a=some (PySem.W.instObj C dx) ∧
   ∃ mA,h.Ns1 dx mA∧(∀ f,zfh (fs.lookup f) (mA f))∧PySem.Within mA (fs.map (·.1))
 | .own _=>∃ o,h.get? a=some o
 | .xd fs=>∃ mA,h.Ns1 a mA∧∀ f,zfh (fs.lookup f) (mA f)
 | .rng lo hi=>∃ t u v,h.get? a=some { cls:=.type "range",data:=.fields #[.int lo t,.int hi u,.int 1 v] }
 | .frz o u=>h.get? a=some o∧zbw H h a u
 | .tbl pos qual=>h.get? a=some { cls:=.none,data:=.fields #[] }∨∃ c oc vs t,H c=some (.frz oc (.own a))∧oc.data=.fields vs∧vs[1]?=some (.str qual t)∧h.get? a=some { cls:=.none,data:=.fields #[rawInt pos.line,rawInt pos.col,.ref c] }
 | .met f x=>h.get? a=some (PySem.W.methodObj (.ref f) (.ref x))
 | .ext φ=>φ h∧(∃ o,h.get? a=some o)∧∀ h1 h2:Heap,φ h1→(∀ o,h1.get? a=some o→h2.get? a=some o)→φ h2
def HOk (H:Hp) (h:Heap):Prop:=∀ a o,H a=some o→zbw P w H h a o
end
section
variable {P:Program}{w:World}{H H':Hp}{h h':Heap}{a:Addr}{o:HO}
theorem zbw.lt (x:zbw P w H h a o):a<h.objs.size:=by
 cases o with
 | lst xs=>obtain⟨_,_,_,_,e⟩:=x;exact Heap.lt_size e
 | tup xs=>obtain⟨_,_,_,p⟩:=x;exact p.lt
 | dK kvs=>obtain⟨_,_,_,_,o,_,_,e,_⟩:=x;exact Heap.lt_size e
 | dT kvs=>obtain⟨_,_,_,_,o,_,_,e,_⟩:=x;exact Heap.lt_size e
 | set S n=>obtain⟨o,_,_,_,e,_⟩:=x;exact Heap.lt_size e
 | ins C dx fs=>obtain⟨_,_,_,e,_⟩:=x;exact Heap.lt_size e
 | own y=>obtain⟨_,e⟩:=x;exact Heap.lt_size e
 | xd fs=>obtain⟨_,⟨_,_,_,e,_⟩,_⟩:=x;exact Heap.lt_size e
 | rng lo hi=>obtain⟨_,_,_,e⟩:=x;exact Heap.lt_size e
 | frz ob u=>obtain⟨e,_⟩:=x;exact Heap.lt_size e
 | tbl pos qual=>
  rcases x with e|⟨_,_,_,_,_,_,_,e⟩
  ·exact Heap.lt_size e
  ·exact Heap.lt_size e
 | met f y=>exact Heap.lt_size (show h.get? a=some _ from x)
 | ext φ=>obtain⟨_,⟨_,e⟩,_⟩:=x;exact Heap.lt_size e
theorem Paired.mapP {α β:Type}{F G:α→β→Prop}:∀ {l₁:List α}{l₂:List β},Paired F l₁ l₂→(∀ a b,F a b→G a b)→Paired G l₁ l₂
 | _,_,.nil,_=>.nil
 | _,_,.cons r t,f=>.cons (f _ _ r) (Paired.mapP t f)
theorem zbw.stay (x:zbw P w H h a o) (k:∀ b u,(b=a∨H b=some (.own a))→h.get? b=some u→h'.get? b=some u)
  (ho:∀ b,H b=some (.own a)→H' b=some (.own a)) (ht:∀ b xs,H b=some (.tup xs)→H' b=some (.tup xs)) (hf:∀ b ob,H b=some (.frz ob (.own a))→H' b=some (.frz ob (.own a)):=by exact fun _ _ q=>q):zbw P w H' h' a o:=by
 induction o with
 | lst xs=>obtain⟨z,its,n,r,e⟩:=x;exact⟨z,its,n,r,k _ _ (.inl rfl) e⟩
 | tup xs=>obtain⟨z,its,r,ob,e,c⟩:=x;exact⟨z,its,r,ob,k _ _ (.inl rfl) e,c⟩
 | dK kvs=>obtain⟨z,y,vs,r,ob,es,ep,e,c⟩:=x;exact⟨z,y,vs,r,ob,es,ep,k _ _ (.inl rfl) e,c⟩
 | dT kvs=>
  obtain⟨z,y,xs,r,ob,es,ep,e,c⟩:=x
  exact⟨z,y,xs,Paired.mapP r fun p q z=>⟨z.1,ht _ _ z.2.1,z.2.2⟩,ob,es,ep,k _ _ (.inl rfl) e,c⟩
 | set S n=>obtain⟨ob,es,ep,t,e,c⟩:=x;exact⟨ob,es,ep,t,k _ _ (.inl rfl) e,c⟩
 | ins C dx fs=>
  obtain⟨d,z,ne,e,mA,⟨od,es,ep,e2,c⟩,r⟩:=x
  exact⟨ho _ d,z,ne,k _ _ (.inl rfl) e,mA,⟨od,es,ep,k _ _ (.inr d) e2,c⟩,r⟩
 | own y=>obtain⟨ob,e⟩:=x;exact⟨ob,k _ _ (.inl rfl) e⟩
 | xd fs=>obtain⟨mA,⟨od,es,ep,e,c⟩,r⟩:=x;exact⟨mA,⟨od,es,ep,k _ _ (.inl rfl) e,c⟩,r⟩
 | rng lo hi=>obtain⟨t,u,v,e⟩:=x;exact⟨t,u,v,k _ _ (.inl rfl) e⟩
 | frz ob u ih=>obtain⟨e,q⟩:=x;exact⟨k _ _ (.inl rfl) e,ih q⟩
 | tbl pos qual=>
  rcases x with e|⟨c,oc,vs,t,e1,e2,e3,e⟩
  ·exact .inl (k a _ (.inl rfl) e)
  ·exact .inr ⟨c,oc,vs,t,hf c oc e1,e2,e3,k a _ (.inl rfl) e⟩
 | met f y=>
  have e:h.get? a=some (PySem.W.methodObj (.ref f) (.ref y)):=x
  show h'.get? a=some (PySem.W.methodObj (.ref f) (.ref y))
  exact k a _ (.inl rfl) e
 | ext φ=>obtain⟨p,⟨o,e⟩,st⟩:=x;exact⟨st _ _ p fun o q=>k _ _ (.inl rfl) q,⟨o,k _ _ (.inl rfl) e⟩,st⟩
theorem HOk.lt (x:HOk P w H h) (e:H a=some o):a<h.objs.size:=(x a o e).lt
theorem HOk.fresh (x:HOk P w H h) (e:h.objs.size≤a):H a=none:=by
 cases q:H a with
 | none=>rfl
 | some u=>exact absurd (Nat.lt_of_lt_of_le (x.lt q) e) (Nat.lt_irrefl _)
theorem HOk.kept (x:HOk P w H h) (k:∀ b u,h.get? b=some u→h'.get? b=some u):HOk P w H h':=fun a o e=>
 (x a o e).stay (fun b u _ q=>k b u q) (fun _ q=>q) fun _ _ q=>q
theorem HOk.laid (x:HOk P w H h) (k:∀ b u,h.get? b=some u→h'.get? b=some u) (hp:h.objs.size≤a) (new:zbw P w (upd H a o) h' a o):HOk P w (upd H a o) h':=fun b u e=>by
 have hn:=x.fresh hp
 by_cases hb:b=a
 ·subst hb;rw[zab] at e;cases e;exact new
 ·rw[zaf hb] at e
  exact(x b u e).stay (fun c v _ q=>k c v q) (fun c q=>by rw[zaf (zae q hn)];exact q) (fun c xs q=>by rw[zaf (zae q hn)];exact q) fun c ob q=>by rw[zaf (zae q hn)];exact q
end
def Rd (H:Hp) (a:Addr) (u:HO):Prop:=H a=some u∨∃ o,H a=some (.frz o u)
theorem Rd.ok {P:Program}{w:World}{H:Hp}{h:Heap}{a:Addr}{u:HO} (r:Rd H a u) (x:HOk P w H h):zbw P w H h a u:=by
 rcases r with r|⟨o,r⟩
 ·exact x a u r
 ·obtain⟨_,q⟩:=x a _ r
  exact q
def Mut:Option HO→Prop
 | some (.lst _)=>True
 | some (.dK _)=>True
 | some (.dT _)=>True
 | some (.set _ _)=>True
 | some (.ins _ _ _)=>True
 | some (.ext _)=>True
 | _=>False
section
variable {P:Program}{w:World}{H:Hp}{h h':Heap}{x e:Addr}{o':HO}
theorem HOk.write (ok:HOk P w H h) (mu:Mut (H x)) (he:e=x∨H e=some (.own x)) (k:∀ b u,b≠e→h.get? b=some u→h'.get? b=some u) (heo:∃ u,h'.get? e=some u)
  (new:zbw P w (upd H x o') h' x o'):HOk P w (upd H x o') h':=fun b u q=>by
 have nown:∀ c y,H c=some (.own y)→c≠x:=fun c y r z=>by subst z;rw[r] at mu;exact mu
 have ntup:∀ c xs,H c=some (.tup xs)→c≠x:=fun c xs r z=>by subst z;rw[r] at mu;exact mu
 by_cases hb:b=x
 ·subst hb;rw[zab] at q;cases q;exact new
 ·rw[zaf hb] at q
  by_cases hbe:b=e
  ·have q':H b=some (.own x):=by
    rcases he with z|z
    ·exact absurd (hbe.trans z) hb
    ·rw[hbe];exact z
   rw[q] at q';cases q'
   obtain⟨v,hv⟩:=heo
   exact⟨v,by rw[hbe];exact hv⟩
  ·refine(ok b u q).stay (fun c v hc r=>k c v ?_ r) (fun c r=>by rw[zaf (nown c b r)];exact r) (fun c xs r=>by rw[zaf (ntup c xs r)];exact r) fun c ob r=>by rw[zaf (fun z=>by subst z;rw[r] at mu;exact mu)];exact r
   rcases hc with rfl|hc
   ·exact hbe
   ·rintro rfl
    rcases he with z|z
    ·exact nown c b hc z
    ·rw[hc] at z;cases z;exact hb rfl
end
structure Un (fs ex:List Addr) (H H':Hp) (h h':Heap):Prop where
 keep:∀ b o,h.get? b=some o→H b=none→b∉fs→b∉ex→h'.get? b=some o
 slot:∀ b o,h.get? b=some o→H b=none→b∈fs→b∉ex→∃ sl,h'.get? b=some { o with slots:=sl }
 free:∀ b o,h.get? b=some o→H b=none→b∉ex→H' b=none
 there:∀ b o,h.get? b=some o→b∉ex→∃ o',h'.get? b=some o'
 tups:∀ b xs,H b=some (.tup xs)→H' b=some (.tup xs)
 frzs:∀ b o u,H b=some (.frz o u)→H' b=some (.frz o u)
 tbls:∀ b p q,H b=some (.tbl p q)→H' b=some (.tbl p q)
section
variable {fs fs' ex ex':List Addr}{H H1 H2:Hp}{h h1 h2 h':Heap}{a x e:Addr}{o:HO}
theorem Un.any (u:Un fs ex H H1 h h1){b:Addr}{ob:Obj} (q:h.get? b=some ob) (n:H b=none) (hx:b∉ex):∃ sl,h1.get? b=some { ob with slots:=sl }:=by
 by_cases hb:b∈fs
 ·exact u.slot b ob q n hb hx
 ·exact⟨ob.slots,u.keep b ob q n hb hx⟩
theorem Un.trans (a:Un fs ex H H1 h h1) (b:Un fs ex H1 H2 h1 h2):Un fs ex H H2 h h2 where
 keep:=fun c ob q n hc hx=>b.keep c ob (a.keep c ob q n hc hx) (a.free c ob q n hx) hc hx
 slot:=fun c ob q n hc hx=>by
  obtain⟨sl,e1⟩:=a.slot c ob q n hc hx
  obtain⟨sl',e2⟩:=b.slot c _ e1 (a.free c ob q n hx) hc hx
  exact⟨sl',e2⟩
 free:=fun c ob q n hx=>by
  obtain⟨o',e1⟩:=a.there c ob q hx
  exact b.free c o' e1 (a.free c ob q n hx) hx
 there:=fun c ob q hx=>by
  obtain⟨o',e1⟩:=a.there c ob q hx
  exact b.there c o' e1 hx
 tups:=fun c xs q=>b.tups c xs (a.tups c xs q)
 frzs:=fun c ob xs q=>b.frzs c ob xs (a.frzs c ob xs q)
 tbls:=fun c p q z=>b.tbls c p q (a.tbls c p q z)
theorem Un.kept (k:∀ b u,h.get? b=some u→h'.get? b=some u):Un fs ex H H h h':=
 ⟨fun b ob q _ _ _=>k b ob q,fun b ob q _ _ _=>⟨ob.slots,k b ob q⟩,fun _ _ _ n _=>n,fun b ob q _=>⟨ob,k b ob q⟩,fun _ _ q=>q,fun _ _ _ q=>q,fun _ _ _ q=>q⟩
theorem Un.refl:Un fs ex H H h h:=Un.kept fun _ _ q=>q
theorem Un.laid (k:∀ b u,h.get? b=some u→h'.get? b=some u) (hp:h.objs.size≤a) (hn:H a=none):Un fs ex H (upd H a o) h h' where
 keep:=fun b u q _ _ _=>k b u q
 slot:=fun b u q _ _ _=>⟨u.slots,k b u q⟩
 free:=fun b u q n _=>by rw[zaf (Nat.ne_of_lt (Nat.lt_of_lt_of_le (Heap.lt_size q) hp))];exact n
 there:=fun b u q _=>⟨u,k b u q⟩
 tups:=fun b xs q=>by rw[zaf (zae q hn)];exact q
 frzs:=fun b u xs q=>by rw[zaf (zae q hn)];exact q
 tbls:=fun b p r q=>by rw[zaf (zae q hn)];exact q
theorem Un.write (mu:Mut (H x)) (he:e=x∨H e=some (.own x)) (k:∀ b u,b≠e→h.get? b=some u→h'.get? b=some u) (heo:∃ u,h'.get? e=some u):Un fs ex H (upd H x o) h h':=by
 have hx:∀ b,H b=none→b≠x:=fun b n z=>by subst z;rw[n] at mu;exact mu
 have hb:∀ b,H b=none→b≠e:=fun b n z=>by
  subst z
  rcases he with r|r
  ·exact hx b n r
  ·rw[n] at r;cases r
 have hm:∀ b u,H b=some u→¬ Mut (some u)→b≠x:=fun b u q nm z=>by subst z;rw[q] at mu;exact nm mu
 refine⟨fun b u q n _ _=>k b u (hb b n) q,fun b u q n _ _=>⟨u.slots,k b u (hb b n) q⟩,fun b u q n _=>by rw[zaf (hx b n)];exact n,fun b u q _=>?_,
  fun b xs q=>by rw[zaf (hm b _ q fun z=>z)];exact q,fun b u xs q=>by rw[zaf (hm b _ q fun z=>z)];exact q,fun b p r q=>by rw[zaf (hm b _ q fun z=>z)];exact q⟩
 by_cases hbe:b=e
 ·subst hbe;exact heo
 ·exact⟨u,k b u hbe q⟩
end
def trk (h:Heap) (H:Hp):List Addr:=(List.range h.objs.size).filter fun a=>(H a).isSome
def zkB (h:Heap) (H:Hp):Heap:=PySem.W.hideAll h (trk h H)
theorem zii (h:Heap) (H:Hp):(zkB h H).objs.size=h.objs.size:=PySem.W.hideAll_size _ _
theorem zfi {h:Heap}{H:Hp}{b:Addr}{o:Obj} (e:h.get? b=some o) (n:H b=none):(zkB h H).get? b=some o:=
 PySem.W.hideAll_get _ e fun hm=>by
  have q:(H b).isSome=true:=(List.mem_filter.mp hm).2
  rw[n] at q;simp at q
theorem zkX {h:Heap}{H:Hp}{b:Addr}{o:Obj} (e:(zkB h H).get? b=some o):h.get? b=some o∧H b=none:=by
 have e':h.get? b=some o:=PySem.W.of_hideAll (trk h H) e
 refine⟨e',?_⟩
 cases q:H b with
 | none=>rfl
 | some x=>
  have hm:b∈trk h H:=List.mem_filter.mpr ⟨List.mem_range.mpr (Heap.lt_size e'),by simp[q]⟩
  have z:(zkB h H).get? b=none:=PySem.W.hideAll_none (trk h H) hm
  rw[z] at e;cases e
def zkY (g h:Heap) (L:Addr):List (Addr×Obj):=(List.range h.objs.size).filterMap fun a=>if a=L∨(g.get? a).isSome=true then none else(h.get? a).map fun o=>(a,o)
def zbx (g h:Heap) (L d:Addr):List (Addr×Obj):=(zkY g h L).filter fun p=>decide (p.1≠d)
end L2
namespace L2
open PySem PySem.Spec PyProof.Rows
structure Mod (K:PySem.W.Frag) (mg:Str→Option Value) (base:Heap):Prop where
 kin:K.In base
 glob:base.Ns mainGlobals mg
 blt:∃ mb,base.Ns builtinsNs mb∧∀ x:Str,x≠"__name__"→mb x=bootBuiltins x
 nolimit:base.NoLimit
 bmain:∃ bm ob,mg "__builtins__"=some (.ref bm)∧bm≠builtinsNs∧base.get? bm=some ob∧ob.cls=.type "module"∧ob.dict=some builtinsNs∧ob.data=.plain
structure Cx where
 prog:Program
 w:World
 K:PySem.W.Frag
 mg:Str→Option Value
 base:Heap
 A:Around
 N:List Str
 s₀:Shared
 H₀:Hp
 env:Env
 outer:List Env
 stack:List Env
 ex:List Addr
 fn:Str→Bool
 calm:Bool
 pn:List (Addr×Obj)
 xe:Value→Shared→Prop
def frs (l:List Env):List Addr:=l.filterMap (·.frame)
abbrev Cx.fs (X:Cx):List Addr:=frs X.outer
def Vis (sc:Scope) (x:Str):Prop:=sc.names.lookup x=some .local∨sc.names.lookup x=some .cell∨sc.names.lookup x=some .free
def Loc (sc:Scope) (x:Str):Prop:=sc.names.lookup x=some .local∨sc.names.lookup x=some .cell
def Look (env:Env) (h:Heap) (m:Str→Option Value) (x:Str) (u:Value):Prop:=
 (env.kindOf x=some .local∧m x=some u)∨((env.kindOf x=some .cell∨env.kindOf x=some .free)∧∃ c,env.cells.lookup x=some c∧h.IsCell c (some u))
def zij (H:Hp) (cs:List Addr):Prop:=cs.Nodup∧∀ j a,cs[j]?=some a→∃ o u vs,H a=some (.frz o u)∧o.data=.fields vs∧vs[2]?=some (nxt cs (j + 1))
def zik (A:Around) (H:Hp):Prop:=A.handled=none∨∃ a cs,A.handled=some (.ref a)∧zij H (a::cs)
structure Cx.Ok (X:Cx):Prop where
 mod:Mod X.K X.mg X.base
 kind:X.env.scope.kind=.function
 glob:X.env.globals=mainGlobals
 blt:X.env.builtins=builtinsNs
 above:X.s₀.heap.objs.size≤X.env.locals
 inj:∀ x y c,X.env.cells.lookup x=some c→X.env.cells.lookup y=some c→x=y
 has:∀ x,(X.env.kindOf x=some .cell∨X.env.kindOf x=some .free)→∃ c,X.env.cells.lookup x=some c
 cab:∀ x c,X.fn x=true→X.env.cells.lookup x=some c→X.s₀.heap.objs.size≤c
 hd:zik X.A X.H₀
 frames:X.A.frames=some X.stack
 stk:X.stack=X.outer∨(X.stack=X.env::X.outer∧X.env.frame=some X.env.locals)
 exf:∀ b∈X.ex,b≠X.env.locals∧∀ x c,X.env.cells.lookup x=some c→c≠b
 bs:∀ b o,X.base.get? b=some o→X.s₀.heap.get? b=some o∧X.H₀ b=none
 bsz:X.base.objs.size≤X.s₀.heap.objs.size
 noex:∀ b o,X.base.get? b=some o→b∉X.ex
 exfs:∀ b∈X.ex,b∉X.fs
 funs:X.s₀.heap.FunFrames X.base X.outer
 frf:∀ b∈X.fs,X.H₀ b=none
structure Inv (X:Cx) (pins:List (Addr×Obj)) (σ:List (Option V)) (H:Hp) (s:Shared):Prop where
 ok:X.Ok
 os:s.os=X.s₀.os
 bare:AllBare s.gens
 base:Un X.fs X.ex X.H₀ H X.s₀.heap s.heap
 loc:∃ m,s.heap.Ns X.env.locals m∧∀ (i:Nat) (x:Str) (v:V),X.N[i]?=some x→σ[i]?=some (some v)→Vis X.env.scope x→∃ u,za8 v u∧Look X.env s.heap m x u
 cell:∀ x c,X.env.cells.lookup x=some c→∃ v,s.heap.IsCell c v
 free:H X.env.locals=none
 freeC:∀ x c,X.env.cells.lookup x=some c→H c=none
 pin:∀ p∈X.pn++pins,s.heap.get? p.1=some p.2∧H p.1=none∧p.1≠X.env.locals∧p.1∉X.fs∧∀ v,p.2.data≠.cell v
 hok:HOk X.prog X.w H s.heap
 len:σ.length=X.N.length
section
variable {X:Cx}{pins:List (Addr×Obj)}{σ:List (Option V)}{H H':Hp}{s:Shared}{h':Heap}
theorem Cx.Ok.nofr (ok:X.Ok){b:Addr}{o:Obj} (e:X.base.get? b=some o):b∉X.fs:=fun hb=>by
 have:=(ok.funs.mem hb).1
 rw[e] at this;cases this
theorem Inv.bs (I:Inv X pins σ H s):∀ b o,X.base.get? b=some o→s.heap.get? b=some o∧H b=none:=fun b o e=>
 ⟨I.base.keep b o (I.ok.bs b o e).1 (I.ok.bs b o e).2 (I.ok.nofr e) (I.ok.noex b o e),I.base.free b o (I.ok.bs b o e).1 (I.ok.bs b o e).2 (I.ok.noex b o e)⟩
theorem Inv.bk (I:Inv X pins σ H s):∀ b o,X.base.get? b=some o→s.heap.get? b=some o:=fun b o e=>(I.bs b o e).1
theorem Inv.mod (I:Inv X pins σ H s):Mod X.K X.mg X.base:=I.ok.mod
theorem Inv.kIn (I:Inv X pins σ H s):X.K.In s.heap:=I.ok.mod.kin.keeps I.bk
theorem zij.mono {cs:List Addr} (c:zij H cs) (k:∀ b o u,H b=some (.frz o u)→H' b=some (.frz o u)):zij H' cs:=⟨c.1,fun j a hj=>by
 obtain⟨o,u,vs,h,r⟩:=c.2 j a hj
 exact⟨o,u,vs,k a o u h,r⟩⟩
theorem zij.chn {cs:List Addr}{P:Program}{w:World}{h:Heap} (c:zij H cs) (k:HOk P w H h):Chn h cs:=⟨c.1,fun j a hj=>by
 obtain⟨o,u,vs,q,r⟩:=c.2 j a hj
 obtain⟨z,_⟩:=k a _ q
 exact⟨o,vs,z,r⟩⟩
theorem zij.not_mem {cs:List Addr}{b:Addr} (c:zij H cs) (hb:H b=none):b∉cs:=fun z=>by
 obtain⟨j,hj⟩:=List.mem_iff_getElem?.mp z
 obtain⟨o,u,vs,q,_⟩:=c.2 j b hj
 rw[hb] at q;cases q
theorem zik.mono {A:Around} (x:zik A H) (k:∀ b o u,H b=some (.frz o u)→H' b=some (.frz o u)):zik A H':=by
 rcases x with e|⟨a,cs,e,c⟩
 ·exact .inl e
 ·exact .inr ⟨a,cs,e,c.mono k⟩
theorem Inv.hdAt (I:Inv X pins σ H s):zik X.A H:=I.ok.hd.mono I.base.frzs
theorem zik.hd {A:Around}{P:Program}{w:World}{h:Heap} (x:zik A H) (k:HOk P w H h):Hd A h:=by
 rcases x with e|⟨a,cs,e,c⟩
 ·exact .inl e
 ·exact .inr ⟨a,cs,e,c.chn k⟩
theorem zik.new {A:Around}{p:Addr}{u:HO} (x:zik A H) (hn:H p=none):zik A (upd H p u):=x.mono fun b o v q=>by rw[zaf (zae q hn)];exact q
theorem Inv.hd (I:Inv X pins σ H s):Hd X.A s.heap:=I.hdAt.hd I.hok
theorem Inv.lt (I:Inv X pins σ H s):X.env.locals<s.heap.objs.size:=let ⟨_,hn,_⟩:=I.loc;hn.lt
theorem Inv.sz (I:Inv X pins σ H s):X.s₀.heap.objs.size≤s.heap.objs.size:=Nat.le_trans I.ok.above (Nat.le_of_lt I.lt)
theorem Inv.nofs (I:Inv X pins σ H s){a:Addr} (h:s.heap.objs.size≤a):a∉X.fs:=fun hb=>by
 obtain⟨_,o,ho,_⟩:=I.ok.funs.mem hb
 exact absurd (Nat.lt_of_lt_of_le (Heap.lt_size ho) (Nat.le_trans I.sz h)) (Nat.lt_irrefl _)
theorem Inv.cne (I:Inv X pins σ H s):∀ x c,X.env.cells.lookup x=some c→c≠X.env.locals:=fun x c e z=>by
 obtain⟨v,o,ho,hd⟩:=I.cell x c e
 obtain⟨m,⟨o',es,ep,ho',hd',_⟩,_⟩:=I.loc
 rw[z,ho'] at ho;cases ho;rw[hd'] at hd;cases hd
theorem Inv.funs (I:Inv X pins σ H s):s.heap.FunFrames X.base X.outer:=by
 have all:∀ (l:List Env),(∀ b∈frs l,b∈X.fs)→X.s₀.heap.FunFrames X.base l→s.heap.FunFrames X.base l:=by
  intro l
  induction l with
  | nil=>intro _ _;trivial
  | cons env r ih=>
   intro hs hl
   obtain⟨hk,⟨L,o,hf,hn,ho,hd⟩,hr⟩:=hl
   have hL:L∈X.fs:=hs L (by unfold frs;rw[List.filterMap_cons,hf];exact List.mem_cons_self)
   obtain⟨sl,e⟩:=I.base.slot L o ho (I.ok.frf L hL) hL fun z=>I.ok.exfs L z hL
   exact⟨hk,⟨L,_,hf,hn,e,hd⟩,ih (fun b hb=>hs b (by unfold frs;rw[List.filterMap_cons,hf];exact List.mem_cons_of_mem _ hb)) hr⟩
 exact all X.outer (fun _ hb=>hb) I.ok.funs
theorem Inv.stack (I:Inv X pins σ H s):s.heap.FunFrames X.base X.stack:=by
 rcases I.ok.stk with e|⟨e,hf⟩
 ·rw[e];exact I.funs
 ·rw[e]
  obtain⟨m,hn,_⟩:=I.loc
  refine .cons (by rw[I.ok.kind];decide) hf hn ?_ I.funs
  exact Heap.get?_none_of_le (Nat.le_trans I.ok.bsz I.ok.above)
theorem Inv.stkSub (I:Inv X pins σ H s):∀ b∈frs X.stack,b∈X.env.locals::X.fs:=fun b hb=>by
 rcases I.ok.stk with e|⟨e,hf⟩
 ·rw[e] at hb;exact List.mem_cons_of_mem _ hb
 ·rw[e] at hb
  unfold frs at hb
  rw[List.filterMap_cons,hf] at hb
  exact hb
theorem Inv.stkFree (I:Inv X pins σ H s):∀ b∈frs X.stack,H b=none:=fun b hb=>by
 rcases List.mem_cons.mp (I.stkSub b hb) with e|hb
 ·rw[e];exact I.free
 ·obtain⟨_,o,ho,_⟩:=I.ok.funs.mem hb
  exact I.base.free b o ho (I.ok.frf b hb) fun z=>I.ok.exfs b z hb
theorem Inv.step {g':Array GenState}{t':Nat}{d':Drawn}{ch:List Addr} (I:Inv X pins σ H s)
  (hch:∀ b∈ch,(b∈X.ex∨X.s₀.heap.objs.size≤b)∧b≠X.env.locals∧(∀ x c,X.env.cells.lookup x=some c→c≠b)∧∀ p∈X.pn++pins,p.1≠b)
  (keep:∀ b o,b≠X.env.locals→b∉X.fs→b∉ch→s.heap.get? b=some o→H b=none→h'.get? b=some o)
  (slot:∀ b o,b≠X.env.locals→b∈X.fs→b∉ch→s.heap.get? b=some o→H b=none→∃ sl,h'.get? b=some { o with slots:=sl }) (free:∀ b o,b∉ch→s.heap.get? b=some o→H b=none→H' b=none)
  (there:∀ b o,b∉ch→s.heap.get? b=some o→∃ o',h'.get? b=some o')
  (tups:∀ b xs,H b=some (.tup xs)→H' b=some (.tup xs)) (frzs:∀ b o u,H b=some (.frz o u)→H' b=some (.frz o u)) (tbls:∀ b p q,H b=some (.tbl p q)→H' b=some (.tbl p q))
  (ns:∀ m,s.heap.Ns X.env.locals m→h'.Ns X.env.locals m) (hok:HOk X.prog X.w H' h') (hg:AllBare g') :
  Inv X pins σ H' { s with heap:=h',gens:=g',drawn:=d',toks:=t' }:=by
 have neL:∀ b o,X.s₀.heap.get? b=some o→b≠X.env.locals:=fun b o e=>Nat.ne_of_lt (Nat.lt_of_lt_of_le (Heap.lt_size e) I.ok.above)
 have neC:∀ b o,X.s₀.heap.get? b=some o→b∉X.ex→b∉ch:=fun b o e hx hb=>by
  rcases(hch b hb).1 with z|z
  ·exact hx z
  ·exact absurd (Nat.lt_of_lt_of_le (Heap.lt_size e) z) (Nat.lt_irrefl _)
 have cellK:∀ x c,X.env.cells.lookup x=some c→∀ v,s.heap.IsCell c v→h'.IsCell c v:=fun x c e v ⟨o,ho,hd⟩=>by
  have nch:c∉ch:=fun z=>(hch c z).2.2.1 x c e rfl
  by_cases hc:c∈X.fs
  ·obtain⟨sl,q⟩:=slot c o (I.cne x c e) hc nch ho (I.freeC x c e)
   exact⟨_,q,hd⟩
  ·exact⟨o,keep c o (I.cne x c e) hc nch ho (I.freeC x c e),hd⟩
 refine⟨I.ok,I.os,hg,⟨fun b o e n hb hx=>?_,fun b o e n hb hx=>?_,fun b o e n hx=>?_,fun b o e hx=>?_,fun b xs e=>tups b xs (I.base.tups b xs e),fun b o xs e=>frzs b o xs (I.base.frzs b o xs e),fun b p q e=>tbls b p q (I.base.tbls b p q e)⟩,?_,fun x c e=>?_,?_,fun x c e=>?_,fun p hp=>?_,hok,I.len⟩
 ·exact keep b o (neL b o e) hb (neC b o e hx) (I.base.keep b o e n hb hx) (I.base.free b o e n hx)
 ·obtain⟨sl,e1⟩:=I.base.slot b o e n hb hx
  obtain⟨sl',e2⟩:=slot b _ (neL b o e) hb (neC b o e hx) e1 (I.base.free b o e n hx)
  exact⟨sl',e2⟩
 ·obtain⟨o',e1⟩:=I.base.there b o e hx
  exact free b o' (neC b o e hx) e1 (I.base.free b o e n hx)
 ·obtain⟨o',e1⟩:=I.base.there b o e hx
  exact there b o' (neC b o e hx) e1
 ·obtain⟨m,hn,hl⟩:=I.loc
  refine⟨m,ns m hn,fun i x v e1 e2 e3=>?_⟩
  obtain⟨u,r,l⟩:=hl i x v e1 e2 e3
  refine⟨u,r,?_⟩
  rcases l with l|⟨k,c,e,z⟩
  ·exact .inl l
  ·exact .inr ⟨k,c,e,cellK x c e _ z⟩
 ·obtain⟨v,z⟩:=I.cell x c e
  exact⟨v,cellK x c e v z⟩
 ·obtain⟨m,⟨o,_,_,ho,_⟩,_⟩:=I.loc
  exact free _ o (fun z=>(hch _ z).2.1 rfl) ho I.free
 ·obtain⟨v,o,ho,hd⟩:=I.cell x c e
  exact free c o (fun z=>(hch c z).2.2.1 x c e rfl) ho (I.freeC x c e)
 ·obtain⟨e,n,ne,nf,d⟩:=I.pin p hp
  have nch:p.1∉ch:=fun z=>(hch p.1 z).2.2.2 p hp rfl
  exact⟨keep p.1 p.2 ne nf nch e n,free p.1 p.2 nch e n,ne,nf,d⟩
theorem Inv.un {t':Nat} (I:Inv X pins σ H s) (u:Un X.fs [] H H' s.heap h') (hok:HOk X.prog X.w H' h'):Inv X pins σ H' { s with heap:=h',toks:=t' }:=by
 obtain⟨m,⟨o,es,ep,ho,r⟩,_⟩:=id I.loc
 obtain⟨sl,hL⟩:=u.any ho I.free (by simp)
 exact I.step (g':=s.gens) (d':=s.drawn) (ch:=[]) (fun _ z=>nomatch z) (fun b o _ hb _ e n=>u.keep b o e n hb (by simp)) (fun b o _ hb _ e n=>u.slot b o e n hb (by simp)) (fun b o _ e n=>u.free b o e n (by simp)) (fun b o _ e=>u.there b o e (by simp)) u.tups u.frzs u.tbls (fun m' hm=>by
  obtain⟨o',es',ep',ho',r'⟩:=hm
  rw[ho] at ho';cases ho'
  exact⟨_,es',ep',hL,r'⟩) hok I.bare
theorem Inv.call {g':Array GenState}{t':Nat}{d':Drawn}{ch:List Addr} (I:Inv X pins σ H s) (u:Un (frs X.stack) ch H H' s.heap h') (hok:HOk X.prog X.w H' h') (hg:AllBare g')
  (hch:∀ b∈ch,(b∈X.ex∨X.s₀.heap.objs.size≤b)∧b≠X.env.locals∧(∀ x c,X.env.cells.lookup x=some c→c≠b)∧∀ p∈X.pn++pins,p.1≠b) :
  Inv X pins σ H' { s with heap:=h',gens:=g',drawn:=d',toks:=t' }:=by
 obtain⟨m,⟨o,es,ep,ho,r⟩,_⟩:=id I.loc
 obtain⟨sl,hL⟩:=u.any ho I.free fun z=>(hch _ z).2.1 rfl
 exact I.step (ch:=ch) hch (fun b o hL hb hc e n=>u.keep b o e n (fun z=>(List.mem_cons.mp (I.stkSub b z)).elim hL hb) hc) (fun b o _ _ hc e n=>u.any e n hc) (fun b o hc e n=>u.free b o e n hc) (fun b o hc e=>u.there b o e hc) u.tups u.frzs u.tbls (fun m' hm=>by
  obtain⟨o',es',ep',ho',r'⟩:=hm
  rw[ho] at ho';cases ho'
  exact⟨_,es',ep',hL,r'⟩) hok hg
theorem Inv.turned {t':Nat}{it:Addr} (I:Inv X pins σ H s) (k:∀ b o,b≠it→s.heap.get? b=some o→h'.get? b=some o) (hn:H it=none) (hL:it≠X.env.locals)
  (h1:it∈X.ex∨X.s₀.heap.objs.size≤it) (h2:∀ x c,X.env.cells.lookup x=some c→c≠it) (h3:∀ p∈X.pn++pins,p.1≠it):Inv X pins σ H { s with heap:=h',toks:=t' }:=by
 have nit:∀ b u,H b=some u→b≠it:=fun b u e z=>by rw[z,hn] at e;cases e
 refine I.step (g':=s.gens) (d':=s.drawn) (ch:=[it]) (fun b hb=>?_) (fun b o _ _ hc e _=>k b o (fun z=>hc (by simp[z])) e) (fun b o _ _ hc e _=>⟨o.slots,k b o (fun z=>hc (by simp[z])) e⟩) (fun _ _ _ _ n=>n)
  (fun b o hc e=>⟨o,k b o (fun z=>hc (by simp[z])) e⟩) (fun _ _ e=>e) (fun _ _ _ e=>e) (fun _ _ _ e=>e) (fun m hm=>?_) (fun b u e=>?_) I.bare
 ·have e:b=it:=by simpa using hb
  subst e
  exact⟨h1,hL,h2,h3⟩
 ·obtain⟨o,es,ep,ho,r⟩:=hm
  exact⟨o,es,ep,k _ o (Ne.symm hL) ho,r⟩
 ·refine(I.hok b u e).stay (fun c v hc q=>k c v ?_ q) (fun _ q=>q) fun _ _ q=>q
  rcases hc with z|z
  ·rw[z];exact nit b u e
  ·exact nit c _ z
theorem Inv.tok (I:Inv X pins σ H s) (t:Nat):Inv X pins σ H { s with toks:=t }:=I.un (h':=s.heap) (t':=t) Un.refl I.hok
theorem Inv.kept {t':Nat} (I:Inv X pins σ H s) (k:∀ b u,s.heap.get? b=some u→h'.get? b=some u):Inv X pins σ H { s with heap:=h',toks:=t' }:=I.un (Un.kept k) (I.hok.kept k)
theorem Inv.laid {a:Addr}{o:HO}{t':Nat} (I:Inv X pins σ H s) (k:∀ b u,s.heap.get? b=some u→h'.get? b=some u) (hp:s.heap.objs.size≤a) (new:zbw X.prog X.w (upd H a o) h' a o) :
  Inv X pins σ (upd H a o) { s with heap:=h',toks:=t' }:=I.un (Un.laid k hp (I.hok.fresh hp)) (I.hok.laid k hp new)
theorem Inv.write {x e:Addr}{o:HO}{t':Nat} (I:Inv X pins σ H s) (mu:Mut (H x)) (he:e=x∨H e=some (.own x)) (k:∀ b u,b≠e→s.heap.get? b=some u→h'.get? b=some u) (heo:∃ u,h'.get? e=some u)
  (new:zbw X.prog X.w (upd H x o) h' x o):Inv X pins σ (upd H x o) { s with heap:=h',toks:=t' }:=I.un (Un.write mu he k heo) (I.hok.write mu he k heo new)
theorem Inv.pins_of {pins':List (Addr×Obj)} (I:Inv X pins σ H s) (h:∀ p∈pins',s.heap.get? p.1=some p.2∧H p.1=none∧p.1≠X.env.locals∧p.1∉X.fs∧∀ v,p.2.data≠.cell v):Inv X pins' σ H s:=
 ⟨I.ok,I.os,I.bare,I.base,I.loc,I.cell,I.free,I.freeC,fun p hp=>(List.mem_append.mp hp).elim (fun z=>I.pin p (List.mem_append_left _ z)) (h p),I.hok,I.len⟩
theorem zfj {N:List Str} (hN:N.Nodup){i j:Nat}{x:Str} (a:N[i]?=some x) (b:N[j]?=some x):i=j:=by
 obtain⟨h1,e1⟩:=List.getElem?_eq_some_iff.mp a
 obtain⟨h2,e2⟩:=List.getElem?_eq_some_iff.mp b
 exact(List.getElem_inj hN).mp (e1.trans e2.symm)
theorem zfW {M:Model}{A:Around}{E:Value→Shared→Prop}{i:Nat}{x:Str}{v:V}{u:Value}{Q:Unit→Shared→Prop} (I:Inv X pins σ H s) (hN:X.N.Nodup) (hi:X.N[i]?=some x) (hx:Loc X.env.scope x) (r:za8 v u)
  (h:∀ s',Inv X pins (σ.set i (some v)) H s'→(∃ a,Heap.SameBut a s.heap s'.heap∧(a=X.env.locals∨X.env.cells.lookup x=some a))→Q () s') (hf:X.fn x=true∨X.env.scope.names.lookup x=some .local:=by first|exact .inl rfl|exact .inr rfl|assumption):wpAny M A (storeName X.env x u) Q E s:=by
 obtain⟨m,hn,hl⟩:=id I.loc
 have hcls:(X.env.scope.kind == .class || (X.env.scope.kind == .module && X.env.locals != X.env.globals))=false:=by rw[I.ok.kind];rfl
 have hiσ:i<σ.length:=by rw[I.len];exact(List.getElem?_eq_some_iff.mp hi).1
 have cne:=I.cne
 have tracked:∀ {a:Addr}{h':Heap},(∃ o,s.heap.get? a=some o∧H a=none)→Heap.SameBut a s.heap h'→HOk X.prog X.w H h':=fun {a h'} ha hs b ob e=>by
  obtain⟨_,_,hfree⟩:=ha
  refine(I.hok b ob e).stay (fun c w' hc q=>(hs.2 c ?_).trans q) (fun _ q=>q) fun _ _ q=>q
  rintro rfl
  rcases hc with rfl|hc
  ·rw[hfree] at e;cases e
  ·rw[hfree] at hc;cases hc
 rcases hx with hk|hk
 ·refine wpAny_storeName_local hk hn (fun h' hn' hs=>?_) hcls
  obtain⟨oL,_,_,hoL,_⟩:=id hn
  refine h _ ⟨I.ok,I.os,I.bare,⟨fun b o e n hb hx=>?_,fun b o e n hb hx=>?_,I.base.free,fun b o e hx=>?_,I.base.tups,I.base.frzs,I.base.tbls⟩,⟨_,hn',fun j y v' e1 e2 e3=>?_⟩,fun y c e=>?_,I.free,I.freeC,fun p hp=>?_,tracked ⟨oL,hoL,I.free⟩ hs,by simpa using I.len⟩ ⟨_,hs,.inl rfl⟩
  ·exact(hs.2 b (Nat.ne_of_lt (Nat.lt_of_lt_of_le (Heap.lt_size e) I.ok.above))).trans (I.base.keep b o e n hb hx)
  ·obtain⟨sl,e1⟩:=I.base.slot b o e n hb hx
   exact⟨sl,(hs.2 b (Nat.ne_of_lt (Nat.lt_of_lt_of_le (Heap.lt_size e) I.ok.above))).trans e1⟩
  ·obtain⟨o',e1⟩:=I.base.there b o e hx
   exact⟨o',(hs.2 b (Nat.ne_of_lt (Nat.lt_of_lt_of_le (Heap.lt_size e) I.ok.above))).trans e1⟩
  ·by_cases hj:j=i
   ·subst hj
    rw[hi] at e1;cases e1
    rw[List.getElem?_set_self hiσ] at e2
    cases e2
    exact⟨u,r,.inl ⟨hk,by simp⟩⟩
   ·rw[List.getElem?_set_ne (Ne.symm hj)] at e2
    obtain⟨u',r',q⟩:=hl j y v' e1 e2 e3
    refine⟨u',r',?_⟩
    rcases q with⟨k,e⟩|⟨k,c,e,z⟩
    ·refine .inl ⟨k,?_⟩
     have:y≠x:=fun e=>hj (zfj hN e1 (e ▸ hi))
     simp[this,e]
    ·exact .inr ⟨k,c,e,z.sameBut hs (cne y c e)⟩
  ·obtain⟨w',z⟩:=I.cell y c e
   exact⟨w',z.sameBut hs (cne y c e)⟩
  ·obtain⟨e,n,ne,nf,d⟩:=I.pin p hp
   exact⟨(hs.2 p.1 ne).trans e,n,ne,nf,d⟩
 ·have hfn:X.fn x=true:=by
   rcases hf with z|z
   ·exact z
   ·rw[z] at hk;cases hk
  obtain⟨c,hc⟩:=I.ok.has x (.inl hk)
  obtain⟨w',z⟩:=I.cell x c hc
  refine wpAny_storeName_cell I.ok.kind hk hc z (fun h' hc' hs=>?_)
  obtain⟨oc,hoc,hocd⟩:=id z
  refine h { s with heap:=h' } ⟨I.ok,I.os,I.bare,⟨fun b o e n hb hx=>?_,fun b o e n hb hx=>?_,I.base.free,fun b o e hx=>?_,I.base.tups,I.base.frzs,I.base.tbls⟩,⟨m,hn.sameBut hs (Ne.symm (cne x c hc)),fun j y v' e1 e2 e3=>?_⟩,fun y c' e=>?_,I.free,I.freeC,fun p hp=>?_,tracked ⟨oc,hoc,I.freeC x c hc⟩ hs,by simpa using I.len⟩ ⟨c,hs,.inr hc⟩
  ·exact(hs.2 b (Nat.ne_of_lt (Nat.lt_of_lt_of_le (Heap.lt_size e) (I.ok.cab x c hfn hc)))).trans (I.base.keep b o e n hb hx)
  ·obtain⟨sl,e1⟩:=I.base.slot b o e n hb hx
   exact⟨sl,(hs.2 b (Nat.ne_of_lt (Nat.lt_of_lt_of_le (Heap.lt_size e) (I.ok.cab x c hfn hc)))).trans e1⟩
  ·obtain⟨o',e1⟩:=I.base.there b o e hx
   exact⟨o',(hs.2 b (Nat.ne_of_lt (Nat.lt_of_lt_of_le (Heap.lt_size e) (I.ok.cab x c hfn hc)))).trans e1⟩
  ·by_cases hj:j=i
   ·subst hj
    rw[hi] at e1;cases e1
    rw[List.getElem?_set_self hiσ] at e2
    cases e2
    exact⟨u,r,.inr ⟨.inl hk,c,hc,hc'⟩⟩
   ·rw[List.getElem?_set_ne (Ne.symm hj)] at e2
    obtain⟨u',r',q⟩:=hl j y v' e1 e2 e3
    refine⟨u',r',?_⟩
    rcases q with q|⟨k,c',e,z'⟩
    ·exact .inl q
    ·refine .inr ⟨k,c',e,z'.sameBut hs ?_⟩
     rintro rfl
     exact hj (zfj hN e1 (I.ok.inj _ _ _ e hc ▸ hi))
  ·by_cases hcc:c'=c
   ·subst hcc;exact⟨_,hc'⟩
   ·obtain⟨w2,z2⟩:=I.cell y c' e
    exact⟨w2,z2.sameBut hs hcc⟩
  ·obtain⟨e,n,ne,nf,d⟩:=I.pin p hp
   refine⟨(hs.2 p.1 ?_).trans e,n,ne,nf,d⟩
   intro q
   rw[q,hoc] at e
   have q':oc=p.2:=Option.some.inj e
   exact d w' (by rw[← q'];exact hocd)
theorem zfk {M:Model}{A:Around}{E:Value→Shared→Prop}{i:Nat}{x:Str}{v:V}{u:Value}{Q:Unit→Shared→Prop} (I:Inv X pins σ H s) (hN:X.N.Nodup) (hi:X.N[i]?=some x) (hx:Loc X.env.scope x) (r:za8 v u)
  (h:∀ s',Inv X pins (σ.set i (some v)) H s'→Q () s') (hf:X.fn x=true∨X.env.scope.names.lookup x=some .local:=by first|exact .inl rfl|exact .inr rfl|assumption):wpAny M A (storeName X.env x u) Q E s:=
 zfW I hN hi hx r (fun s' I' _=>h s' I') hf
theorem Inv.call' {s':Shared}{ch:List Addr} (I:Inv X pins σ H s) (ho:s'.os=s.os) (u:Un (frs X.stack) ch H H' s.heap s'.heap) (hok:HOk X.prog X.w H' s'.heap) (hg:AllBare s'.gens)
  (hch:∀ b∈ch,(b∈X.ex∨X.s₀.heap.objs.size≤b)∧b≠X.env.locals∧(∀ x c,X.env.cells.lookup x=some c→c≠b)∧∀ p∈X.pn++pins,p.1≠b):Inv X pins σ H' s':=by
 obtain⟨h',g',d',t',o'⟩:=s'
 have e:o'=s.os:=ho
 subst e
 exact I.call (g':=g') (t':=t') (d':=d') u hok hg hch
end
abbrev XK:=Value→Option Addr→Hp→Prop
abbrev St:=List (Option V)
abbrev VK:=V→Hp→Prop
abbrev TE:=St→Hp→VK→Prop
abbrev TT:=St→Hp→(Bool→Hp→Prop)→Prop
abbrev TA:=St→Hp→(List V→Hp→Prop)→Prop
structure zgL where
 nx:St→Hp→Prop
 rt:VK
 bk:St→Hp→Prop:=fun _ _=>False
 ct:St→Hp→Prop:=fun _ _=>False
abbrev TS:=zgL→St→Hp→Prop
def EP (X:Cx) (pins:List (Addr×Obj)) (σ:St) (Q:VK) (u:Value) (s':Shared):Prop:=∃ v H',Inv X pins σ H' s'∧za8 v u∧Q v H'
def TP (X:Cx) (pins:List (Addr×Obj)) (σ:St) (Q:Bool→Hp→Prop) (b:Bool) (s':Shared):Prop:=∃ H',Inv X pins σ H' s'∧Q b H'
def AP (X:Cx) (pins:List (Addr×Obj)) (σ:St) (Q:List V→Hp→Prop) (us:List Value) (s':Shared):Prop:=∃ vs H',Inv X pins σ H' s'∧zaX vs us∧Q vs H'
def SP (X:Cx) (pins:List (Addr×Obj)) (D:zgL) (f:Flow) (s':Shared):Prop:=
 match f with
 | .next=>∃ σ' H',Inv X pins σ' H' s'∧D.nx σ' H'
 | .brk=>∃ σ' H',Inv X pins σ' H' s'∧D.bk σ' H'
 | .cont=>∃ σ' H',Inv X pins σ' H' s'∧D.ct σ' H'
 | .ret u=>∃ v σ' H',Inv X pins σ' H' s'∧za8 v u∧D.rt v H'
def PE (X:Cx) (e:Expr) (t:TE):Prop:=
 ∀ (pins:List (Addr×Obj)) (s:Shared) (σ:St) (H:Hp) (Q:VK),Inv X pins σ H s→t σ H Q→wpAny (model X.prog X.w) X.A (eval e X.env) (EP X pins σ Q) X.xe s
def PT (X:Cx) (e:Expr) (t:TT):Prop:=
 ∀ (pins:List (Addr×Obj)) (s:Shared) (σ:St) (H:Hp) (Q:Bool→Hp→Prop),Inv X pins σ H s→t σ H Q→wpAny (model X.prog X.w) X.A (isTrue e X.env (eval e X.env)) (TP X pins σ Q) X.xe s
def PW (X:Cx) (e:Expr) (t:TT):Prop:=
 ∀ (whole:Sem Value) (pins:List (Addr×Obj)) (s:Shared) (σ:St) (H:Hp) (Q:Bool→Hp→Prop),Inv X pins σ H s→t σ H Q→wpAny (model X.prog X.w) X.A (isTrue e X.env whole) (TP X pins σ Q) X.xe s
theorem PW.pt {X:Cx}{e:Expr}{t:TT} (h:PW X e t):PT X e t:=h _
def PA (X:Cx) (es:List Expr) (t:TA):Prop:=
 ∀ (pos:Pos) (pins:List (Addr×Obj)) (s:Shared) (σ:St) (H:Hp) (Q:List V→Hp→Prop),Inv X pins σ H s→t σ H Q→wpAny (model X.prog X.w) X.A (spliced (backTo pos (starEach es X.env))) (AP X pins σ Q) X.xe s
def PS (X:Cx) (st:Stmt) (t:TS):Prop:=
 ∀ (pins:List (Addr×Obj)) (s:Shared) (σ:St) (H:Hp) (D:zgL),Inv X pins σ H s→t D σ H→wpAny (model X.prog X.w) X.A (exec st X.env) (SP X pins D) X.xe s
def PSs (X:Cx) (st:List Stmt) (t:TS):Prop:=
 ∀ (pins:List (Addr×Obj)) (s:Shared) (σ:St) (H:Hp) (D:zgL),Inv X pins σ H s→t D σ H→wpAny (model X.prog X.w) X.A (execs st X.env) (SP X pins D) X.xe s
theorem thn {α:Type}{t:Sem α}{Q Q':α→Shared→Prop}{M:Model}{A:Around}{E:Value→Shared→Prop}{s:Shared} (h:wpAny M A t Q E s) (hQ:∀ a s,Q a s→Q' a s):wpAny M A t Q' E s:=wpAny_mono h hQ fun _ _ x=>x
end L2
namespace L2
open PySem PySem.Spec PyProof.Rows
section
variable {X:Cx}
def tVar (i:Nat):TE:=fun σ H Q=>∃ v,σ[i]?=some (some v)∧Q v H
def tC (v:V):TE:=fun _ H Q=>Q v H
theorem pe_var {i:Nat}{x:Str}{pos:Pos} (hN:X.N[i]?=some x) (hv:Vis X.env.scope x) (hd:(x == ("__debug__":Str))=false:=by decide) (hcd:(x == ("__classdict__":Str))=false:=by decide):PE X (.Name x pos) (tVar i):=by
 intro pins s σ H Q I h
 obtain⟨v,e,h⟩:=h
 obtain⟨m,hn,hl⟩:=I.loc
 obtain⟨u,r,l⟩:=hl i x v hN e hv
 have fin:EP X pins σ Q u s:=⟨v,H,I,r,h⟩
 rcases l with⟨hk,hm⟩|⟨hk,c,hc,hcell⟩
 ·exact wpAny_Name (wpAny_loadName_local I.ok.kind hk hn hm fin) hd
 ·rcases hk with hk|hk
  ·exact wpAny_Name (wpAny_loadName_cell I.ok.kind hk hc hcell fin) hd
  ·exact wpAny_Name (wpAny_loadName_free I.ok.kind hk hc hcell fin hcd) hd
theorem zai {i j pos}:PE X (.Constant (.int i) j pos) (tC (.int i)):=fun _ _ _ H _ I h=>wpAny_Constant_int ⟨.int i,H,I.tok _,⟨_,rfl⟩,h⟩
theorem zdZ {b j pos}:PE X (.Constant (.bool b) j pos) (tC (.bl b)):=fun _ _ _ H _ I h=>Constant_bool ⟨.bl b,H,I,rfl,h⟩
theorem zav {x j pos}:PE X (.Constant (.str x) j pos) (tC (.str x)):=fun _ _ _ H _ I h=>Calls.Constant_str ⟨.str x,H,I.tok _,⟨_,rfl⟩,h⟩
def Gl (X:Cx) (x:Str):Prop:=X.env.kindOf x=some .globalImplicit
theorem zdw {E:Value→Shared→Prop}{pins:List (Addr×Obj)}{s:Shared}{σ:St}{H:Hp}{x:Str}{u:Value}{pos:Pos}{Q:Value→Shared→Prop} (I:Inv X pins σ H s) (hg:Gl X x) (hm:X.mg x=some u) (h:Q u s)
  (hd:(x == ("__debug__":Str))=false:=by decide):wpAny (model X.prog X.w) X.A (eval (.Name x pos) X.env) Q E s:=
 Calls.Name_function_global I.ok.kind hg (Calls.loadGlobal_global (by rw[I.ok.glob];exact I.mod.glob.keeps I.bk) hm h) hd
theorem zfX {E:Value→Shared→Prop}{pins:List (Addr×Obj)}{s:Shared}{σ:St}{H:Hp}{x:Str}{u:Value}{pos:Pos}{Q:Value→Shared→Prop} (I:Inv X pins σ H s) (hg:Gl X x) (hm:X.mg x=none) (hv:bootBuiltins x=some u) (h:Q u s)
  (hn:x≠"__name__":=by decide) (hd:(x == ("__debug__":Str))=false:=by decide):wpAny (model X.prog X.w) X.A (eval (.Name x pos) X.env) Q E s:=by
 obtain⟨mb,h1,h2⟩:=I.mod.blt
 exact Calls.Name_function_global I.ok.kind hg (Calls.loadGlobal_builtin (by rw[I.ok.glob];exact I.mod.glob.keeps I.bk) hm (by rw[I.ok.blt];exact h1.keeps I.bk) ((h2 x hn).trans hv) h) hd
theorem zgM {x:Str}{v:V}{u:Value}{pos:Pos} (hg:Gl X x) (hm:X.mg x=some u) (r:za8 v u) (hd:(x == ("__debug__":Str))=false:=by decide):PE X (.Name x pos) (tC v):=
 fun _ _ _ H _ I h=>zdw I hg hm ⟨v,H,I,r,h⟩ hd
theorem zkZ {x:Str}{v:V}{u:Value}{pos:Pos} (hg:Gl X x) (hm:X.mg x=none) (hv:bootBuiltins x=some u) (r:za8 v u) (hn:x≠"__name__":=by decide) (hd:(x == ("__debug__":Str))=false:=by decide):PE X (.Name x pos) (tC v):=
 fun _ _ _ H _ I h=>zfX I hg hm hv ⟨v,H,I,r,h⟩ hn hd
variable {a b:Expr}{ta tb:TE}{pos:Pos}
def PC (X:Cx) (op:CmpOp) (a b:Expr) (t:TE):Prop:=
 ∀ (pins:List (Addr×Obj)) (s:Shared) (σ:St) (H:Hp) (Q:VK),Inv X pins σ H s→t σ H Q →
  wpAny (model X.prog X.w) X.A (eval a X.env) (fun v s₁=>wpAny (model X.prog X.w) X.A (eval b X.env) (fun u s₂=>wpAny (model X.prog X.w) X.A (compareOp op v u) (EP X pins σ Q) X.xe s₂) X.xe s₁) X.xe s
theorem zjT (b:Expr){op:CmpOp} (h:op≠.In) (h2:op≠.NotIn):behindInMarks op b=false:=by
 have e1:(op == CmpOp.In)=false:=by cases op <;> first|rfl|exact absurd rfl h
 have e2:(op == CmpOp.NotIn)=false:=by cases op <;> first|rfl|exact absurd rfl h2
 cases b <;> simp[behindInMarks,e1,e2]
def tB (t:TE):TT:=fun σ H Q=>t σ H fun x H1=>∃ c,x=.bl c∧Q c H1
theorem zil {op:CmpOp}{t:TE} (h:PC X op a b t) (h1:behindInMarks op b=false:=by first|exact zjT _ (by decide) (by decide)|rfl):PT X (.Compare a [op] [b] pos) (tB t):=by
 intro pins s σ H Q I hw
 refine wpAny_isTrue_Compare1 (thn (h pins s σ H _ I hw) fun v s1 h1=>thn h1 fun u s2 h2=>thn h2 fun c s3=>L2.ex5 fun x H1 I1 r1 q1=>?_) h1
 obtain⟨d,rfl,q⟩:=q1
 cases r1
 exact wpAny_truthy_bool ⟨H1,I1,q⟩
theorem zbn {e:Expr}{t:TE} (h:PE X e t) (he:∀ whole,isTrue e X.env whole=(do let v ← whole;standAt e.pos;holding [v] (truthy v)):=by intro _;rfl):PT X e (tB t):=by
 intro pins s σ H Q I hw
 refine isTrue_plain (thn (h pins s σ H _ I hw) fun v s1=>L2.ex5 fun x H1 I1 r1 q1=>?_) (he _)
 obtain⟨d,rfl,q⟩:=q1
 cases r1
 exact wpAny_truthy_bool ⟨H1,I1,q⟩
variable {tA tB':TT}{zbx:List Expr}
def tAnd (t u:TT):TT:=fun σ H Q=>t σ H fun c H1=>if c=true then u σ H1 Q else Q false H1
def tOr (t u:TT):TT:=fun σ H Q=>t σ H fun c H1=>if c=true then Q true H1 else u σ H1 Q
def tNot (t:TT):TT:=fun σ H Q=>t σ H fun c H1=>Q (!c) H1
theorem zgN (ha:PT X a tA):PW X (.BoolOp .And [a] pos) tA:=by
 intro wh pins s σ H Q I h
 refine isTrue_and (thn (ha pins s σ H Q I h) fun c s1 e=>?_)
 cases c with
 | true=>exact isTrue_and_nil e
 | false=>exact e
theorem zcx (ha:PT X a tA):PW X (.BoolOp .Or [a] pos) tA:=by
 intro wh pins s σ H Q I h
 refine isTrue_or (thn (ha pins s σ H Q I h) fun c s1 e=>?_)
 cases c with
 | false=>exact isTrue_or_nil e
 | true=>exact e
theorem zim (ha:PT X a tA) (hb:PW X (.BoolOp .And (b::zbx) pos) tB'):PW X (.BoolOp .And (a::b::zbx) pos) (tAnd tA tB'):=by
 intro wh pins s σ H Q I h
 refine isTrue_and (thn (ha pins s σ H _ I h) fun c s1=>L2.ex3 fun H1 I1 q1=>?_)
 cases c with
 | true=>exact hb wh pins s1 σ H1 Q I1 q1
 | false=>exact⟨H1,I1,q1⟩
theorem zcZ (ha:PT X a tA) (hb:PW X (.BoolOp .Or (b::zbx) pos) tB'):PW X (.BoolOp .Or (a::b::zbx) pos) (tOr tA tB'):=by
 intro wh pins s σ H Q I h
 refine isTrue_or (thn (ha pins s σ H _ I h) fun c s1=>L2.ex3 fun H1 I1 q1=>?_)
 cases c with
 | true=>exact⟨H1,I1,q1⟩
 | false=>exact hb wh pins s1 σ H1 Q I1 q1
theorem zbQ (ha:PT X a tA):PT X (.UnaryOp .Not a pos) (tNot tA):=by
 intro pins s σ H Q I h
 exact isTrue_not (ha pins s σ H (fun c H1=>Q (!c) H1) I h)
def tAndV (ta tb:TE):TE:=fun σ H Q=>ta σ H fun x H1=>∃ c,x=.bl c∧if c=true then tb σ H1 Q else Q (.bl false) H1
def tOrV (ta tb:TE):TE:=fun σ H Q=>ta σ H fun x H1=>∃ c,x=.bl c∧if c=true then Q (.bl true) H1 else tb σ H1 Q
def tNotV (ta:TE):TE:=fun σ H Q=>ta σ H fun x H1=>∃ c,x=.bl c∧Q (.bl (!c)) H1
theorem zed {op}{t:TE} (h:PE X a t):PE X (.BoolOp op [a] pos) t:=fun pins s σ H Q I hw=>BoolOp_one (h pins s σ H Q I hw)
theorem zee (ha:PE X a ta) (hb:PE X (.BoolOp .And (b::zbx) pos) tb):PE X (.BoolOp .And (a::b::zbx) pos) (tAndV ta tb):=by
 intro pins s σ H Q I h
 refine BoolOp_and (thn (ha pins s σ H _ I h) fun v s1=>L2.ex5 fun x H1 I1 r1 q1=>?_)
 obtain⟨c,rfl,q1⟩:=q1
 cases r1
 refine wpAny_truthy_bool ?_
 cases c with
 | true=>exact hb pins s1 σ H1 Q I1 q1
 | false=>exact⟨.bl false,H1,I1,rfl,q1⟩
theorem pe_or (ha:PE X a ta) (hb:PE X (.BoolOp .Or (b::zbx) pos) tb):PE X (.BoolOp .Or (a::b::zbx) pos) (tOrV ta tb):=by
 intro pins s σ H Q I h
 refine BoolOp_or (thn (ha pins s σ H _ I h) fun v s1=>L2.ex5 fun x H1 I1 r1 q1=>?_)
 obtain⟨c,rfl,q1⟩:=q1
 cases r1
 refine wpAny_truthy_bool ?_
 cases c with
 | false=>exact hb pins s1 σ H1 Q I1 q1
 | true=>exact⟨.bl true,H1,I1,rfl,q1⟩
theorem zkC (ha:PE X a ta):PE X (.UnaryOp .Not a pos) (tNotV ta):=by
 intro pins s σ H Q I h
 refine UnaryOp_ (thn (ha pins s σ H _ I h) fun v s1=>L2.ex5 fun x H1 I1 r1 q1=>?_)
 obtain⟨c,rfl,q1⟩:=q1
 cases r1
 exact not_of (wpAny_truthy_bool ⟨.bl (!c),H1,I1,rfl,q1⟩)
end
end L2
namespace L2
open PySem PySem.Spec PyProof.Rows
def SqL (K:PySem.W.Frag) (H:Hp) (a:Addr) (xs:List V):Prop:=
 Rd H a (.lst xs) ∨
  ∃ (o:Obj) (its:Array Value) (n:Nat),K.lookup a=some o∧o.cls=.type "list"∧o.dict=none∧o.data=.seq its n∧its.size≤sizeLine∧zaX xs its.toList
def SqT (K:PySem.W.Frag) (H:Hp) (a:Addr) (xs:List V):Prop:=
 Rd H a (.tup xs) ∨
  ∃ (o:Obj) (its:Array Value) (n:Nat),K.lookup a=some o∧o.cls=.type "tuple"∧o.data=.seq its n∧its.size≤sizeLine∧zaX xs its.toList
def absV:Value→Option V
 | .none=>some .non
 | .bool b=>some (.bl b)
 | .int i _=>some (.int i)
 | .str x _=>some (.str x)
 | .bytes b _=>some (.byt b)
 | .float b _=>some (.flt b)
 | .ref a=>some (.ref a)
 | .type n=>some (.ty n)
 | _=>none
theorem za8.abs {x:V}{u:Value} (r:za8 x u):absV u=some x:=by
 cases x with
 | non=>cases r;rfl
 | bl _=>cases r;rfl
 | int _=>obtain⟨t,rfl⟩:=r;rfl
 | str _=>obtain⟨t,rfl⟩:=r;rfl
 | byt _=>obtain⟨t,rfl⟩:=r;rfl
 | flt _=>obtain⟨t,rfl⟩:=r;rfl
 | ref _=>cases r;rfl
 | ty _=>cases r;rfl
theorem za8.inj {x y:V}{u:Value} (r:za8 x u) (q:za8 y u):x=y:=Option.some.inj (r.abs.symm.trans q.abs)
theorem zaX.inj:∀ {xs ys:List V}{us:List Value},zaX xs us→zaX ys us→xs=ys
 | _,_,_,.nil,.nil=>rfl
 | _,_,_,.cons r t,.cons r' t'=>by rw[r.inj r',zaX.inj t t']
section
variable {X:Cx}{pins:List (Addr×Obj)}{σ:St}{H:Hp}{s:Shared}{a:Addr}{xs ys:List V}
theorem SqL.of {K:PySem.W.Frag} (h:H a=some (.lst xs)):SqL K H a xs:=.inl (.inl h)
theorem SqT.of {K:PySem.W.Frag} (h:H a=some (.tup xs)):SqT K H a xs:=.inl (.inl h)
theorem Inv.list (I:Inv X pins σ H s) (h:SqL X.K H a xs):∃ its:List Value,zaX xs its∧PlainL s.heap a its.toArray∧xs.length≤sizeLine:=by
 rcases h with h|⟨o,its,n,hk,hc,hd,hs,hz,r⟩
 ·obtain⟨z,its,n,r,e⟩:=h.ok I.hok
  exact⟨its,r,⟨_,n,e,rfl,rfl,rfl⟩,z⟩
 ·refine⟨its.toList,r,⟨o,n,I.kIn a o hk,hc,hd,by simpa using hs⟩,?_⟩
  have e:=r.length
  simp only[Array.length_toList] at e
  omega
theorem Inv.tuple (I:Inv X pins σ H s) (h:SqT X.K H a xs):∃ its:List Value,zaX xs its∧IsTup s.heap a its.toArray∧xs.length≤sizeLine:=by
 rcases h with h|⟨o,its,n,hk,hc,hs,hz,r⟩
 ·obtain⟨z,its,r,p⟩:=h.ok I.hok
  exact⟨its,r,p,z⟩
 ·refine⟨its.toList,r,⟨o,I.kIn a o hk,hc,n,by simpa using hs⟩,?_⟩
  have e:=r.length
  simp only[Array.length_toList] at e
  omega
theorem Inv.list_inj (I:Inv X pins σ H s) (h:SqL X.K H a xs) (h':SqL X.K H a ys):xs=ys:=by
 obtain⟨its,r,⟨o,n,e,_,_,d⟩,_⟩:=I.list h
 obtain⟨its',r',⟨o',n',e',_,_,d'⟩,_⟩:=I.list h'
 rw[e] at e';cases e'
 rw[d] at d'
 injection d' with d1 _
 have:its=its':=by simpa using congrArg Array.toList d1
 subst this
 exact r.inj r'
theorem Inv.tuple_inj (I:Inv X pins σ H s) (h:SqT X.K H a xs) (h':SqT X.K H a ys):xs=ys:=by
 obtain⟨its,r,⟨o,e,_,n,d⟩,_⟩:=I.tuple h
 obtain⟨its',r',⟨o',e',_,n',d'⟩,_⟩:=I.tuple h'
 rw[e] at e';cases e'
 rw[d] at d'
 injection d' with d1 _
 have:its=its':=by simpa using congrArg Array.toList d1
 subst this
 exact r.inj r'
end
abbrev Cx.wish (X:Cx) (E:Value→Shared→Prop):Cx:={ X with xe:=E }
abbrev Cx.nox (X:Cx):Cx:=X.wish fun _ _=>False
theorem Cx.Ok.wish {X:Cx} (ok:X.Ok) (E:Value→Shared→Prop):(X.wish E).Ok:=
 ⟨ok.mod,ok.kind,ok.glob,ok.blt,ok.above,ok.inj,ok.has,ok.cab,ok.hd,ok.frames,ok.stk,ok.exf,ok.bs,ok.bsz,ok.noex,ok.exfs,ok.funs,ok.frf⟩
theorem Cx.Ok.unwish {X:Cx}{E:Value→Shared→Prop} (ok:(X.wish E).Ok):X.Ok:=
 ⟨ok.mod,ok.kind,ok.glob,ok.blt,ok.above,ok.inj,ok.has,ok.cab,ok.hd,ok.frames,ok.stk,ok.exf,ok.bs,ok.bsz,ok.noex,ok.exfs,ok.funs,ok.frf⟩
section
variable {X:Cx}{pins:List (Addr×Obj)}{σ:St}{H:Hp}{s:Shared}{E:Value→Shared→Prop}
theorem Inv.wish (I:Inv X pins σ H s) (E:Value→Shared→Prop):Inv (X.wish E) pins σ H s:=⟨I.ok.wish E,I.os,I.bare,I.base,I.loc,I.cell,I.free,I.freeC,I.pin,I.hok,I.len⟩
theorem Inv.unwish (I:Inv (X.wish E) pins σ H s):Inv X pins σ H s:=⟨I.ok.unwish,I.os,I.bare,I.base,I.loc,I.cell,I.free,I.freeC,I.pin,I.hok,I.len⟩
theorem SP.unwish {D:zgL}{f:Flow}{s':Shared} (h:SP (X.wish E) pins D f s'):SP X pins D f s':=by
 cases f with
 | next=>obtain⟨σ',H',I,q⟩:=h;exact⟨σ',H',I.unwish,q⟩
 | brk=>obtain⟨σ',H',I,q⟩:=h;exact⟨σ',H',I.unwish,q⟩
 | cont=>obtain⟨σ',H',I,q⟩:=h;exact⟨σ',H',I.unwish,q⟩
 | ret u=>obtain⟨v,σ',H',I,r,q⟩:=h;exact⟨v,σ',H',I.unwish,r,q⟩
theorem PSs.nox {st:List Stmt}{t:TS} (h:PSs X.nox st t):PSs X st t:=fun pins s σ H D I hw=>
 wpAny_mono (h pins s σ H D (I.wish _) hw) (fun _ _ q=>q.unwish) fun _ _ z=>False.elim z
end
section
variable {X:Cx}{st:Stmt}{zbx:List Stmt}{t u:TS}{e:Expr}{te:TE}{pos:Pos}
def tNext:TS:=fun D σ H=>D.nx σ H
def tSeq (t u:TS):TS:=fun D σ H=>t { D with nx:=u D } σ H
theorem zap:PSs X [] tNext:=fun _ _ σ H _ I h=>wpAny_execs_nil ⟨σ,H,I,h⟩
theorem zac (h1:PS X st t) (h2:PSs X zbx u):PSs X (st::zbx) (tSeq t u):=by
 intro pins s σ H D I h
 refine wpAny_execs_cons (thn (h1 pins s σ H { D with nx:=u D } I h) fun f s1 q=>?_)
 cases f with
 | next=>
  obtain⟨σ',H',I',q⟩:=q
  exact h2 pins s1 σ' H' D I' q
 | ret v=>exact q
 | brk=>exact q
 | cont=>exact q
theorem zag (h1:PS X st t):PSs X [st] t:=by
 intro pins s σ H D I h
 refine wpAny_execs_cons (thn (h1 pins s σ H D I h) fun f s1 q=>?_)
 cases f with
 | next=>exact wpAny_execs_nil q
 | ret v=>exact q
 | brk=>exact q
 | cont=>exact q
theorem Inv.quiet {pins:List (Addr×Obj)}{σ:St}{H:Hp}{s:Shared} (I:Inv X pins σ H s):interactive X.env=false:=by simp[interactive,I.ok.kind]
def tDrop (te:TE):TS:=fun D σ H=>te σ H fun _ H1=>D.nx σ H1
theorem zaC (he:PE X e te) (hs:swapsWith e none pos.line X.env=pure false:=by rfl):PS X (.Expr e pos) (tDrop te):=by
 intro pins s σ H D I h
 exact wpAny_Expr_any (thn (he pins s σ H _ I h) fun v s1=>L2.ex5 fun x H1 I1 r1 q1=>⟨σ,H1,I1,q1⟩) I.quiet hs
def tRet (te:TE):TS:=fun D σ H=>te σ H D.rt
theorem zaA (he:PE X e te):PS X (.Return (some e) pos) (tRet te):=by
 intro pins s σ H D I h
 exact wpAny_Return_some (thn (he pins s σ H _ I h) fun v s1=>L2.ex5 fun x H1 I1 r1 q1=>⟨x,σ,H1,I1,r1,q1⟩)
def tIfS (c:TT) (t u:TS):TS:=fun D σ H=>c σ H fun b H1=>if b=true then t D σ H1 else u D σ H1
theorem zaM {c:Expr}{a b:List Stmt}{tc:TT} (hc:PT X c tc) (ha:PSs X a t) (hb:PSs X b u):PS X (.If c a b pos) (tIfS tc t u):=by
 intro pins s σ H D I h
 refine wpAny_If (thn (hc pins s σ H _ I h) fun d s1=>L2.ex3 fun H1 I1 q1=>?_)
 cases d with
 | true=>exact ha pins s1 σ H1 D I1 q1
 | false=>exact hb pins s1 σ H1 D I1 q1
end
abbrev TG:=V→St→Hp→(St→Hp→Prop)→Prop
abbrev TGs:=List V→St→Hp→(St→Hp→Prop)→Prop
def PG (X:Cx) (target:Expr) (t:TG):Prop:=
 ∀ (pins:List (Addr×Obj)) (s:Shared) (σ:St) (H:Hp) (v:V) (u:Value) (Q:St→Hp→Prop),Inv X pins σ H s→za8 v u→t v σ H Q →
  wpAny (model X.prog X.w) X.A (assign target X.env u) (fun _ s'=>∃ σ' H',Inv X pins σ' H' s'∧Q σ' H') X.xe s
def PGs (X:Cx) (ts:List Expr) (t:TGs):Prop:=
 ∀ (pins:List (Addr×Obj)) (s:Shared) (σ:St) (H:Hp) (vs:List V) (us:List Value) (Q:St→Hp→Prop),Inv X pins σ H s→zaX vs us→t vs σ H Q →
  wpAny (model X.prog X.w) X.A (assignInOrder ((assignEach ts X.env).map (·.2)) us) (fun _ s'=>∃ σ' H',Inv X pins σ' H' s'∧Q σ' H') X.xe s
section
variable {X:Cx}{pos:Pos}
def zaI (i:Nat):TG:=fun v σ H Q=>Q (σ.set i (some v)) H
theorem zak {i:Nat}{x:Str} (hN:X.N.Nodup) (hi:X.N[i]?=some x) (hx:Loc X.env.scope x) (hf:X.fn x=true∨X.env.scope.names.lookup x=some .local:=by first|exact .inl rfl|exact .inr rfl|assumption):PG X (.Name x pos) (zaI i):=by
 intro pins s σ H v u Q I r h
 exact wpAny_assign_Name (zfk I hN hi hx r (fun s' I'=>⟨_,H,I',h⟩) hf)
def gNil:TGs:=fun vs σ H Q=>vs=[]∧Q σ H
def gCons (t:TG) (u:TGs):TGs:=fun vs σ H Q=>∃ v r,vs=v::r∧t v σ H fun σ' H'=>u r σ' H' Q
theorem zaN:PGs X [] gNil:=by
 intro pins s σ H vs us Q I r h
 obtain⟨e,h⟩:=h
 subst e
 cases r
 exact assignInOrder_nil ⟨σ,H,I,h⟩
theorem zaj {e:Expr}{es:List Expr}{t:TG}{u:TGs} (h1:PG X e t) (h2:PGs X es u)
  (hs:(assignEach (e::es) X.env).map (·.2)=assign e X.env::(assignEach es X.env).map (·.2):=by rfl):PGs X (e::es) (gCons t u):=by
 intro pins s σ H vs us Q I r h
 obtain⟨v,vr,e1,h⟩:=h
 subst e1
 cases r with
 | cons r rr=>
  rw[hs]
  refine assignInOrder_cons (thn (h1 pins s σ H _ _ _ I r h) fun _ s1=>L2.ex4 fun σ1 H1 I1 q1=>?_)
  exact h2 pins s1 σ1 H1 _ _ Q I1 rr q1
def gTup (K:PySem.W.Frag) (n:Nat) (t:TGs):TG:=fun v σ H Q=>∃ a xs,v=.ref a∧SqT K H a xs∧xs.length=n∧t xs σ H Q
theorem zbW {es:List Expr}{k:Nat}{t:TGs}{n:Nat} (hc:X.calm=true) (h:PGs X es t)
  (hn:(assignEach es X.env).length=n:=by rfl) (hst:(assignEach es X.env).findIdx? (·.1)=none:=by rfl):PG X (.Tuple es k pos) (gTup X.K n t):=by
 intro pins s σ H v u Q I r hw
 obtain⟨a,xs,e1,hq,hl,hw⟩:=hw
 subst e1
 cases r
 obtain⟨its,rv,ht,hz⟩:=I.tuple hq
 refine zgI I.hd ht (by simp[hn,← hl,rv.length]) hst fun h' hx=>?_
 have I1:Inv X pins σ H { s with heap:=h' }:=I.kept (t':=s.toks) fun b o e=>hx b o (Nat.ne_of_lt (Heap.lt_size e)) e
 exact h pins _ σ H xs _ Q I1 (by simpa using rv) hw
def tAsg (te:TE) (g:TG):TS:=fun D σ H=>te σ H fun x H1=>g x σ H1 D.nx
theorem zdM {tg e:Expr}{te:TE}{g:TG} (he:PE X e te) (hg:PG X tg g) (hs:swapsWithSole [tg] e pos.line X.env=pure false:=by rfl) (hw:swappedStores [tg] e X.env=pure none:=by rfl)
  (h1:(assignEach [tg] X.env).map (·.2)=[assign tg X.env]:=by rfl):PS X (.Assign [tg] e pos) (tAsg te g):=by
 intro pins s σ H D I h
 refine wpAny_Assign_stores (thn (he pins s σ H _ I h) fun v s1=>L2.ex5 fun x H1 I1 r1 q1=>?_) hs hw
 rw[h1]
 exact thn (hg pins s1 σ H1 x v _ I1 r1 q1) fun _ s2 q=>q
theorem zaG {i:Nat}{x:Str}{e:Expr}{te:TE}{pos':Pos} (hN:X.N.Nodup) (hi:X.N[i]?=some x) (hx:Loc X.env.scope x) (he:PE X e te) (hs:swapsWith e (some (.Name x pos')) pos.line X.env=pure false:=by rfl) (hf:X.fn x=true∨X.env.scope.names.lookup x=some .local:=by first|exact .inl rfl|exact .inr rfl|assumption) :
  PS X (.Assign [.Name x pos'] e pos) (tAsg te (zaI i)):=by
 intro pins s σ H D I h
 refine wpAny_Assign_Name (thn (he pins s σ H _ I h) fun v s1=>L2.ex5 fun y H1 I1 r1 q1=>?_) hs
 exact zfk I1 hN hi hx r1 (fun s2 I2=>⟨_,H1,I2,q1⟩) hf
end
section
variable {X:Cx}{pos:Pos}
end
structure It where
 go:Nat→Hp→Prop
 yld:Nat→Hp→V→Hp→Prop
 stop:Nat→Hp→Prop
def zef (X:Cx) (pins:List (Addr×Obj)) (H:Hp) (b:Addr):Prop:=
 H b=none∧b≠X.env.locals∧b∉X.fs∧(b∈X.ex∨X.s₀.heap.objs.size≤b)∧(∀ x c,X.env.cells.lookup x=some c→c≠b)∧∀ p∈X.pn++pins,p.1≠b
theorem Inv.fpOk {X:Cx}{pins:List (Addr×Obj)}{σ:St}{H H':Hp}{s:Shared}{b:Addr} (I:Inv X pins σ H s) (hb:s.heap.objs.size≤b) (hn:H' b=none):zef X pins H' b:=by
 refine⟨hn,Nat.ne_of_gt (Nat.lt_of_lt_of_le I.lt hb),I.nofs hb,.inr (Nat.le_trans I.sz hb),fun x c e z=>?_,fun p hp z=>?_⟩
 ·obtain⟨v,q⟩:=I.cell x c e
  exact absurd (Nat.lt_of_lt_of_le q.lt (by rw[z];exact hb)) (Nat.lt_irrefl _)
 ·exact absurd (Nat.lt_of_lt_of_le (Heap.lt_size (I.pin p hp).1) (by rw[z];exact hb)) (Nat.lt_irrefl _)
structure zk0 (P:Program) (w:World) (K:PySem.W.Frag) (tg:Expr) (J:It) (fp:List Addr) (it:Addr) (tn:Nat→Heap→Prop):Prop where
 mem:it∈fp
 obj:∀ i h,tn i h→∀ b∈fp,∃ o,h.get? b=some o∧∀ v,o.data≠.cell v
 keep:∀ i h h',tn i h→(∀ b∈fp,∀ o,h.get? b=some o→h'.get? b=some o)→tn i h'
 item:∀ (X:Cx),X.prog=P→X.w=w→X.K=K→X.calm=true→∀ (i:Nat) (pins:List (Addr×Obj)) (s:Shared) (σ:St) (H:Hp) (E:Value→Shared→Prop),Inv X pins σ H s→(∀ b∈fp,zef X pins H b)→tn i s.heap→J.go i H →
  wpAny (model P w) X.A (pyNext (.ref it)) (fun r s1=>∃ u,r=some u ∧
   wpAny (model P w) X.A (letOwnedTupleGo tg (.ref it) u) (fun _ s2=>∃ x H',Inv X pins σ H' s2∧za8 x u∧J.yld i H x H'∧tn (i + 1) s2.heap∧∀ b∈fp,H' b=none) E s1) E s
 done:∀ (X:Cx),X.prog=P→X.w=w→X.K=K→X.calm=true→∀ (i:Nat) (pins:List (Addr×Obj)) (s:Shared) (σ:St) (H:Hp) (E:Value→Shared→Prop),Inv X pins σ H s→(∀ b∈fp,zef X pins H b)→tn i s.heap→J.stop i H →
  wpAny (model P w) X.A (pyNext (.ref it)) (fun r s1=>r=none∧Inv X pins σ H s1) E s
 self:∀ (A:Around) (i:Nat) (s:Shared) (Q:Value→Shared→Prop) (E:Value→Shared→Prop),tn i s.heap→Q (.ref it) s→wpAny (model P w) A (pyIter (.ref it)) Q E s
abbrev TI:=St→Hp→(It→Hp→Prop)→Prop
def PIE (X:Cx) (pins:List (Addr×Obj)) (σ:St) (tg:Expr) (R:It→Hp→Prop) (itv:Value) (s2:Shared):Prop:=
 ∃ (it:Addr) (fp:List Addr) (tn:Nat→Heap→Prop) (J:It) (H':Hp),itv=.ref it∧Inv X pins σ H' s2∧zk0 X.prog X.w X.K tg J fp it tn∧tn 0 s2.heap∧(∀ b∈fp,zef X pins H' b)∧R J H'
def PI (X:Cx) (tg iter:Expr) (wi:TI):Prop:=
 ∀ (pins:List (Addr×Obj)) (s:Shared) (σ:St) (H:Hp) (R:It→Hp→Prop),Inv X pins σ H s→wi σ H R →
  wpAny (model X.prog X.w) X.A (eval iter X.env) (fun v s1=>wpAny (model X.prog X.w) X.A (pyIter v) (PIE X pins σ tg R) X.xe s1) X.xe s
theorem zjU {M:Model}{A:Around}{E:Value→Shared→Prop}{s:Shared}{tg:Expr}{it:Addr}{u:Value}{o:Obj}{n:String}{vs:Array Value}{Q:Unit→Shared→Prop} (ho:s.heap.get? it=some o) (hc:o.cls=.type n) (hd:o.data=.fields vs)
    (hn:["enumerate","zip","dict_itemiterator","dict_reverseitemiterator","odict_iterator","itertools.zip_longest","itertools.pairwise"].contains n=false) (hQ:Q () s):wpAny M A (letOwnedTupleGo tg (.ref it) u) Q E s:=by
  unfold letOwnedTupleGo
  cases tg <;> first
    | exact wpAny_pure hQ
    | (cases u <;> first
        | exact wpAny_pure hQ
        | (refine wpAny_bind (wpAny_load ho ?_)
           rw[hc,hd]
           show wpAny M A (if (["enumerate","zip","dict_itemiterator","dict_reverseitemiterator","odict_iterator","itertools.zip_longest","itertools.pairwise"].contains n && vs[0]? == some (rawInt _))=true then _ else _) Q E s
           rw[if_neg (by intro h;rw[hn,Bool.false_and] at h;cases h)]
           exact wpAny_pure hQ))
def Itl (K:PySem.W.Frag) (a:Addr):It:=
 ⟨fun i H=>∃ xs x,SqL K H a xs∧xs[i]?=some x,fun i H x H'=>H'=H∧∀ xs,SqL K H a xs→xs[i]?=some x,fun i H=>∃ xs,SqL K H a xs∧xs.length≤i⟩
def Itr (lo:Int) (n:Nat):It:=⟨fun i _=>i<n,fun i H x H'=>H'=H∧x=.int (lo + i),fun i _=>n≤i⟩
theorem zin {P:Program}{w:World}{K:PySem.W.Frag}{tg:Expr} (a it:Addr):zk0 P w K tg (Itl K a) [it] it (fun i h=>h.IsListIter it a i) where
 mem:=by simp
 obj:=fun i h st b hb=>by
  have e:b=it:=by simpa using hb
  subst e
  obtain⟨o,e,c,d⟩:=st
  exact⟨o,e,fun v z=>by rw[d] at z;cases z⟩
 keep:=fun i h h' st k=>st.at fun o e=>k it (by simp) o e
 item:=by
  intro X hP hw hK hc i pins s σ H E I hf st hg
  subst hP hw hK
  obtain⟨xs,x,hq,hx⟩:=hg
  obtain⟨its,rv,p,hz⟩:=I.list hq
  obtain⟨u,hu,ru⟩:=rv.get hx
  obtain⟨f0,f1,f2,f3,f4,f5⟩:=hf it (by simp)
  refine wpAny_pyNext_list_item st p.isList (x:=u) (by simpa using hu) fun h' st' sb=>?_
  have I1:Inv X pins σ H { s with heap:=h' }:=I.turned (t':=s.toks) (fun b o hb e=>(sb.2 b hb).trans e) f0 f1 f3 f4 f5
  obtain⟨o,e,c,d⟩:=id st'
  exact⟨u,rfl,zjU (s:={ s with heap:=h' }) e c d (by decide) ⟨x,H,I1,ru,⟨rfl,fun ys hy=>by rw[I.list_inj hy hq];exact hx⟩,st',fun b hb=>(hf b hb).1⟩⟩
 done:=by
  intro X hP hw hK hc i pins s σ H E I hf st hg
  subst hP hw hK
  obtain⟨xs,hq,hx⟩:=hg
  obtain⟨its,rv,p,hz⟩:=I.list hq
  obtain⟨f0,f1,f2,f3,f4,f5⟩:=hf it (by simp)
  have hl:=rv.length
  exact zfV I.hd st p.isList (by simp;omega) fun h' eb=>⟨rfl,I.turned (t':=s.toks) (fun b o hb e=>eb b o hb e) f0 f1 f3 f4 f5⟩
 self:=fun _ _ _ _ _ st h=>wpAny_pyIter_listiter st h
theorem zhL {P:Program}{w:World}{K:PySem.W.Frag}{tg:Expr} (it:Addr) (lo:Int) (n:Nat):zk0 P w K tg (Itr lo n) [it] it (fun i h=>IsRangeIter h it (lo + (i:Nat) * 1) ((n:Int) - (i:Nat)) 1) where
 mem:=by simp
 obj:=fun i h st b hb=>by
  have e:b=it:=by simpa using hb
  subst e
  exact⟨_,st,fun v z=>by
   have z':Data.fields _=Data.cell v:=z
   cases z'⟩
 keep:=fun i h h' st k=>k it (by simp) _ st
 item:=by
  intro X hP hw hK hc i pins s σ H E I hf st hg
  subst hP hw hK
  obtain⟨f0,f1,f2,f3,f4,f5⟩:=hf it (by simp)
  refine wpAny_pyNext_range_item st (by have:i<n:=hg;omega) fun h' st0 sb=>?_
  have st':IsRangeIter h' it (lo + ((i + 1:Nat):Int) * 1) ((n:Int) - ((i + 1:Nat):Int)) 1:=by
   rw[show lo + ((i + 1:Nat):Int) * 1=lo + (i:Int) * 1 + 1 by omega,show(n:Int) - ((i + 1:Nat):Int)=(n:Int) - (i:Int) - 1 by omega]
   exact st0
  have I1:Inv X pins σ H { s with heap:=h',toks:=s.toks + 1 }:=I.turned (fun b o hb e=>sb.extBut b o hb e) f0 f1 f3 f4 f5
  exact⟨_,rfl,zjU (s:={ s with heap:=h',toks:=s.toks + 1 }) (n:="range_iterator") st' rfl rfl (by decide) ⟨.int (lo + i),H,I1,⟨_,by rw[Int.mul_one]⟩,⟨rfl,rfl⟩,st',fun b hb=>(hf b hb).1⟩⟩
 done:=by
  intro X hP hw hK hc i pins s σ H E I hf st hg
  subst hP hw hK
  obtain⟨f0,f1,f2,f3,f4,f5⟩:=hf it (by simp)
  exact zhK I.hd st (by have:n≤i:=hg;omega) fun h' eb=>⟨rfl,I.turned (t':=s.toks) (fun b o hb e=>eb b o hb e) f0 f1 f3 f4 f5⟩
 self:=fun _ _ _ _ _ st h=>wpAny_pyIter_rangeiter st h
end L2
namespace L2
open PySem PySem.Spec PyProof.Rows
section
variable {X:Cx}{tg:Expr}
def iList (K:PySem.W.Frag) (tl:TE):TI:=fun σ H R=>tl σ H fun x H1=>∃ a,x=.ref a∧(∃ xs,SqL K H1 a xs)∧R (Itl K a) H1
theorem zaS {l:Expr}{tl:TE} (hl:PE X l tl):PI X tg l (iList X.K tl):=by
 intro pins s σ H R I h
 refine thn (hl pins s σ H _ I h) fun v s1=>L2.ex5 fun x H1 I1 r1 q1=>?_
 obtain⟨a,e,⟨xs,hq⟩,q⟩:=q1
 subst e
 cases r1
 obtain⟨its,rv,p,hz⟩:=I1.list hq
 refine wpAny_pyIter_list p.isList ?_
 refine⟨s1.heap.objs.size,[s1.heap.objs.size],_,_,H1,rfl,I1.kept (t':=s1.toks) fun b o e=>Heap.get?_push_of_some _ e,zin a _,⟨_,Heap.get?_push_size _ rfl,rfl,rfl⟩,fun b hb=>?_,q⟩
 have e:b=s1.heap.objs.size:=by simpa using hb
 subst e
 exact I1.fpOk (Nat.le_refl _) (I1.hok.fresh (Nat.le_refl _))
theorem zjV {pins:List (Addr×Obj)}{σ:St}{H:Hp}{s:Shared}{R:It→Hp→Prop}{E:Value→Shared→Prop}{lo hi:Int}{t u v:Tok}{tk:Nat} (I:Inv X pins σ H s) (h1:-(2 ^ 62)≤lo) (h2:lo<2 ^ 62) (h3:-(2 ^ 62)≤hi) (h4:hi<2 ^ 62)
  (q:R (Itr lo (hi - lo).toNat) H):wpAny (model X.prog X.w) X.A (pyIter (.ref s.heap.objs.size)) (PIE X pins σ tg R) E { s with heap:=s.heap.push { cls:=.type "range",data:=.fields #[.int lo t,.int hi u,.int 1 v] },toks:=tk }:=by
 refine wpAny_pyIter_range (IsRange.new ..) (small_one h1 h2 h3 h4) ?_
 have I1:Inv X pins σ H { s with heap:=s.heap.push { cls:=.type "range",data:=.fields #[.int lo t,.int hi u,.int 1 v] },toks:=tk }:=I.kept fun b o e=>Heap.get?_push_of_some _ e
 refine⟨(s.heap.push { cls:=.type "range",data:=.fields #[.int lo t,.int hi u,.int 1 v] }).objs.size,[(s.heap.push { cls:=.type "range",data:=.fields #[.int lo t,.int hi u,.int 1 v] }).objs.size],_,_,H,rfl,
  I1.kept (t':=tk) fun b o e=>Heap.get?_push_of_some _ e,zhL _ lo (hi - lo).toNat,?_,fun b hb=>?_,q⟩
 ·have e1:lo + ((0:Nat):Int) * 1=lo:=by simp
  have e2:(((hi - lo).toNat:Nat):Int) - ((0:Nat):Int)=Builtin.Range.rangeSize lo hi 1:=by rw[rangeSize_one];split <;> omega
  show IsRangeIter _ _ (lo + ((0:Nat):Int) * 1) ((((hi - lo).toNat:Nat):Int) - ((0:Nat):Int)) 1
  rw[e1,e2]
  exact Heap.get?_push_size _ rfl
 ·have e:b=(s.heap.push { cls:=.type "range",data:=.fields #[.int lo t,.int hi u,.int 1 v] }).objs.size:=by simpa using hb
  subst e
  exact I1.fpOk (Nat.le_refl _) (I1.hok.fresh (Nat.le_refl _))
def iRng1 (ta:TA):TI:=fun σ H R=>ta σ H fun vs H1=>∃ j:Int,vs=[.int j]∧-(2 ^ 62)≤j∧j<2 ^ 62∧R (Itr 0 j.toNat) H1
theorem zfY {a:Expr}{ta:TA}{p pos:Pos} (hg:Gl X "range") (hm:X.mg "range"=none) (ha:PA X [a] ta) (hs:starEach [a] X.env=[(false,eval a X.env)]:=by rfl):PI X tg (.Call (.Name "range" p) [a] [] pos) (iRng1 ta):=by
 intro pins s σ H R I h
 refine Call_ (zfX I hg hm boot_range (PyProof.Rows.callWith_type1 (thn (ha pos pins s σ H _ I h) fun us s1=>L2.ex5 fun vs H1 I1 r1 q1=>?_) hs rfl))
 obtain⟨j,e,q1,q2,q⟩:=q1
 subst e
 cases r1 with
 | cons r rr=>
  cases rr
  obtain⟨t,rfl⟩:=r
  exact call_range_1 (zjV I1 (by omega) (by omega) q1 q2 (by simpa using q))
def tFor (wi:TI) (g:TG) (tb:TS):TS:=fun D σ H=>wi σ H fun J H1=>∃ W:Nat→Nat→St→Hp→Prop,(∃ m,W 0 m σ H1)∧∀ i m σ H,W i m σ H →
 (J.stop i H∧D.nx σ H)∨(J.go i H∧∃ N:St→Hp→Prop,(∀ σ' H',N σ' H'→∃ m',m'<m∧W (i + 1) m' σ' H')∧∀ x H',J.yld i H x H'→g x σ H' fun σ2 H2=>tb { D with nx:=N,ct:=N,bk:=D.nx } σ2 H2)
def zfZ (fp:List Addr) (h:Heap):List (Addr×Obj):=fp.filterMap fun b=>(h.get? b).map fun o=>(b,o)
theorem zcH {fp:List Addr}{h:Heap}{b:Addr}{o:Obj} (hb:b∈fp) (e:h.get? b=some o):(b,o)∈zfZ fp h:=List.mem_filterMap.mpr ⟨b,hb,by rw[e];rfl⟩
theorem zio {fp:List Addr}{h:Heap}{p:Addr×Obj} (hp:p∈zfZ fp h):p.1∈fp∧h.get? p.1=some p.2:=by
 obtain⟨b,hb,e⟩:=List.mem_filterMap.mp hp
 cases q:h.get? b with
 | none=>rw[q] at e;cases e
 | some o=>
  rw[q] at e
  have e':(b,o)=p:=Option.some.inj e
  subst e'
  exact⟨hb,q⟩
theorem Inv.pinned {pins:List (Addr×Obj)}{σ:St}{H:Hp}{s:Shared}{fp:List Addr} (I:Inv X pins σ H s) (hf:∀ b∈fp,zef X pins H b) (ho:∀ b∈fp,∃ o,s.heap.get? b=some o∧∀ v,o.data≠.cell v):Inv X (pins++zfZ fp s.heap) σ H s:=
 I.pins_of fun p hp=>(List.mem_append.mp hp).elim (fun z=>I.pin p (List.mem_append_right _ z)) fun z=>by
  obtain⟨hb,e⟩:=zio z
  obtain⟨f0,f1,f2,_⟩:=hf p.1 hb
  obtain⟨o,e',d⟩:=ho p.1 hb
  rw[e] at e';cases e'
  exact⟨e,f0,f1,f2,d⟩
theorem Inv.unpinned {pins pl:List (Addr×Obj)}{σ:St}{H:Hp}{s:Shared} (I:Inv X (pins++pl) σ H s):Inv X pins σ H s:=I.pins_of fun p hp=>I.pin p (List.mem_append_right _ (List.mem_append_left _ hp))
theorem zc9 {iter:Expr}{body:List Stmt}{wi:TI}{g:TG}{tb:TS}{pos:Pos} (hp:PassesOwn (model X.prog X.w) X.A X.env X.xe) (hc:X.calm=true) (hi:PI X tg iter wi) (hg:PG X tg g) (hb:PSs X body tb)
  (hs:∀ x,foldedSetIterable iter X.env x=pure x:=by intro _;rfl):PS X (.For tg iter body [] pos) (tFor wi g tb):=by
 intro pins s σ H D I h
 refine wpAny_For (thn (hi pins s σ H _ I h) fun v s1 h1=>thn h1 fun itv s2 h2=>?_) hs
 obtain⟨it,fp,tn,J,H2,e,I2,T,st2,f2,W,⟨m0,w0⟩,turn⟩:=h2
 subst e
 have stat:∀ {H':Hp},(∀ b∈fp,H' b=none)→∀ b∈fp,zef X pins H' b:=fun hn b hb=>⟨hn b hb,(f2 b hb).2⟩
 refine codeAny_forLoop_any (fun n s'=>∃ i σ' H',Inv X pins σ' H' s'∧tn i s'.heap∧(∀ b∈fp,H' b=none)∧W i n σ' H') ?_ m0 ⟨0,σ,H2,I2,st2,fun b hb=>(f2 b hb).1,w0⟩
 rintro n s3 ⟨i,σ3,H3,I3,st3,fr3,w3⟩
 rcases turn i n σ3 H3 w3 with⟨stop,qn⟩|⟨go,N,hN,step⟩
 ·refine wpAny_passesOwn hp (thn (T.done X rfl rfl rfl hc i pins s3 σ3 H3 X.xe I3 (stat fr3) st3 stop) fun r s4 ⟨hr,I4⟩=>?_)
  subst hr
  exact wpAny_execs_nil ⟨σ3,H3,I4,qn⟩
 ·refine wpAny_passesOwn hp (thn (T.item X rfl rfl rfl hc i pins s3 σ3 H3 X.xe I3 (stat fr3) st3 go) fun r s4 ⟨u,hr,h4⟩=>?_)
  subst hr
  refine wpAny_passesOwn hp (thn h4 fun _ s5=>L2.ex5 fun x H5 I5 r5 hq_=>?_)
  obtain⟨y5,st5,fr5⟩:=hq_
  have I5':=I5.pinned (stat fr5) (T.obj _ _ st5)
  refine wpAny_passesOwn hp (thn (hg _ s5 σ3 H5 x u _ I5' r5 (step x H5 y5)) fun _ s6=>L2.ex4 fun σ6 H6 I6 q6=>?_)
  refine wpAny_passesOwn hp (thn (hb _ s6 σ6 H6 _ I6 q6) fun f s7 q7=>?_)
  have again:∀ {σ7:St}{H7:Hp},Inv X (pins++zfZ fp s5.heap) σ7 H7 s7→N σ7 H7→∃ m,m<n∧∃ i σ' H',Inv X pins σ' H' s7∧tn i s7.heap∧(∀ b∈fp,H' b=none)∧W i m σ' H':=fun {σ7 H7} I7 n7=>by
   obtain⟨m',hm,w7⟩:=hN σ7 H7 n7
   refine⟨m',hm,i + 1,σ7,H7,I7.unpinned,T.keep _ _ _ st5 fun b hb o e=>(I7.pin (b,o) (List.mem_append_right _ (List.mem_append_right _ (zcH hb e)))).1,fun b hb=>?_,w7⟩
   obtain⟨o,e,d⟩:=T.obj _ _ st5 b hb
   exact(I7.pin (b,o) (List.mem_append_right _ (List.mem_append_right _ (zcH hb e)))).2.1
  cases f with
  | next=>obtain⟨σ7,H7,I7,n7⟩:=q7;exact again I7 n7
  | cont=>obtain⟨σ7,H7,I7,n7⟩:=q7;exact again I7 n7
  | brk=>obtain⟨σ7,H7,I7,q7⟩:=q7;exact⟨σ7,H7,I7.unpinned,q7⟩
  | ret v=>obtain⟨x7,σ7,H7,I7,r7,q7⟩:=q7;exact⟨x7,σ7,H7,I7.unpinned,r7,q7⟩
end
def WkW (J:It) (E:St→Hp→Prop) (B:(St→Hp→Prop)→V→St→Hp→Prop) (σ:St) (H:Hp):Prop:=∃ W:Nat→Nat→St→Hp→Prop,(∃ m,W 0 m σ H)∧∀ i m σ H,W i m σ H→(J.stop i H∧E σ H)∨(J.go i H∧∃ N:St→Hp→Prop,(∀ σ' H',N σ' H'→∃ m',m'<m∧W (i + 1) m' σ' H')∧∀ x H',J.yld i H x H'→B N x σ H')
theorem wk_ {J:It}{E:St→Hp→Prop}{B:(St→Hp→Prop)→V→St→Hp→Prop}{σ:St}{H:Hp}{n:Nat} (Pv:Nat→St→Hp→Prop) (h0:Pv 0 σ H) (hg:∀ i σ H,i≤n→Pv i σ H→(i<n→J.go i H)∧(n≤i→J.stop i H)) (hs:∀ i x σ H H',i<n→Pv i σ H→J.yld i H x H'→B (Pv (i + 1)) x σ H') (hd:∀ σ H,Pv n σ H→E σ H):WkW J E B σ H:=by
 refine⟨fun i m σ H=>m=n - i∧i≤n∧Pv i σ H,⟨n,by simp,Nat.zero_le _,h0⟩,?_⟩
 rintro i m σ H ⟨rfl,hi,p⟩
 obtain⟨q1,q2⟩:=hg i σ H hi p
 by_cases hlt:i<n
 ·exact .inr ⟨q1 hlt,Pv (i + 1),fun σ' H' p'=>⟨n - (i + 1),by omega,rfl,hlt,p'⟩,fun x H' y=>hs i x σ H H' hlt p y⟩
 ·have e:i=n:=by omega
  subst e
  exact .inl ⟨q2 (Nat.le_refl _),hd σ H p⟩
def ForW (J:It) (D:zgL) (g:TG) (tb:TS) (σ:St) (H:Hp):Prop:=WkW J D.nx (fun N x σ H'=>g x σ H' fun σ2 H2=>tb { D with nx:=N,ct:=N,bk:=D.nx } σ2 H2) σ H
theorem zcI {K:PySem.W.Frag}{a:Addr}{xs:List V}{g:TG}{tb:TS}{D:zgL}{σ:St}{H:Hp} (Pv:Nat→St→Hp→Prop) (h0:Pv 0 σ H) (hl:∀ i σ H,i≤xs.length→Pv i σ H→SqL K H a xs)
  (hs:∀ i x σ H,xs[i]?=some x→Pv i σ H→g x σ H fun σ2 H2=>tb { D with nx:=Pv (i + 1),ct:=Pv (i + 1),bk:=D.nx } σ2 H2) (hd:∀ σ H,Pv xs.length σ H→D.nx σ H):ForW (Itl K a) D g tb σ H:=
 wk_ (n:=xs.length) Pv h0 (fun i σ H hi p=>⟨fun h=>⟨xs,xs[i],hl i σ H hi p,by simp[h]⟩,fun h=>⟨xs,hl i σ H hi p,h⟩⟩) (fun i x σ H H' hi p y=>by
 obtain⟨rfl,y⟩:=y
 exact hs i x σ _ (y xs (hl i σ _ (Nat.le_of_lt hi) p)) p) hd
end L2
namespace L2
open PySem PySem.Spec PyProof.Rows
abbrev R2:=V→V→Hp→VK→Prop
def OpR (X:Cx) (f:Value→Value→Sem Value) (r:R2):Prop:=
 ∀ (pins:List (Addr×Obj)) (s:Shared) (σ:St) (H:Hp) (x y:V) (v u:Value) (Q:VK),Inv X pins σ H s→za8 x v→za8 y u→r x y H Q →
  wpAny (model X.prog X.w) X.A (f v u) (EP X pins σ Q) X.xe s
def zdx (X:Cx) (f:Value) (r:List V→Hp→VK→Prop):Prop:=
 ∀ (pins:List (Addr×Obj)) (s:Shared) (σ:St) (H:Hp) (xs:List V) (us:List Value) (Q:VK),Inv X pins σ H s→zaX xs us→r xs H Q →
  wpAny (model X.prog X.w) X.A (call f us) (EP X pins σ Q) X.xe s
def tOp (r:R2) (ta tb:TE):TE:=fun σ H Q=>ta σ H fun x H1=>tb σ H1 fun y H2=>r x y H2 Q
def rI (C:Int→Int→Prop) (g:Int→Int→V):R2:=fun x y H Q=>∃ i j,x=.int i∧y=.int j∧C i j∧Q (g i j) H
def rI0 (g:Int→Int→V):R2:=fun x y H Q=>∃ i j,x=.int i∧y=.int j∧Q (g i j) H
section
variable {X:Cx}{a b c:Expr}{ta tb tc:TE}{pos:Pos}
theorem binT (ha:PE X a ta) (hb:PE X b tb){pins:List (Addr×Obj)}{s:Shared}{σ:St}{H:Hp}{R:V→V→Hp→Prop} (I:Inv X pins σ H s)
  (h:ta σ H fun x H1=>tb σ H1 fun y H2=>R x y H2){Q:Value→Shared→Prop}{f:Value→Value→Sem Value}
  (hf:∀ v u s2 x y H2,Inv X pins σ H2 s2→za8 x v→za8 y u→R x y H2→wpAny (model X.prog X.w) X.A (f v u) Q X.xe s2) :
  wpAny (model X.prog X.w) X.A (eval a X.env) (fun v s₁=>wpAny (model X.prog X.w) X.A (eval b X.env) (fun u s₂=>wpAny (model X.prog X.w) X.A (f v u) Q X.xe s₂) X.xe s₁) X.xe s:=by
 refine thn (ha pins s σ H _ I h) fun v s1=>L2.ex5 fun x H1 I1 r1 q1=>?_
 refine thn (hb pins s1 σ H1 _ I1 q1) fun u s2=>L2.ex5 fun y H2 I2 r2 q2=>?_
 exact hf v u s2 x y H2 I2 r1 r2 q2
theorem zat {op:Operator}{r:R2} (ho:OpR X (binaryOp op) r) (ha:PE X a ta) (hb:PE X b tb):PE X (.BinOp a op b pos) (tOp r ta tb):=by
 intro pins s σ H Q I h
 exact wpAny_BinOp (binT ha hb I h fun v u s2 x y H2 I2 rx ry q=>ho pins s2 σ H2 x y v u Q I2 rx ry q)
theorem opI {f:Value→Value→Sem Value}{C:Int→Int→Prop}{g:Int→Int→Int}
  (rule:∀ (i j:Int) (t u:Tok) (s:Shared) (Q:Value→Shared→Prop) (E:Value→Shared→Prop),C i j→Q (.int (g i j) s.toks) { s with toks:=s.toks + 1 }→wpAny (model X.prog X.w) X.A (f (.int i t) (.int j u)) Q E s) :
  OpR X f (rI C fun i j=>.int (g i j)):=by
 intro pins s σ H x y v u Q I rx ry h
 obtain⟨i,j,rfl,rfl,hc,q⟩:=h
 obtain⟨t,rfl⟩:=rx
 obtain⟨t',rfl⟩:=ry
 exact rule i j t t' s _ _ hc ⟨.int (g i j),H,I.tok _,⟨_,rfl⟩,q⟩
theorem opI0 {f:Value→Value→Sem Value}{g:Int→Int→Int}
  (rule:∀ (i j:Int) (t u:Tok) (s:Shared) (Q:Value→Shared→Prop) (E:Value→Shared→Prop),Q (.int (g i j) s.toks) { s with toks:=s.toks + 1 }→wpAny (model X.prog X.w) X.A (f (.int i t) (.int j u)) Q E s) :
  OpR X f (rI0 fun i j=>.int (g i j)):=by
 intro pins s σ H x y v u Q I rx ry h
 obtain⟨i,j,rfl,rfl,q⟩:=h
 obtain⟨t,rfl⟩:=rx
 obtain⟨t',rfl⟩:=ry
 exact rule i j t t' s _ _ ⟨.int (g i j),H,I.tok _,⟨_,rfl⟩,q⟩
theorem opB0 {f:Value→Value→Sem Value}{g:Int→Int→Bool}
  (rule:∀ (i j:Int) (t u:Tok) (s:Shared) (Q:Value→Shared→Prop) (E:Value→Shared→Prop),Q (.bool (g i j)) s→wpAny (model X.prog X.w) X.A (f (.int i t) (.int j u)) Q E s) :
  OpR X f (rI0 fun i j=>.bl (g i j)):=by
 intro pins s σ H x y v u Q I rx ry h
 obtain⟨i,j,rfl,rfl,q⟩:=h
 obtain⟨t,rfl⟩:=rx
 obtain⟨t',rfl⟩:=ry
 exact rule i j t t' s _ _ ⟨.bl (g i j),H,I,rfl,q⟩
def CDiv (i j:Int):Prop:=0<j∧j<1073741824
def CPow (i j:Int):Prop:=0≤j∧j≤1000000∧i.natAbs<2 ^ 64
def CMul (i j:Int):Prop:=(-(2 ^ 64)<i∧i<2 ^ 64)∨(-(2 ^ 64)<j∧j<2 ^ 64)
theorem CMul.ok {i j:Int} (h:CMul i j):IntMulOk i j:=by
 rcases h with⟨h1,h2⟩|⟨h1,h2⟩
 ·exact .of_left (intBits_le_64 h1 h2)
 ·exact .of_right (intBits_le_64 h1 h2)
theorem zbR:OpR X (binaryOp .Add) (rI0 fun i j=>.int (i + j)):=opI0 fun _ _ _ _ _ _ _ q=>add_int q
theorem ziq:OpR X (binaryOp .Sub) (rI0 fun i j=>.int (i - j)):=opI0 fun _ _ _ _ _ _ _ q=>sub_int q
theorem zir:OpR X (binaryOp .Mult) (rI CMul fun i j=>.int (i * j)):=opI fun _ _ _ _ _ _ _ hc q=>mul_int q hc.ok
theorem zfl:OpR X (binaryOp .FloorDiv) (rI CDiv fun i j=>.int (i / j)):=opI fun i j _ _ _ _ _ hc q=>by
 have h1:(0:Int)<j:=hc.1
 have h2:j<1073741824:=hc.2
 exact floordiv_int (by omega) (by rw[Int.fdiv_eq_ediv_of_nonneg i (by omega)];exact q) (.inl (PyProof.noPylong_small (by omega)))
theorem zbc:OpR X (binaryOp .Mod) (rI (fun _ j=>0<j) fun i j=>.int (i % j)):=opI fun i j _ _ _ _ _ hc q=>by
 have h1:(0:Int)<j:=hc
 exact mod_int' (by omega) (by rw[Int.fmod_eq_emod_of_nonneg i (by omega)];exact q)
theorem op_pow:OpR X (binaryOp .Pow) (rI CPow fun i j=>.int (i ^ j.toNat)):=opI fun _ _ _ _ _ _ _ hc q=>pow_int_small hc.1 hc.2.1 hc.2.2 q
end
def scal:V→V→Bool
 | .non,.non=>true | .non,.int _=>true | .int _,.non=>true | .non,.bl _=>true | .bl _,.non=>true | .non,.str _=>true | .str _,.non=>true
 | .int _,.int _=>true | .bl _,.bl _=>true | .str _,.str _=>true | .byt _,.byt _=>true
 | .int _,.str _=>true | .str _,.int _=>true | .bl _,.str _=>true | .str _,.bl _=>true
 | _,_=>false
def rEq:R2:=fun x y H Q=>scal x y=true∧Q (.bl (decide (x=y))) H
def rNe:R2:=fun x y H Q=>scal x y=true∧Q (.bl (!decide (x=y))) H
theorem zis {i j:Int}:decide (V.int i=V.int j)=(i == j):=by
 rw[Bool.eq_iff_iff]
 simp
theorem zkD {i j:Bool}:decide (V.bl i=V.bl j)=(i == j):=by
 rw[Bool.eq_iff_iff]
 simp
theorem zit {i j:Str}:decide (V.str i=V.str j)=(i == j):=by
 rw[Bool.eq_iff_iff]
 simp
theorem ziu {i j:Array UInt8}:decide (V.byt i=V.byt j)=(i.toList == j.toList):=by
 rw[Bool.eq_iff_iff]
 cases i
 cases j
 simp
section
variable {X:Cx}{a b c:Expr}{ta tb tc:TE}{pos:Pos}
theorem zaO {pins:List (Addr×Obj)}{σ:St}{H:Hp}{s:Shared}{Q:VK}{k k':Bool} (I:Inv X pins σ H s) (q:Q (.bl k) H) (e:k=k'):EP X pins σ Q (.bool k') s:=by
 subst e
 exact⟨.bl k,H,I,rfl,q⟩
theorem zd0:OpR X (compareOp .Eq) rEq:=by
 intro pins s σ H x y v u Q I rx ry h
 obtain⟨hs,q⟩:=h
 cases x with
 | non=>
  cases rx
  cases y with
  | non=>cases ry;exact PySem.EqNone.eq_none_none (zaO I q (by simp))
  | bl j=>cases ry;exact PySem.EqNone.eq_none_bool (zaO I q (by simp))
  | int j=>obtain⟨t',rfl⟩:=ry;exact PySem.EqNone.eq_none_int (zaO I q (by simp))
  | str j=>obtain⟨t',rfl⟩:=ry;exact PySem.EqNone.eq_none_str (zaO I q (by simp))
  | _=>exact absurd (show false=true from hs) Bool.false_ne_true
 | bl i=>
  cases rx
  cases y with
  | non=>cases ry;exact PySem.EqNone.eq_bool_none (zaO I q (by simp))
  | bl j=>cases ry;exact eq_bool (zaO I q zkD)
  | str j=>obtain⟨t',rfl⟩:=ry;exact PySem.EqMixed.eq_bool_str (zaO I q (by simp))
  | _=>exact absurd (show false=true from hs) Bool.false_ne_true
 | int i=>
  obtain⟨t,rfl⟩:=rx
  cases y with
  | non=>cases ry;exact PySem.EqNone.eq_int_none (zaO I q (by simp))
  | int j=>obtain⟨t',rfl⟩:=ry;exact eq_int (zaO I q zis)
  | str j=>obtain⟨t',rfl⟩:=ry;exact PySem.EqMixed.eq_int_str (zaO I q (by simp))
  | _=>exact absurd (show false=true from hs) Bool.false_ne_true
 | str i=>
  obtain⟨t,rfl⟩:=rx
  cases y with
  | non=>cases ry;exact PySem.EqNone.eq_str_none (zaO I q (by simp))
  | bl j=>cases ry;exact PySem.EqMixed.eq_str_bool (zaO I q (by simp))
  | int j=>obtain⟨t',rfl⟩:=ry;exact PySem.EqMixed.eq_str_int (zaO I q (by simp))
  | str j=>obtain⟨t',rfl⟩:=ry;exact eq_str (zaO I q zit)
  | _=>exact absurd (show false=true from hs) Bool.false_ne_true
 | byt i=>
  obtain⟨t,rfl⟩:=rx
  cases y with
  | byt j=>obtain⟨t',rfl⟩:=ry;exact PySem.W.eq_bytes (zaO I q ziu)
  | _=>exact absurd (show false=true from hs) Bool.false_ne_true
 | _=>cases y <;> exact absurd (show false=true from hs) Bool.false_ne_true
theorem zgO:OpR X (compareOp .NotEq) rNe:=by
 intro pins s σ H x y v u Q I rx ry h
 obtain⟨hs,q⟩:=h
 cases x with
 | non=>
  cases rx
  cases y with
  | non=>cases ry;exact PySem.EqNone.ne_none_none (zaO I q (by simp))
  | bl j=>cases ry;exact PySem.EqNone.ne_none_bool (zaO I q (by simp))
  | int j=>obtain⟨t',rfl⟩:=ry;exact PySem.EqNone.ne_none_int (zaO I q (by simp))
  | str j=>obtain⟨t',rfl⟩:=ry;exact PySem.EqNone.ne_none_str (zaO I q (by simp))
  | _=>exact absurd (show false=true from hs) Bool.false_ne_true
 | bl i=>
  cases rx
  cases y with
  | non=>cases ry;exact PySem.EqNone.ne_bool_none (zaO I q (by simp))
  | bl j=>cases ry;exact ne_bool (zaO I q (congrArg not zkD))
  | str j=>obtain⟨t',rfl⟩:=ry;exact PySem.EqMixed.ne_bool_str (zaO I q (by simp))
  | _=>exact absurd (show false=true from hs) Bool.false_ne_true
 | int i=>
  obtain⟨t,rfl⟩:=rx
  cases y with
  | non=>cases ry;exact PySem.EqNone.ne_int_none (zaO I q (by simp))
  | int j=>obtain⟨t',rfl⟩:=ry;exact ne_int (zaO I q (congrArg not zis))
  | str j=>obtain⟨t',rfl⟩:=ry;exact PySem.EqMixed.ne_int_str (zaO I q (by simp))
  | _=>exact absurd (show false=true from hs) Bool.false_ne_true
 | str i=>
  obtain⟨t,rfl⟩:=rx
  cases y with
  | non=>cases ry;exact PySem.EqNone.ne_str_none (zaO I q (by simp))
  | bl j=>cases ry;exact PySem.EqMixed.ne_str_bool (zaO I q (by simp))
  | int j=>obtain⟨t',rfl⟩:=ry;exact PySem.EqMixed.ne_str_int (zaO I q (by simp))
  | str j=>obtain⟨t',rfl⟩:=ry;exact ne_str (zaO I q (congrArg not zit))
  | _=>exact absurd (show false=true from hs) Bool.false_ne_true
 | byt i=>
  obtain⟨t,rfl⟩:=rx
  cases y with
  | byt j=>obtain⟨t',rfl⟩:=ry;exact PySem.W.ne_bytes (zaO I q (congrArg not ziu))
  | _=>exact absurd (show false=true from hs) Bool.false_ne_true
 | _=>cases y <;> exact absurd (show false=true from hs) Bool.false_ne_true
theorem zf0:OpR X (compareOp .Lt) (rI0 fun i j=>.bl (decide (i<j))):=opB0 fun _ _ _ _ _ _ _ q=>lt_int q
theorem op_le:OpR X (compareOp .LtE) (rI0 fun i j=>.bl (decide (i≤j))):=opB0 fun _ _ _ _ _ _ _ q=>le_int q
theorem zeU:OpR X (compareOp .Gt) (rI0 fun i j=>.bl (decide (j<i))):=opB0 fun _ _ _ _ _ _ _ q=>gt_int q
theorem ziv:OpR X (compareOp .GtE) (rI0 fun i j=>.bl (decide (j≤i))):=opB0 fun _ _ _ _ _ _ _ q=>ge_int q
theorem zf1:OpR X (compareOp .In) (fun x y H Q=>∃ i j,x=.str i∧y=.str j∧Q (.bl (!(Builtin.Str.occurrences j i 0 j.length 1).isEmpty)) H):=by
 intro pins s σ H x y v u Q I rx ry h
 obtain⟨i,j,rfl,rfl,q⟩:=h
 obtain⟨t,rfl⟩:=rx
 obtain⟨t',rfl⟩:=ry
 exact in_str (zaO I q rfl)
theorem zax (b:Expr){op:CmpOp} (h:op≠.In:=by decide) (h2:op≠.NotIn:=by decide):behindInMarks op b=false:=by
 have e1:(op == CmpOp.In)=false:=by cases op <;> first|rfl|exact absurd rfl h
 have e2:(op == CmpOp.NotIn)=false:=by cases op <;> first|rfl|exact absurd rfl h2
 cases b <;> simp[behindInMarks,e1,e2]
theorem zbo {op:CmpOp}{r:R2} (ho:OpR X (compareOp op) r) (ha:PE X a ta) (hb:PE X b tb) (hm:behindInMarks op b=false):PE X (.Compare a [op] [b] pos) (tOp r ta tb):=by
 intro pins s σ H Q I h
 exact wpAny_Compare1 (binT ha hb I h fun v u s2 x y H2 I2 rx ry q=>ho pins s2 σ H2 x y v u Q I2 rx ry q) hm
def tTest (t:TE):TT:=fun σ H Q=>t σ H fun x H'=>∃ k,x=.bl k∧Q k H'
theorem zaq {op:CmpOp}{r:R2} (ho:OpR X (compareOp op) r) (ha:PE X a ta) (hb:PE X b tb) (hm:behindInMarks op b=false):PT X (.Compare a [op] [b] pos) (tTest (tOp r ta tb)):=by
 intro pins s σ H Q I h
 refine wpAny_isTrue_Compare1 (thn (ha pins s σ H _ I h) fun v s1=>L2.ex5 fun x H1 I1 r1 q1=>thn (hb pins s1 σ H1 _ I1 q1) fun u s2=>L2.ex5 fun y H2 I2 r2 q2=>
  thn (ho pins s2 σ H2 x y v u _ I2 r1 r2 q2) fun c s3 ⟨z,H3,I3,r3,k,e,q3⟩=>?_) hm
 subst e
 cases r3
 exact wpAny_truthy_bool ⟨H3,I3,q3⟩
theorem zf2:(sizeLine:Nat)<2 ^ 63:=by rw[sizeLine_eq];decide
theorem zao:OpR X (binaryOp .Add) (fun x y H Q=>∃ i j,x=.str i∧y=.str j∧i.length + j.length≤sizeLine∧Q (.str (i++j)) H):=by
 intro pins s σ H x y v u Q I rx ry h
 obtain⟨i,j,rfl,rfl,hz,q⟩:=h
 obtain⟨t,rfl⟩:=rx
 obtain⟨t',rfl⟩:=ry
 exact add_str (fun t' tk=>⟨.str (i++j),H,I.tok _,⟨_,rfl⟩,q⟩) hz
theorem zda {x:V}{us:List Value} (r:zaX [x] us):∃ u,us=[u]∧za8 x u:=by
 cases r with
 | cons r1 r2=>cases r2;exact⟨_,rfl,r1⟩
theorem vals2 {x y:V}{us:List Value} (r:zaX [x,y] us):∃ u w',us=[u,w']∧za8 x u∧za8 y w':=by
 cases r with
 | cons r1 r2=>
  cases r2 with
  | cons r3 r4=>cases r4;exact⟨_,_,rfl,r1,r3⟩
theorem ziw:zdx X (.type "int") (fun xs H Q=>(∃ i,xs=[.int i]∧Q (.int i) H)∨∃ k,xs=[.bl k]∧Q (.int (if k then 1 else 0)) H):=by
 intro pins s σ H xs us Q I r h
 rcases h with⟨i,rfl,q⟩|⟨k,rfl,q⟩
 ·obtain⟨u,rfl,t,rfl⟩:=zda r
  exact call_int_int ⟨.int i,H,I,⟨_,rfl⟩,q⟩
 ·obtain⟨u,rfl,r1⟩:=zda r
  cases r1
  exact call_int_bool ⟨.int (if k then 1 else 0),H,I.tok _,⟨_,rfl⟩,q⟩
theorem zaZ:zdx X (.type "str") (fun xs H Q=>∃ i,xs=[.int i]∧i.natAbs.log2<1920∧Q (.str (toString i)) H):=by
 intro pins s σ H xs us Q I r h
 obtain⟨i,rfl,hz,q⟩:=h
 obtain⟨u,rfl,t,rfl⟩:=zda r
 exact PySem.P.str_of_int hz ⟨.str _,H,I.tok _,⟨_,rfl⟩,q⟩
end
end L2
namespace L2
open PySem PySem.Spec PyProof.Rows
structure zk1 (h:Heap) (x dx C:Addr) (mA:Str→Option Value):Prop where
 obj:h.get? x=some (PySem.W.instObj C dx)
 ns:h.Ns1 dx mA
 ne:dx≠x
theorem zix {h:Heap}{dx:Addr}{mA:Str→Option Value} (n:h.Ns1 dx mA):∃ od,h.get? dx=some od∧∀ name,PySem.W.lookIn name od=some (mA name):=by
 obtain⟨o,es,ep,ho,hd,hk,_,hm⟩:=n
 refine⟨o,ho,fun name=>?_⟩
 have e:=hm name
 unfold nsFind findBy at e
 rw[← Array.find?_toList] at e
 unfold PySem.W.lookIn
 rw[hd]
 dsimp only
 split
 ·rename_i y q
  rw[q] at e
  exact congrArg some e
 ·rename_i q
  rw[q] at e
  have a:es.toList.any (·.refKey)=false:=by
   rw[List.any_eq_false]
   intro y hy
   obtain⟨z,t,hkey⟩:=hk y (Array.mem_toList_iff.mp hy)
   simp[DictEntry.refKey,hkey]
  have a':¬ es.toList.any (·.refKey)=true:=by rw[a];exact Bool.false_ne_true
  rw[if_neg a']
  exact congrArg some e
theorem zk1.look {h:Heap}{x dx C:Addr}{mA:Str→Option Value} (I:zk1 h x dx C mA):∃ od,PySem.W.InstAt h x (PySem.W.instObj C dx) C (some od)∧∀ name,PySem.W.lookIn name od=some (mA name):=
 let ⟨od,ho,hl⟩:=zix I.ns
 ⟨od,⟨I.obj,rfl,rfl,ho⟩,hl⟩
section
variable {prog:Program}{w:World}{A:Around}{E:Value→Shared→Prop}{s:Shared}{K:PySem.W.Frag}{x dx C f:Addr}{mA:Str→Option Value}{name:Str}{v:Value}
theorem zk2 {expr:Bool}{Q:Value→Shared→Prop} (X:K.In s.heap) (I:zk1 s.heap x dx C mA) (hg:PySem.W.plainGet K C name=true) (hh:PySem.W.hasDictIn K C=true)
  (ha:PySem.W.findIn K (.ref C) name=some none) (hv:mA name=some v) (hv':PySem.W.handedIn v=true) (h:Q v { s with toks:=s.toks + 1 }) :
  wpAny (model prog w) A (getAttr (.ref x) name expr) Q E s:=by
 obtain⟨od,J,hl⟩:=I.look
 exact PySem.W.get_value X J (PySem.W.plainGet_of hg).1 (PySem.W.findObj_own hh ha rfl (by rw[hl,hv])) hv' h
theorem zjW {pl:Sem Bool}{Q:Value×List Value→Shared→Prop} (X:K.In s.heap) (I:zk1 s.heap x dx C mA) (hg:PySem.W.plainGet K C name=true)
  (hf:PySem.W.findIn K (.ref C) name=some (some (.ref f))) (ht:PySem.W.isFn K (.ref f)=true) (hv:mA name=none) (h:Q (.ref f,[.ref x]) s) :
  wpAny (model prog w) A (getMethod (.ref x) name pl) Q E s:=by
 obtain⟨od,J,hl⟩:=I.look
 exact PySem.W.method_fn X J (PySem.W.plainGet_of hg).1 (PySem.W.plainGet_of hg).2 hf (beq_iff_eq.mp ht) (by show(PySem.W.lookIn name od).map (·.isSome)=some false;rw[hl,hv];rfl) h
theorem zk3 {ns:List Str}{Q:Unit→Shared→Prop} (X:K.In s.heap) (I:zk1 s.heap x dx C mA)
  (hs:PySem.W.findIn K (.ref C) "__setattr__"=some (some (.builtin "object.__setattr__"))) (hp:PySem.W.plainOver K C=true) (ht:PySem.W.takerIn K C name=some none) (hh:PySem.W.hasDictIn K C=true)
  (hw:PySem.Within mA ns) (hsz:ns.length≤sizeLine)
  (h:∀ h',zk1 h' x dx C (fun y=>if y=name then some v else mA y)→Heap.SameBut dx s.heap h'→Q () { s with heap:=h',toks:=s.toks + 2 }) :
  wpAny (model prog w) A (setAttr (.ref x) name v) Q E s:=by
 obtain⟨od,J,hl⟩:=I.look
 refine PySem.W.set_plain X J hs (PySem.W.osa_open (s:={ s with toks:=s.toks + 1 }) (r:=none) X J hp ht fun b=>?_)
 obtain⟨cd,hc,hd'⟩:=PySem.W.any_some hh
 have hx:s.heap.get? x=some ⟨.ref C,some dx,.plain,#[]⟩:=I.obj
 refine wpAny_bind (wpAny_pure (wpAny_bind (wpAny_bind (wpAny_loadPart hx (wpAny_bind (PySem.W.Looks.here (s:={ s with toks:=s.toks + 1 }) (PySem.W.looks_clsIn X hc) ?_))))))
 rw[hd']
 refine wpAny_pure (a:=some dx) (wpAny_bind (wpAny_pure (wpAny_bind ?_)))
 refine wpAny_nsSet1 (s:={ s with toks:=s.toks + 1 }) I.ns fun h' hn2 hs2=>?_
 obtain⟨oD,esD,epD,hoD,hdD,hcD⟩:=hn2.count (PySem.Within.cons name v hw)
 refine wpAny_bind (wpAny_lookBehind hoD (by rw[hdD];exact pastItsLine_dict (Nat.le_trans hcD (by rw[List.length_cons];omega))) ?_)
 exact wpAny_pure (h _ ⟨(hs2.2 _ (Ne.symm I.ne)).trans I.obj,hn2,I.ne⟩ hs2)
theorem zjX {R:Result→Shared→Prop}{vs:List Value}{kw:List (Str×Value)} (X:K.In s.heap) (hm:PySem.W.makesIn K C=true)
  (hi:PySem.W.findIn K (.ref C) "__init__"=some (some (.ref f))) (hf:PySem.W.typeIn K (.ref f)=some (.type "function"))
  (h:codeAny (model prog w) (A.under (.builtin "type.__call__" ⟨.ref C::vs,kw⟩)) (.call (.ref f) ⟨.ref (s.heap.objs.size + 1)::vs,kw⟩) (PySem.W.InitBack (s.heap.objs.size + 1) R)
   { s with heap:=(s.heap.push PySem.W.emptyDict).push (PySem.W.instObj C s.heap.objs.size) }) :
  codeAny (model prog w) A (.call (.ref C) ⟨vs,kw⟩) R s:=by
 obtain⟨hh,g,d,t,os⟩:=s
 exact PySem.W.make_core (PySem.W.makes_of X hm) (PySem.W.looks_findIn X hi) (fun self=>PySem.W.bind_fn X self hf) (.inl rfl) h
end
def zd3 (f:Str) (v:V):List (Str×V)→List (Str×V)
 | []=>[(f,v)]
 | (g,x)::r=>if g=f then(g,v)::r else(g,x)::zd3 f v r
theorem zeg (f g:Str) (v:V):∀ fs:List (Str×V),(zd3 f v fs).lookup g=if g=f then some v else fs.lookup g
 | []=>by
  show List.lookup g [(f,v)]=_
  by_cases h:g=f
  ·have hb:(g == f)=true:=beq_iff_eq.mpr h
   simp only[List.lookup,hb,if_pos h]
  ·have hb:(g == f)=false:=beq_eq_false_iff_ne.mpr h
   simp only[List.lookup,hb,if_neg h]
 | (k,x)::r=>by
  have ih:=zeg f g v r
  rw[show zd3 f v ((k,x)::r)=(if k=f then(k,v)::r else(k,x)::zd3 f v r) from rfl]
  by_cases hk:k=f
  ·rw[if_pos hk]
   by_cases h:g=k
   ·have hb:(g == k)=true:=beq_iff_eq.mpr h
    simp only[List.lookup,hb,if_pos (h.trans hk)]
   ·have hb:(g == k)=false:=beq_eq_false_iff_ne.mpr h
    simp only[List.lookup,hb,if_neg (fun e:g=f=>h (e.trans hk.symm))]
  ·rw[if_neg hk]
   by_cases h:g=k
   ·have hb:(g == k)=true:=beq_iff_eq.mpr h
    simp only[List.lookup,hb,if_neg (fun e:g=f=>hk (h.symm.trans e))]
   ·have hb:(g == k)=false:=beq_eq_false_iff_ne.mpr h
    simp only[List.lookup,hb]
    exact ih
theorem zeh (f:Str) (v:V):∀ fs:List (Str×V),f∈(zd3 f v fs).map (·.1)∧∀ g,g∈fs.map (·.1)→g∈(zd3 f v fs).map (·.1)
 | []=>⟨by simp[zd3],fun g h=>by simp at h⟩
 | (k,x)::r=>by
  obtain⟨i1,i2⟩:=zeh f v r
  rw[show zd3 f v ((k,x)::r)=(if k=f then(k,v)::r else(k,x)::zd3 f v r) from rfl]
  by_cases hk:k=f
  ·rw[if_pos hk]
   subst hk
   exact⟨by simp,fun g h=>by simpa using h⟩
  ·rw[if_neg hk]
   refine⟨?_,fun g h=>?_⟩
   ·rw[List.map_cons]
    exact List.mem_cons_of_mem _ i1
   ·rw[List.map_cons] at h ⊢
    rcases List.mem_cons.mp h with e|e
    ·exact List.mem_cons.mpr (.inl e)
    ·exact List.mem_cons_of_mem _ (i2 g e)
theorem zei (f:Str) (v:V):∀ fs:List (Str×V),(zd3 f v fs).length≤fs.length + 1
 | []=>by simp[zd3]
 | (k,x)::r=>by
  have ih:=zei f v r
  rw[show zd3 f v ((k,x)::r)=(if k=f then(k,v)::r else(k,x)::zd3 f v r) from rfl]
  by_cases hk:k=f
  ·rw[if_pos hk,List.length_cons,List.length_cons];omega
  ·rw[if_neg hk,List.length_cons,List.length_cons];omega
theorem zfh.some_of {v:V}{o:Option Value} (r:zfh (some v) o):∃ u,o=some u∧za8 v u:=by
 cases o with
 | none=>exact(show False from r).elim
 | some u=>exact⟨u,rfl,r⟩
theorem zfh.none_of {o:Option Value} (r:zfh none o):o=none:=by
 cases o with
 | none=>rfl
 | some u=>exact(show False from r).elim
theorem ziy {v:V}{u:Value} (r:za8 v u):PySem.W.handedIn u=true:=by
 cases v with
 | non=>cases (show u=Value.none from r);rfl
 | bl b=>cases (show u=Value.bool b from r);rfl
 | int i=>obtain⟨t,e⟩:=(show ∃ t,u=Value.int i t from r);cases e;rfl
 | str x=>obtain⟨t,e⟩:=(show ∃ t,u=Value.str x t from r);cases e;rfl
 | byt b=>obtain⟨t,e⟩:=(show ∃ t,u=Value.bytes b t from r);cases e;rfl
 | flt b=>obtain⟨t,e⟩:=(show ∃ t,u=Value.float b t from r);cases e;rfl
 | ref a=>cases (show u=Value.ref a from r);rfl
 | ty n=>cases (show u=Value.type n from r);rfl
section
variable {P:Program}{w:World}{H H':Hp}{h h':Heap}{a C dx:Addr}{fs fs':List (Str×V)}
theorem zfm (hok:HOk P w H h) (e:H a=some (.ins C dx fs)):∃ mA,zk1 h a dx C mA∧(∀ f,zfh (fs.lookup f) (mA f))∧PySem.Within mA (fs.map (·.1))∧fs.length≤1000∧H dx=some (.own a):=by
 obtain⟨d,z,ne,ob,mA,n,r,q⟩:=(show zbw P w H h a (.ins C dx fs) from hok a _ e)
 exact⟨mA,⟨ob,n,ne⟩,r,q,z,d⟩
end
structure Cls (K:PySem.W.Frag) (C:Addr):Prop where
 pg:PySem.W.plainGet K C Str.empty=true
 hd:PySem.W.hasDictIn K C=true
 po:PySem.W.plainOver K C=true
 sa:PySem.W.findIn K (.ref C) "__setattr__"=some (some (.builtin "object.__setattr__"))
theorem Cls.get {K:PySem.W.Frag}{C:Addr} (c:Cls K C) (f:Str):PySem.W.plainGet K C f=true:=c.pg
def zcm (K:PySem.W.Frag) (C:Addr) (f:Str):Prop:=PySem.W.findIn K (.ref C) f=some none
theorem zcm.taker {K:PySem.W.Frag}{C:Addr}{f:Str} (n:zcm K C f):PySem.W.takerIn K C f=some none:=by
 unfold PySem.W.takerIn
 rw[show PySem.W.findIn K (.ref C) f=some none from n]
 rfl
structure Con (K:PySem.W.Frag) (C:Addr) (f:Str) (v:V) (u:Value):Prop where
 at_:PySem.W.findIn K (.ref C) f=some (some u)
 rel:za8 v u
 get:PySem.W.specialIn K u "__get__"=some none
 cp:PySem.W.copiedNames.contains f=false
structure Meth (K:PySem.W.Frag) (C:Addr) (m:Str) (f:Addr):Prop where
 at_:PySem.W.findIn K (.ref C) m=some (some (.ref f))
 fn:PySem.W.isFn K (.ref f)=true
 kp:PySem.W.keepIn K (.ref f)=true
section
variable {X:Cx}{pins:List (Addr×Obj)}{σ:St}{H:Hp}{s:Shared}{a C dx:Addr}{fs:List (Str×V)}{f:Str}{v:V}{A:Around}{E:Value→Shared→Prop}
theorem zhM {b:Bool}{Q:Value→Shared→Prop} (I:Inv X pins σ H s) (e:H a=some (.ins C dx fs)) (c:Cls X.K C) (n:zcm X.K C f) (l:fs.lookup f=some v)
  (h:∀ u s',Inv X pins σ H s'→za8 v u→Q u s'):wpAny (model X.prog X.w) A (getAttr (.ref a) f b) Q E s:=by
 obtain⟨mA,O,r,_,_,_⟩:=zfm I.hok e
 obtain⟨u,hu,ru⟩:=zfh.some_of (v:=v) (o:=mA f) (by rw[← l];exact r f)
 exact zk2 I.kIn O (c.get f) c.hd n hu (ziy ru) (h u _ (I.tok _) ru)
theorem zdy {m:Str}{g:Addr}{pl:Sem Bool}{Q:Value×List Value→Shared→Prop} (I:Inv X pins σ H s) (e:H a=some (.ins C dx fs)) (c:Cls X.K C) (k:Meth X.K C m g) (l:fs.lookup m=none)
  (h:Q (.ref g,[.ref a]) s):wpAny (model X.prog X.w) A (getMethod (.ref a) m pl) Q E s:=by
 obtain⟨mA,O,r,_,_,_⟩:=zfm I.hok e
 have hn:mA m=none:=zfh.none_of (by rw[← l];exact r m)
 exact zjW I.kIn O (c.get m) k.at_ k.fn hn h
theorem zhN {y:V}{u:Value}{Q:Unit→Shared→Prop} (I:Inv X pins σ H s) (e:H a=some (.ins C dx fs)) (c:Cls X.K C) (n:zcm X.K C f) (hl:fs.length<1000) (ry:za8 y u)
  (h:∀ s',Inv X pins σ (upd H a (.ins C dx (zd3 f y fs))) s'→Q () s'):wpAny (model X.prog X.w) A (setAttr (.ref a) f u) Q E s:=by
 obtain⟨mA,O,r,wi,_,ho⟩:=zfm I.hok e
 have hz:(fs.map (·.1)).length≤sizeLine:=by rw[List.length_map,sizeLine_eq];omega
 refine zk3 I.kIn O c.sa c.po n.taker c.hd wi hz fun h' O' sb=>h _ ?_
 have hd:∃ o,h'.get? dx=some o:=let ⟨o,_,_,e',_⟩:=O'.ns;⟨o,e'⟩
 refine I.write (x:=a) (e:=dx) (by rw[e];exact True.intro) (.inr ho) (fun b q hb z=>(sb.2 b hb).trans z) hd ?_
 refine⟨by rw[zaf O.ne];exact ho,?_,O.ne,O'.obj,_,O'.ns,fun g=>?_,fun g hg=>?_⟩
 ·have:=zei f y fs;omega
 ·show zfh ((zd3 f y fs).lookup g) (if g=f then some u else mA g)
  rw[zeg]
  by_cases q:g=f
  ·rw[if_pos q,if_pos q];exact ry
  ·rw[if_neg q,if_neg q];exact r g
 ·by_cases q:g=f
  ·rw[q];exact(zeh f y fs).1
  ·refine(zeh f y fs).2 g (wi g fun z=>hg ?_)
   show(if g=f then some u else mA g)=none
   rw[if_neg q];exact z
theorem Inv.made (I:Inv X pins σ H s):Inv X pins σ (upd (upd H s.heap.objs.size (.own (s.heap.objs.size + 1))) (s.heap.objs.size + 1) (.ins C s.heap.objs.size []))
  { s with heap:=(s.heap.push PySem.W.emptyDict).push (PySem.W.instObj C s.heap.objs.size) }:=by
 have e1:(s.heap.push PySem.W.emptyDict).get? s.heap.objs.size=some PySem.W.emptyDict:=Heap.get?_push_size s.heap rfl
 have e2:((s.heap.push PySem.W.emptyDict).push (PySem.W.instObj C s.heap.objs.size)).get? (s.heap.objs.size + 1)=some (PySem.W.instObj C s.heap.objs.size):=by
  have:=Heap.get?_push_size (s.heap.push PySem.W.emptyDict) (o:=PySem.W.instObj C s.heap.objs.size) rfl
  rwa [Heap.size_push] at this
 have e3:(s.heap.push PySem.W.emptyDict).Ns s.heap.objs.size (fun _=>none):=⟨PySem.W.emptyDict,#[],_,e1,rfl,(fun e he=>absurd he (by simp)),fun _=>rfl⟩
 have I1:=I.laid (a:=s.heap.objs.size) (o:=.own (s.heap.objs.size + 1)) (h':=s.heap.push PySem.W.emptyDict) (t':=s.toks) (fun b u q=>Heap.get?_push_of_some _ q) (Nat.le_refl _) ⟨_,e1⟩
 refine I1.laid (a:=s.heap.objs.size + 1) (o:=.ins C s.heap.objs.size []) (t':=s.toks) (fun b u q=>Heap.get?_push_of_some _ q) (Nat.le_of_eq (Heap.size_push _ _)) ?_
 have ne:s.heap.objs.size≠s.heap.objs.size + 1:=Nat.ne_of_lt (Nat.lt_succ_self _)
 refine⟨by rw[zaf ne,zab],Nat.zero_le _,ne,e2,fun _=>none,(Heap.Ns1.of_empty e3).at fun o q=>Heap.get?_push_of_some _ q,fun _=>True.intro,fun y hy=>absurd rfl hy⟩
theorem zk4 {prog:Program}{w:World}{env:Env}{e:Expr}{f:Str}{pos:Pos}{s:Shared}{Q:Value→Shared→Prop} (hb:attributeBase e f env (eval e env)=eval e env)
  (h:wpAny (model prog w) A (eval e env) (fun o s₁=>wpAny (model prog w) A (getAttr o f true) Q E s₁) E s):wpAny (model prog w) A (eval (.Attribute e f pos) env) Q E s:=
 Attribute_any_ h (by rw[arm_eval_Attribute,hb])
end
def tFld (K:PySem.W.Frag) (ta:TE) (f:Str):TE:=fun σ H Q=>ta σ H fun x H1=>∃ a C dx fs v,x=.ref a∧H1 a=some (.ins C dx fs)∧Cls K C∧zcm K C f∧fs.lookup f=some v∧Q v H1
def sFld (K:PySem.W.Frag) (ta tv:TE) (f:Str):TS:=fun D σ H=>tv σ H fun y H1=>ta σ H1 fun x H2=>∃ a C dx fs,x=.ref a∧H2 a=some (.ins C dx fs)∧Cls K C∧zcm K C f∧fs.length<1000 ∧
 D.nx σ (upd H2 a (.ins C dx (zd3 f y fs)))
section
variable {X:Cx}{o e value:Expr}{f:Str}{pos pos' tpos:Pos}{ta tv:TE}
theorem zbD (he:PE X e ta) (hb:attributeBase e f X.env (eval e X.env)=eval e X.env):PE X (.Attribute e f pos) (tFld X.K ta f):=by
 intro pins s σ H Q I h
 refine zk4 hb (thn (he pins s σ H _ I h) fun u s1=>L2.ex5 fun x H1 I1 rx hq_=>?_)
 obtain⟨a,C,dx,fs,v,ex,ea,c,n,l,q⟩:=hq_
 subst ex
 obtain rfl:u=Value.ref a:=rx
 exact zhM I1 ea c n l fun u' s2 I2 ru=>⟨v,H1,I2,ru,q⟩
theorem ze3 (ha:PE X o ta) (hv:PE X value tv) (hs:swapsWith value (some (.Attribute o f pos')) pos.line X.env=pure false):PS X (.Assign [.Attribute o f pos'] value pos) (sFld X.K ta tv f):=by
 intro pins s σ H D I h
 refine plainObj_wpAny_Assign_Attribute (thn (hv pins s σ H _ I h) fun u s1=>L2.ex5 fun y H1 I1 ry q=>thn (ha pins s1 σ H1 _ I1 q) fun ov s2=>L2.ex5 fun x H2 I2 rx hq_=>?_) hs
 obtain⟨a,C,dx,fs,ex,ea,c,n,l,q2⟩:=hq_
 subst ex
 obtain rfl:ov=Value.ref a:=rx
 exact zhN I2 ea c n l ry fun s3 I3=>⟨σ,_,I3,q2⟩
end
section
variable {X:Cx}{pins:List (Addr×Obj)}{σ:St}{H:Hp}{s:Shared}{A:Around}{E:Value→Shared→Prop}{Q:Value→Shared→Prop}{c:Value}{b:Bool}
inductive zhO (K:PySem.W.Frag) (H:Hp):V→Value→Prop where
 | non:zhO K H .non (.type "NoneType")
 | bl (x:Bool):zhO K H (.bl x) (.type "bool")
 | int (i:Int):zhO K H (.int i) (.type "int")
 | str (x:Str):zhO K H (.str x) (.type "str")
 | flt (x:UInt64):zhO K H (.flt x) (.type "float")
 | lst {a:Addr}{xs:List V} (e:H a=some (.lst xs)):zhO K H (.ref a) (.type "list")
 | frz {a:Addr}{o:Obj}{xs:List V} (e:H a=some (.frz o (.lst xs))):zhO K H (.ref a) (.type "list")
 | tup {a:Addr}{xs:List V} (e:H a=some (.tup xs)):zhO K H (.ref a) (.type "tuple")
 | dK {a:Addr}{kvs:List (Key×V)} (e:H a=some (.dK kvs)):zhO K H (.ref a) (.type "dict")
 | dT {a:Addr}{kvs:List (List Key×V)} (e:H a=some (.dT kvs)):zhO K H (.ref a) (.type "dict")
 | ins {a C dx:Addr}{fs:List (Str×V)} (e:H a=some (.ins C dx fs)) (cl:Cls K C) (ha:PySem.W.findIn K (.ref C) "__class__"=some (some (.builtin "object.__class__")))
   (hn:PySem.W.specialIn K (.builtin "object.__class__") "__get__"=some (some (.builtin "getset_descriptor.__get__"))) (htk:PySem.W.takesIn K (.builtin "object.__class__")=some true)
   (hm:PySem.W.mroIn K C (.type "object")=some true):zhO K H (.ref a) (.ref C)
theorem ziz {x:V}{u t:Value} (I:Inv X pins σ H s) (rx:za8 x u) (ty:zhO X.K H x t) (e:PySem.W.kitOne X.K t c=some b) (h:∀ tk,Q (.bool b) { s with toks:=tk }) :
  wpAny (model X.prog X.w) A (call (.builtin "isinstance") [u,c]) Q E s:=by
 cases ty with
 | non=>cases (show u=Value.none from rx);exact PySem.W.kia_one PySem.W.kitx_none I.kIn True.intro e (fun z=>nomatch z) h
 | bl y=>cases (show u=Value.bool y from rx);exact PySem.W.kia_one PySem.W.kitx_bool I.kIn True.intro e (fun z=>nomatch z) h
 | int i=>obtain⟨t,q⟩:=(show ∃ t,u=Value.int i t from rx);cases q;exact PySem.W.kia_one PySem.W.kitx_int I.kIn True.intro e (fun z=>nomatch z) h
 | str y=>obtain⟨t,q⟩:=(show ∃ t,u=Value.str y t from rx);cases q;exact PySem.W.kia_one PySem.W.kitx_str I.kIn True.intro e (fun z=>nomatch z) h
 | flt y=>obtain⟨t,q⟩:=(show ∃ t,u=Value.float y t from rx);cases q;exact PySem.W.kia_one PySem.W.kitx_float I.kIn True.intro e (fun z=>nomatch z) h
 | @lst a xs ea=>
  cases (show u=Value.ref a from rx)
  obtain⟨_,_,n,_,h1⟩:=(show zbw X.prog X.w H s.heap a (.lst xs) from I.hok a _ ea)
  exact PySem.W.kia_one PySem.W.kitx_list I.kIn ⟨_,h1,rfl⟩ e (fun z=>nomatch z) h
 | @frz a ob xs ea=>
  cases (show u=Value.ref a from rx)
  obtain⟨_,_,_,n,_,h1⟩:=(show zbw X.prog X.w H s.heap a (.frz ob (.lst xs)) from I.hok a _ ea)
  exact PySem.W.kia_one PySem.W.kitx_list I.kIn ⟨_,h1,rfl⟩ e (fun z=>nomatch z) h
 | @tup a xs ea=>
  cases (show u=Value.ref a from rx)
  obtain⟨_,_,_,p⟩:=(show zbw X.prog X.w H s.heap a (.tup xs) from I.hok a _ ea)
  obtain⟨o,h1,h2,_⟩:=p
  exact PySem.W.kia_one PySem.W.kitx_tuple I.kIn ⟨o,h1,h2⟩ e (fun z=>nomatch z) h
 | @dK a kvs ea=>
  cases (show u=Value.ref a from rx)
  obtain⟨_,_,vs,_,p⟩:=(show zbw X.prog X.w H s.heap a (.dK kvs) from I.hok a _ ea)
  obtain⟨o,es,ep,h1,h2,_⟩:=p
  exact PySem.W.kia_one PySem.W.kitx_dict I.kIn ⟨o,h1,h2.1⟩ e (fun z=>nomatch z) h
 | @dT a kvs ea=>
  cases (show u=Value.ref a from rx)
  obtain⟨_,_,xs,_,o,es,ep,h1,h2,_⟩:=(show zbw X.prog X.w H s.heap a (.dT kvs) from I.hok a _ ea)
  exact PySem.W.kia_one PySem.W.kitx_dict I.kIn ⟨o,h1,h2.1⟩ e (fun z=>nomatch z) h
 | @ins a C dx fs ea cl ha hn htk hm=>
  cases (show u=Value.ref a from rx)
  obtain⟨mA,O,_⟩:=zfm I.hok ea
  obtain⟨od,J,_⟩:=O.look
  exact PySem.W.kia_one (PySem.W.kitx_own (cl.get _) cl.hd ha hn htk hm) I.kIn J e (fun z=>nomatch z) h
end
end L2
namespace L2
open PySem PySem.Spec PyProof.Rows
structure zcJ (k:Nat) (A:Around):Prop where
 dp:A.depth + 3 * k + 5<recursionLimit
 un:A.units + 16 * k + 200<cLine
theorem zcJ.mono {j k:Nat}{A:Around} (r:zcJ k A) (h:j≤k):zcJ j A:=⟨by have:=r.dp;omega,by have:=r.un;omega⟩
theorem zcJ.deeper {k:Nat}{A:Around} (r:zcJ (k + 1) A) (env:Env):zcJ k (A.deeper env):=
 ⟨by have:=r.dp;show A.depth + 1 + 3 * k + 5<_;omega,by have:=r.un;show A.units + 3 + 16 * k + 200<_;omega⟩
theorem zhP {A:Around}{C:Addr}{us:List Value}{kw:List (Str×Value)}:(A.under (.builtin "type.__call__" ⟨.ref C::us,kw⟩)).depth=A.depth + 1:=by
 first|rfl|simp[Around.under,Code.weight,Code.isCreation,Code.isGuard,Code.isCaller,Code.frames,Code.isFrame,guardIds]
theorem zhQ {A:Around}{C:Addr}{us:List Value}{kw:List (Str×Value)}:(A.under (.builtin "type.__call__" ⟨.ref C::us,kw⟩)).units=A.units + 1:=by
 first|rfl|simp[Around.under,Code.cUnits,Code.frames,Code.isFrame]
theorem zcJ.make {k:Nat}{A:Around} (r:zcJ (k + 1) A) (C:Addr) (us:List Value) (kw:List (Str×Value)):zcJ k (A.under (.builtin "type.__call__" ⟨.ref C::us,kw⟩)):=
 ⟨by have:=r.dp;rw[zhP];omega,by have:=r.un;rw[zhQ];omega⟩
theorem zcJ.depth {k:Nat}{A:Around} (r:zcJ k A):A.depth<recursionLimit:=by have:=r.dp;omega
theorem zcJ.units {k:Nat}{A:Around} (r:zcJ k A):A.units + 64<cLine:=by have:=r.un;omega
def zlT:TA:=fun _ H Q=>Q [] H
def tCons (ta:TE) (tr:TA):TA:=fun σ H Q=>ta σ H fun x H1=>tr σ H1 fun xs H2=>Q (x::xs) H2
section
variable {X:Cx}{e:Expr}{es:List Expr}{te:TE}{t:TA}{pos:Pos}
theorem zad:PA X [] zlT:=fun _ _ _ _ H Q I h=>Calls.spliced_nil ⟨[],H,I,.nil,h⟩
theorem zaa (ha:PE X e te) (hr:PA X es t) (hs:starEach (e::es) X.env=(false,eval e X.env)::starEach es X.env:=by rfl):PA X (e::es) (tCons te t):=by
 intro pos pins s σ H Q I h
 rw[hs]
 show wpAny _ _ (spliced ((false,eval e X.env)::backTo pos (starEach es X.env))) _ _ s
 refine Calls.spliced_cons (thn (ha pins s σ H _ I h) fun u s1=>L2.ex5 fun x H1 I1 r1 q1=>?_)
 exact thn (hr pos pins s1 σ H1 _ I1 q1) fun us s2 ⟨xs,H2,I2,r2,q2⟩=>⟨x::xs,H2,I2,.cons r1 r2,q2⟩
def tTup (t:TA):TE:=fun σ H Q=>t σ H fun xs H1=>xs.length≤sizeLine∧∀ p,H1 p=none→Q (.ref p) (upd H1 p (.tup xs))
def tLst (t:TA):TE:=fun σ H Q=>t σ H fun xs H1=>xs.length≤sizeLine∧∀ p,H1 p=none→Q (.ref p) (upd H1 p (.lst xs))
theorem zbv {x1} (h:PA X es t):PE X (.Tuple es x1 pos) (tTup t):=by
 intro pins s σ H Q I hq
 refine wpAny_Tuple_spliced (thn (h pos pins s σ H _ I hq) fun us s1 ⟨xs,H1,I1,r,z,q⟩=>⟨by rw[← r.length];exact z,?_⟩)
 have hf:H1 s1.heap.objs.size=none:=I1.hok.fresh (Nat.le_refl _)
 refine⟨.ref s1.heap.objs.size,upd H1 s1.heap.objs.size (.tup xs),I1.laid (t':=s1.toks) (fun b u e=>Heap.get?_push_of_some _ e) (Nat.le_refl _) ?_,rfl,q _ hf⟩
 exact⟨z,us,r,⟨_,Heap.get?_push_size _ rfl,rfl,_,rfl⟩⟩
theorem zbE (h:PA X es t):PE X (.List es pos) (tLst t):=by
 intro pins s σ H Q I hq
 refine wpAny_List_spliced (thn (h pos pins s σ H _ I hq) fun us s1 ⟨xs,H1,I1,r,z,q⟩=>⟨by rw[← r.length];exact z,?_⟩)
 have hf:H1 s1.heap.objs.size=none:=I1.hok.fresh (Nat.le_refl _)
 refine⟨.ref s1.heap.objs.size,upd H1 s1.heap.objs.size (.lst xs),I1.laid (t':=s1.toks) (fun b u e=>Heap.get?_push_of_some _ e) (Nat.le_refl _) ?_,rfl,q _ hf⟩
 exact⟨z,us,0,r,Heap.get?_push_size _ rfl⟩
end
abbrev Sp:=List V→Hp→VK→XK→Prop
abbrev CXT:=List Env→Hp→Shared→XK→Value→Shared→Prop
structure zk5 (P:Program) (w:World) (K:PySem.W.Frag) (mg:Str→Option Value) (base:Heap) (A:Around) (outer:List Env) (s:Shared) (H:Hp):Prop where
 frames:A.frames=some outer
 mod:Mod K mg base
 bs:∀ b o,base.get? b=some o→s.heap.get? b=some o∧H b=none
 bsz:base.objs.size≤s.heap.objs.size
 funs:s.heap.FunFrames base outer
 frf:∀ b∈frs outer,H b=none
 hok:HOk P w H s.heap
 bare:AllBare s.gens
 hd:zik A H
def CE (outer:List Env) (P:Program) (w:World) (H:Hp) (s:Shared) (Q:VK) (u:Value) (s':Shared):Prop:=
 ∃ v H',s'.os=s.os∧AllBare s'.gens∧Un (frs outer) [] H H' s.heap s'.heap∧HOk P w H' s'.heap∧za8 v u∧Q v H'
def CR (CX:CXT) (outer:List Env) (P:Program) (w:World) (H:Hp) (s:Shared) (Q:VK) (E:XK) (r:Result) (s':Shared):Prop:=
 match r with
 | .ok (.ret u)=>CE outer P w H s Q u s'
 | .ok _=>False
 | .error e=>CX outer H s E e s'
structure zdN (P:Program) (w:World) (K:PySem.W.Frag) (mg:Str→Option Value) (base:Heap) (CX:CXT) (k:Nat) (f:Addr) (fd:FuncData) (ps:List Str) (sp:Sp):Prop where
 len:∀ vs H Q E,sp vs H Q E→vs.length=ps.length
 run:∀ (A:Around) (outer:List Env) (s:Shared) (H:Hp) (args:Args) (us:List Value) (vs:List V) (Q:VK) (E:XK),zcJ k A→zk5 P w K mg base A outer s H→BindsTo s fd args (ps.zip us)→zaX vs us→sp vs H Q E →
  codeAny (model P w) A (.call (.ref f) args) (CR CX outer P w H s Q E) s
theorem zk5.make {P:Program}{w:World}{K:PySem.W.Frag}{mg:Str→Option Value}{base:Heap}{A:Around}{outer:List Env}{s:Shared}{H:Hp} (e:zk5 P w K mg base A outer s H) (C:Addr) (us:List Value) (kw:List (Str×Value)) :
  zk5 P w K mg base (A.under (.builtin "type.__call__" ⟨.ref C::us,kw⟩)) outer s H:=⟨by first|exact e.frames|(simpa [Around.under,Code.envs,Code.isFrame,pushEnvs] using e.frames),e.mod,e.bs,e.bsz,e.funs,e.frf,e.hok,e.bare,e.hd⟩
section
variable {X:Cx}{pins:List (Addr×Obj)}{σ:St}{H:Hp}{s s':Shared}
theorem Inv.env0 (I:Inv X pins σ H s):zk5 X.prog X.w X.K X.mg X.base X.A X.stack s H:=
 ⟨I.ok.frames,I.ok.mod,I.bs,Nat.le_trans I.ok.bsz I.sz,I.stack,I.stkFree,I.hok,I.bare,I.hdAt⟩
theorem Inv.after {Q:VK}{u:Value} (I:Inv X pins σ H s) (h:CE X.stack X.prog X.w H s Q u s'):EP X pins σ Q u s':=by
 obtain⟨v,H',os,bare,un,hok,r,q⟩:=h
 obtain⟨hh,g,d,t,os'⟩:=s'
 obtain rfl:os'=s.os:=os
 exact⟨v,H',I.call (h':=hh) (g':=g) (d':=d) (t':=t) (ch:=[]) un hok bare (fun b z=>absurd z (by simp)),r,q⟩
end
def tCall (sp:Sp) (dvs:List V) (E:XK) (t:TA):TE:=fun σ H Q=>t σ H fun vs H1=>sp (vs++dvs) H1 Q E
def zk6 (C:Addr) (m:Str) (sp:Sp) (dvs:List V) (E:XK) (ta:TE) (t:TA):TE:=fun σ H Q=>ta σ H fun x H1=>∃ a dx fs,x=.ref a∧H1 a=some (.ins C dx fs)∧fs.lookup m=none ∧
 t σ H1 fun vs H2=>sp (x::(vs++dvs)) H2 Q E
def tMake (C:Addr) (sp:Sp) (dvs:List V) (E:XK) (t:TA):TE:=fun σ H Q=>t σ H fun vs H1=>∀ x dx,H1 x=none→H1 dx=none→dx≠x →
 sp (.ref x::(vs++dvs)) (upd (upd H1 dx (.own x)) x (.ins C dx [])) (fun v H2=>v=.non∧Q (.ref x) H2) E
def zce (K:PySem.W.Frag) (fd:FuncData) (ps:List Str) (ds:List Value):Prop:=
 ∀ (s:Shared) (us:List Value),K.In s.heap→(us++ds).length=ps.length→BindsTo s fd ⟨us,[]⟩ (ps.zip (us++ds))
theorem zce.all {K:PySem.W.Frag}{fd:FuncData}{ps:List Str} (h:∀ us:List Value,us.length=ps.length→bindArgs fd ⟨us,[]⟩=pure (ps.zip us)):zce K fd ps []:=fun s us _ hl=>by
 rw[List.append_nil] at hl ⊢
 exact .of_eq (h us hl)
def zdO (CX:CXT) (X:Cx) (E:XK):Prop:=∀ (pins:List (Addr×Obj)) (σ:St) (H:Hp) (s:Shared) (e:Value) (s':Shared),Inv X pins σ H s→CX X.stack H s E e s'→X.xe e s'
section
variable {X:Cx}{CX:CXT}{k:Nat}{f C:Addr}{fd:FuncData}{ps:List Str}{sp:Sp}{dvs:List V}{ds:List Value}{E:XK}{x m:Str}{p pos apos:Pos}{e o:Expr}{es:List Expr}{ta:TE}{t:TA}
theorem ziA {pins:List (Addr×Obj)}{σ:St}{H:Hp}{s:Shared}{Q:VK}{us:List Value}{vs:List V} (F:zdN X.prog X.w X.K X.mg X.base CX k f fd ps sp) (hr:zcJ k X.A) (hb:zce X.K fd ps ds) (hd:zaX dvs ds) (hx:zdO CX X E)
  (I:Inv X pins σ H s) (r:zaX vs us) (h:sp (vs++dvs) H Q E):wpAny (model X.prog X.w) X.A (call (.ref f) us) (EP X pins σ Q) X.xe s:=by
 have r2:zaX (vs++dvs) (us++ds):=r.append hd
 have hl:(us++ds).length=ps.length:=by rw[← r2.length];exact F.len _ _ _ _ h
 refine wpAny_call (codeAny_mono (F.run X.A X.stack s H ⟨us,[]⟩ (us++ds) (vs++dvs) Q E hr I.env0 (hb s us I.kIn hl) r2 h) fun r s' hq=>?_)
 cases r with
 | error e=>exact hx pins σ H s e s' I hq
 | ok fl=>
  cases fl with
  | ret u=>exact I.after hq
  | next=>exact False.elim hq
  | brk=>exact False.elim hq
  | cont=>exact False.elim hq
theorem zk7 (F:zdN X.prog X.w X.K X.mg X.base CX k f fd ps sp) (hr:zcJ k X.A) (hg:Gl X x) (hm:X.mg x=some (.ref f)) (hk:PySem.W.keepIn X.K (.ref f)=true) (hb:zce X.K fd ps ds) (hd:zaX dvs ds) (hx:zdO CX X E)
  (ha:PA X (e::es) t) (hdb:(x == ("__debug__":Str))=false:=by decide) (he:starEach (e::es) X.env=(false,eval e X.env)::starEach es X.env:=by rfl) (hpl:(backTo pos (starEach es X.env)).any (·.1)=false:=by rfl) :
  PE X (.Call (.Name x p) (e::es) [] pos) (tCall sp dvs E t):=by
 intro pins s σ H Q I h
 refine wpAny_Call_Name_kw (zdw I hg hm ?_ hdb)
 refine PySem.W.callWith_K (h₀:=X.base) I.ok.mod.kin hk (thn (ha pos pins s σ H _ I h) fun us s1=>L2.ex5 fun vs H1 I1 r q=>⟨I1.kIn,?_⟩) he hpl
 exact ziA F hr hb hd hx I1 r q
theorem pe_meth {pl:Sem Bool} (he:PE X o ta) (c:Cls X.K C) (hm:Meth X.K C m f) (F:zdN X.prog X.w X.K X.mg X.base CX k f fd ps sp) (hr:zcJ k X.A) (hb:zce X.K fd ps ds) (hd:zaX dvs ds) (hx:zdO CX X E) (ha:PA X (e::es) t)
  (hst:starEach (e::es) X.env=(false,eval e X.env)::starEach es X.env:=by rfl) (hpl:(backTo pos (starEach es X.env)).any (·.1)=false:=by rfl)
  (ht:eval (.Call (.Attribute o m apos) (e::es) [] pos) X.env=(do
   let ov ← eval o X.env
   standAt apos.atName
   let (f,first) ← holding [ov] (getMethod ov m pl)
   callWith pos f first (backTo pos (starEach (e::es) X.env)) (backToKw pos (keywordEach [] X.env))):=by rfl) :
  PE X (.Call (.Attribute o m apos) (e::es) [] pos) (zk6 C m sp dvs E ta t):=by
 intro pins s σ H Q I h
 refine PySem.W.methodCall_KW (pl:=pl) (thn (he pins s σ H _ I h) fun u s1=>L2.ex5 fun x H1 I1 rx hq_=>?_) ht
 obtain⟨a,dx,fs,ex,ea,l,q⟩:=hq_
 subst ex
 obtain rfl:u=Value.ref a:=rx
 refine zdy I1 ea c hm l ?_
 refine PySem.W.callWith_K (first:=[.ref a]) (h₀:=X.base) I.ok.mod.kin hm.kp (thn (ha pos pins s1 σ H1 _ I1 q) fun us s2=>L2.ex5 fun vs H2 I2 r q2=>⟨I2.kIn,?_⟩) hst hpl
 exact ziA (us:=.ref a::us) (vs:=.ref a::vs) F hr hb hd hx I2 (.cons rfl r) q2
theorem zjY {pl:Sem Bool} (he:PE X o ta) (c:Cls X.K C) (hm:Meth X.K C m f) (F:zdN X.prog X.w X.K X.mg X.base CX k f fd ps sp) (hr:zcJ k X.A) (hb:zce X.K fd ps ds) (hd:zaX dvs ds) (hx:zdO CX X E)
  (ht:eval (.Call (.Attribute o m apos) [] [] pos) X.env=(do
   let ov ← eval o X.env
   standAt apos.atName
   let (f,first) ← holding [ov] (getMethod ov m pl)
   callWith pos f first (backTo pos (starEach [] X.env)) (backToKw pos (keywordEach [] X.env))):=by rfl) :
  PE X (.Call (.Attribute o m apos) [] [] pos) (zk6 C m sp dvs E ta zlT):=by
 intro pins s σ H Q I h
 refine PySem.W.methodCall_KW (pl:=pl) (thn (he pins s σ H _ I h) fun u s1=>L2.ex5 fun x H1 I1 rx hq_=>?_) ht
 obtain⟨a,dx,fs,ex,ea,l,q⟩:=hq_
 subst ex
 obtain rfl:u=Value.ref a:=rx
 refine zdy I1 ea c hm l ?_
 exact PySem.W.callWith_K0 (first:=[.ref a]) I1.kIn hm.kp (ziA (us:=[.ref a]) (vs:=[.ref a]) F hr hb hd hx I1 (.cons rfl .nil) q)
structure Mk (K:PySem.W.Frag) (C f:Addr):Prop where
 makes:PySem.W.makesIn K C=true
 init:PySem.W.findIn K (.ref C) "__init__"=some (some (.ref f))
 fn:PySem.W.isFn K (.ref f)=true
 kp:PySem.W.keepIn K (.ref C)=true
theorem zjZ {pins:List (Addr×Obj)}{σ:St}{H:Hp}{s:Shared}{Q:VK}{us:List Value}{vs:List V} (M:Mk X.K C f) (F:zdN X.prog X.w X.K X.mg X.base CX k f fd ps sp) (hr:zcJ (k + 1) X.A) (hb:zce X.K fd ps ds) (hd:zaX dvs ds)
  (hx:zdO CX X E) (I:Inv X pins σ H s) (r:zaX vs us)
  (h:∀ x dx,H x=none→H dx=none→dx≠x→sp (.ref x::(vs++dvs)) (upd (upd H dx (.own x)) x (.ins C dx [])) (fun v H2=>v=.non∧Q (.ref x) H2) E) :
  wpAny (model X.prog X.w) X.A (call (.ref C) us) (EP X pins σ Q) X.xe s:=by
 have hq:=h (s.heap.objs.size + 1) s.heap.objs.size (I.hok.fresh (Nat.le_succ _)) (I.hok.fresh (Nat.le_refl _)) (Nat.ne_of_lt (Nat.lt_succ_self _))
 have I2:=Inv.made (C:=C) I
 have r2:zaX (V.ref (s.heap.objs.size + 1)::(vs++dvs)) (Value.ref (s.heap.objs.size + 1)::(us++ds)):=.cons rfl (r.append hd)
 have hl:(Value.ref (s.heap.objs.size + 1)::us++ds).length=ps.length:=by
  have e:=r2.length
  rw[F.len _ _ _ _ hq] at e
  exact e.symm
 refine wpAny_call (zjX (f:=f) I.kIn M.makes M.init (beq_iff_eq.mp M.fn) (codeAny_mono (F.run _ X.stack _ _ ⟨Value.ref (s.heap.objs.size + 1)::us,[]⟩ (Value.ref (s.heap.objs.size + 1)::(us++ds)) _ _ E (hr.make C us [])
  (I2.env0.make C us []) (hb _ (Value.ref (s.heap.objs.size + 1)::us) I2.kIn hl) r2 hq) fun r s' hq'=>?_))
 cases r with
 | error e=>exact hx pins σ _ _ e s' I2 hq'
 | ok fl=>
  cases fl with
  | ret u=>
   obtain⟨v,H',I3,rv,ev,q3⟩:=I2.after hq'
   subst ev
   exact⟨rv,⟨V.ref (s.heap.objs.size + 1),H',I3,rfl,q3⟩⟩
  | next=>exact False.elim hq'
  | brk=>exact False.elim hq'
  | cont=>exact False.elim hq'
theorem zj0 (M:Mk X.K C f) (F:zdN X.prog X.w X.K X.mg X.base CX k f fd ps sp) (hr:zcJ (k + 1) X.A) (hg:Gl X x) (hm:X.mg x=some (.ref C)) (hb:zce X.K fd ps ds) (hd:zaX dvs ds) (hx:zdO CX X E)
  (hdb:(x == ("__debug__":Str))=false:=by decide):PE X (.Call (.Name x p) [] [] pos) (tMake C sp dvs E zlT):=by
 intro pins s σ H Q I h
 refine wpAny_Call_Name_kw (zdw I hg hm ?_ hdb)
 exact PySem.W.callWith_K0 I.kIn M.kp (zjZ (us:=[]) M F hr hb hd hx I .nil h)
end
section
variable {X:Cx}{CX:CXT}{k:Nat}{f C:Addr}{fd:FuncData}{ps ks:List Str}{sp:Sp}{E:XK}{x m:Str}{p pos apos kpos:Pos}{e o:Expr}{es:List Expr}{kws:List Keyword}{te ta:TE}{t tk:TA}{nm:Option Str}
structure KBinds (K:PySem.W.Frag) (fd:FuncData) (ps ks:List Str) (g:List Value→List Value→List Value) (gV:List V→List V→List V):Prop where
 to:∀ (s:Shared) (us ws:List Value),K.In s.heap→(g us ws).length=ps.length→BindsTo s fd ⟨us,ks.zip ws⟩ (ps.zip (g us ws))
 rel:∀ {vs:List V}{us:List Value}{zs:List V}{ws:List Value},zaX vs us→zaX zs ws→zaX (gV vs zs) (g us ws)
variable {g:List Value→List Value→List Value}{gV:List V→List V→List V}
end
structure zas (N P:List Str) (sc:Scope):Prop where
 kind:sc.kind=.function
 co:sc.isCoroutine=false
 gen:sc.isGenerator=false
 nd:N.Nodup
 pre:N.take P.length=P
 par:∀ x∈P,sc.names.lookup x=some .local∨sc.names.lookup x=some .cell
 nofree:∀ y∈sc.names,y.2≠.free
theorem zf3 {kindOf:Str→Option NameKind}{x:Str}:∀ {binds:List (Str×Value)}{m:Str→Option Value},(∀ v,(x,v)∉binds)→bindL kindOf binds m x=m x
 | [],_,_=>rfl
 | (n,v)::r,m,h=>by
  unfold bindL
  rw[zf3 fun w hw=>h w (List.mem_cons_of_mem _ hw)]
  split
  ·have:x≠n:=by rintro rfl;exact h v List.mem_cons_self
   simp[this]
  ·rfl
theorem zf4 {kindOf:Str→Option NameKind}{x:Str}:∀ {binds:List (Str×Value)}{m:Str→Option Value},(∀ v,(x,v)∉binds)→bindC kindOf binds m x=m x
 | [],_,_=>rfl
 | (n,v)::r,m,h=>by
  unfold bindC
  rw[zf4 fun w hw=>h w (List.mem_cons_of_mem _ hw)]
  split
  ·rfl
  ·have:x≠n:=by rintro rfl;exact h v List.mem_cons_self
   simp[this]
theorem zf5 {kindOf:Str→Option NameKind}{x:Str}{v:Value}:∀ {P:List Str}{vs:List Value}{i:Nat}{m:Str→Option Value},P.Nodup→P[i]?=some x→vs[i]?=some v→kindOf x=some .local →
  bindL kindOf (P.zip vs) m x=some v
 | [],_,_,_,_,h,_,_=>by simp at h
 | _::_,[],_,_,_,_,h,_=>by simp at h
 | p::P,w::vs,0,m,nd,h1,h2,hk=>by
  simp at h1 h2;subst h1;subst h2
  show bindL kindOf ((p,w)::P.zip vs) m p=_
  unfold bindL
  rw[zf3 fun v hv=>(List.nodup_cons.mp nd).1 (List.of_mem_zip hv).1,if_pos hk]
  simp
 | p::P,w::vs,i + 1,m,nd,h1,h2,hk=>by
  show bindL kindOf ((p,w)::P.zip vs) m x=_
  unfold bindL
  exact zf5 (i:=i) (List.nodup_cons.mp nd).2 (by simpa using h1) (by simpa using h2) hk
theorem zf6 {kindOf:Str→Option NameKind}{x:Str}{v:Value}:∀ {P:List Str}{vs:List Value}{i:Nat}{m:Str→Option Value},P.Nodup→P[i]?=some x→vs[i]?=some v→kindOf x≠some .local →
  bindC kindOf (P.zip vs) m x=some v
 | [],_,_,_,_,h,_,_=>by simp at h
 | _::_,[],_,_,_,_,h,_=>by simp at h
 | p::P,w::vs,0,m,nd,h1,h2,hk=>by
  simp at h1 h2;subst h1;subst h2
  show bindC kindOf ((p,w)::P.zip vs) m p=_
  unfold bindC
  rw[zf4 fun v hv=>(List.nodup_cons.mp nd).1 (List.of_mem_zip hv).1,if_neg hk]
  simp
 | p::P,w::vs,i + 1,m,nd,h1,h2,hk=>by
  show bindC kindOf ((p,w)::P.zip vs) m x=_
  unfold bindC
  exact zf6 (i:=i) (List.nodup_cons.mp nd).2 (by simpa using h1) (by simpa using h2) hk
def start (N:List Str) (vs:List V):St:=vs.map some++List.replicate (N.length - vs.length) none
def zjR (CX:CXT) (P:Program) (w:World) (K:PySem.W.Frag) (mg:Str→Option Value) (base:Heap) (N:List Str) (qual:Str) (scope:Scope) (f:Addr) (cd:Value) (A:Around) (outer:List Env) (s:Shared) (H:Hp) (E:XK):Cx where
 prog:=P
 w:=w
 K:=K
 mg:=mg
 base:=base
 A:=A.deeper (envOfC qual scope s.heap.objs.size f cd)
 N:=N
 s₀:=s
 H₀:=H
 env:=envOfC qual scope s.heap.objs.size f cd
 outer:=outer
 stack:=envOfC qual scope s.heap.objs.size f cd::outer
 ex:=[]
 calm:=true
 fn:=fun _=>true
 pn:=[]
 xe:=fun e s'=>wpAny (model P w) (A.deeper (envOfC qual scope s.heap.objs.size f cd)) (leaving (envOfC qual scope s.heap.objs.size f cd) e) (fun _ s''=>CX outer H s E e s'') (fun e' s''=>CX outer H s E e' s'') s'
theorem zhn {sc:Scope}{n:Nat}{x:Str} (h:sc.names.lookup x=some .cell):∃ c,(cellsFrom n sc.names []).lookup x=some c:=by
 have q:=PySem.W.cellsFrom_some sc.names n [] (.inl h)
 exact Option.isSome_iff_exists.mp q
theorem ziB {CX:CXT}{P:Program}{w:World}{K:PySem.W.Frag}{mg:Str→Option Value}{base:Heap}{N ps:List Str}{qual:Str}{scope:Scope}{f:Addr}{cd:Value}{A:Around}{outer:List Env}{s s1:Shared}{H:Hp}{E:XK}{us:List Value}{vs:List V}
  (S:zas N ps scope) (e0:zk5 P w K mg base A outer s H) (hl:vs.length=ps.length) (r:zaX vs us)
  (x:InCallC s s.heap.objs.size (bindL (envOfC qual scope s.heap.objs.size f cd).kindOf (ps.zip us) fun _=>none) (cellsFrom (s.heap.objs.size + 1) scope.names []) (bindC (envOfC qual scope s.heap.objs.size f cd).kindOf (ps.zip us) fun _=>none) s1) :
  Inv (zjR CX P w K mg base N qual scope f cd A outer s H E) [] (start N vs) H s1:=by
 have hpl:ps.length≤N.length:=by have:=congrArg List.length S.pre;rw[List.length_take] at this;omega
 obtain⟨h1,tk,rfl,hk⟩:=x.done
 have noA:∀ b:Addr,b∉(zjR CX P w K mg base N qual scope f cd A outer s H E).ex:=fun b z=>absurd (show b∈([]:List Addr) from z) (by simp)
 refine⟨⟨e0.mod,S.kind,rfl,rfl,Nat.le_refl _,fun y z c h1 h2=>?_,fun y hy=>?_,fun y c _ h=>?_,e0.hd,Around.frames_deeper e0.frames,.inr ⟨rfl,rfl⟩,fun b z=>absurd z (noA b),e0.bs,e0.bsz,fun b _ _=>noA b,fun b z=>absurd z (noA b),e0.funs,e0.frf⟩,
  rfl,e0.bare,Un.kept hk,⟨_,x.toInCall.ns,fun i y v h1 h2 h3=>?_⟩,fun y c h=>⟨_,x.cell y c h⟩,e0.hok.fresh (Nat.le_refl _),fun y c h=>?_,fun p hp=>absurd (show p∈([]:List (Addr×Obj)) from hp) (by simp),e0.hok.kept hk,?_⟩
 ·exact name_of_addr x.apart (PySem.mem_of_lookup h1) (PySem.mem_of_lookup h2)
 ·have hy:scope.names.lookup y=some .cell∨scope.names.lookup y=some .free:=hy
  rcases hy with hy|hy
  ·exact zhn hy
  ·exact absurd rfl (S.nofree _ (PySem.mem_of_lookup hy))
 ·exact Nat.le_of_lt (x.above y c (PySem.mem_of_lookup h))
 ·have hi:i<vs.length:=by
   unfold start at h2
   by_cases hi:i<vs.length
   ·exact hi
   ·rw[List.getElem?_append_right (by simpa using hi)] at h2
    rw[List.getElem?_replicate] at h2
    split at h2 <;> cases h2
  have ha:vs[i]?=some v:=by
   unfold start at h2
   rw[List.getElem?_append_left (by simpa using hi),List.getElem?_map] at h2
   cases e:vs[i]? with
   | none=>rw[e] at h2;cases h2
   | some a=>rw[e] at h2;cases h2;rfl
  obtain⟨u,hu,rv⟩:=r.get ha
  have hp:ps[i]?=some y:=by
   rw[← S.pre,List.getElem?_take_of_lt (by omega)];exact h1
  have ndP:ps.Nodup:=by rw[← S.pre];exact S.nd.sublist (List.take_sublist _ _)
  refine⟨u,rv,?_⟩
  rcases S.par y (List.mem_of_getElem? hp) with k|k
  ·exact .inl ⟨k,zf5 ndP hp hu k⟩
  ·obtain⟨c,e⟩:=zhn (n:=s.heap.objs.size + 1) k
   refine .inr ⟨.inl k,c,e,?_⟩
   have q:=x.cell y c e
   rw[zf6 ndP hp hu (by show scope.names.lookup y≠_;rw[k];decide)] at q
   exact q
 ·exact e0.hok.fresh (Nat.le_of_lt (x.above y c (PySem.mem_of_lookup h)))
 ·unfold start
  show _=N.length
  rw[List.length_append,List.length_map,List.length_replicate]
  omega
theorem fn_of {CX:CXT}{P:Program}{w:World}{K:PySem.W.Frag}{mg:Str→Option Value}{base:Heap}{k:Nat}{f:Addr}{name qual:Str}{params:Arguments}{body:List Stmt}{scope:Scope}{dV kV doc pm cdv ct oc:Value}{an od:Option Addr}
  {osl:Array (Option Value)}{N ps:List Str}{sp:Sp} (lk:K.lookup f=some ⟨oc,od,.func (PySem.W.fnOf name qual params body scope dV kV doc pm an cdv ct),osl⟩) (hcd:PySem.W.codeIn K cdv qual=true) (S:zas N ps scope)
  (len:∀ vs H Q E,sp vs H Q E→vs.length=ps.length)
  (hbody:∀ (A:Around) (outer:List Env) (s:Shared) (H:Hp) (vs:List V) (Q:VK) (E:XK),zcJ k (A.deeper (envOfC qual scope s.heap.objs.size f cdv))→sp vs H Q E →
   ∃ t,PSs (zjR CX P w K mg base N qual scope f cdv A outer s H E) body t∧t { nx:=fun _ H'=>Q .non H',rt:=Q } (start N vs) H) :
  zdN P w K mg base CX (k + 1) f (PySem.W.fnOf name qual params body scope dV kV doc pm an cdv ct) ps sp:=by
 refine⟨len,fun A outer s H args us vs Q E hr e0 hb r hsp=>?_⟩
 have hl:=len _ _ _ _ hsp
 have KX:K.In s.heap:=e0.mod.kin.keeps fun b o e=>(e0.bs b o e).1
 have lim:s.heap.NoLimit:=e0.mod.nolimit.keeps fun b o e=>(e0.bs b o e).1
 have hkind:∀ y∈ps.zip us,scope.names.lookup y.1=some .local∨(scope.names.lookup y.1=some .cell∧((cellsFrom (s.heap.objs.size + 1) scope.names []).lookup y.1).isSome=true):=fun⟨n,v⟩ hy=>by
  rcases S.par n (List.of_mem_zip hy).1 with q|q
  ·exact .inl q
  ·exact .inr ⟨q,PySem.W.cellsFrom_some _ _ _ (.inl q)⟩
 refine codeAny_call_function hr.depth (KX _ _ lk) rfl S.co S.gen rfl (PySem.W.codeRec_of KX hcd) (hb _ _ _ _ ?_)
 refine wpAny_newFunctionEnv_cells S.kind hkind fun env he s1 x=>?_
 subst he
 refine⟨lim.keeps x.toInCall.keep,codeAny_func ?_⟩
 obtain⟨t,ht,hq⟩:=hbody A outer s H vs Q E (hr.deeper _) hsp
 have I:Inv (zjR CX P w K mg base N qual scope f cdv A outer s H E) [] (start N vs) H s1:=ziB S e0 hl r x
 refine wpAny_mono (ht [] s1 (start N vs) H _ I hq) (fun fl s' hs=>?_) fun e s' hs=>hs
 have fin:∀ {σ':St}{H':Hp}{v:V}{u:Value},Inv (zjR CX P w K mg base N qual scope f cdv A outer s H E) [] σ' H' s'→za8 v u→Q v H'→CE outer P w H s Q u s':=
  fun {σ' H' v u} J rv q=>⟨v,H',J.os,J.bare,J.base,J.hok,rv,q⟩
 cases fl with
 | ret u=>
  obtain⟨v,σ',H',J,rv,q⟩:=hs
  exact fin J rv q
 | next=>
  obtain⟨σ',H',J,q⟩:=hs
  exact fin (v:=V.non) (u:=Value.none) J rfl q
 | brk=>
  obtain⟨_,_,_,q⟩:=hs
  exact False.elim q
 | cont=>
  obtain⟨_,_,_,q⟩:=hs
  exact False.elim q
end L2
namespace L2
open PySem PySem.Spec PyProof.Rows
section
variable {X:Cx}{x:Str}{p pos:Pos}{e:Expr}{es:List Expr}{t:TA}{id T:String}{r:List V→Hp→VK→Prop}
def tCB (r:List V→Hp→VK→Prop) (t:TA):TE:=fun σ H Q=>t σ H fun vs H1=>r vs H1 Q
theorem zar (hc:zdx X (.builtin id) r) (hg:Gl X x) (hm:X.mg x=none) (hv:bootBuiltins x=some (.builtin id)) (ha:PA X (e::es) t) (hn:x≠"__name__":=by decide) (hdb:(x == ("__debug__":Str))=false:=by decide)
  (he:starEach (e::es) X.env=(false,eval e X.env)::starEach es X.env:=by rfl) (hpl:(backTo pos (starEach es X.env)).any (·.1)=false:=by rfl):PE X (.Call (.Name x p) (e::es) [] pos) (tCB r t):=by
 intro pins s σ H Q I h
 refine wpAny_Call_Name_kw (zfX I hg hm hv ?_ hn hdb)
 exact PyProof.Rows.callWith_builtin1 (thn (ha pos pins s σ H _ I h) fun us s1=>L2.ex5 fun vs H1 I1 r1 q1=>hc pins s1 σ H1 vs us Q I1 r1 q1) he hpl
theorem za2 (hc:zdx X (.type T) r) (hg:Gl X x) (hm:X.mg x=none) (hv:bootBuiltins x=some (.type T)) (ha:PA X (e::es) t) (hn:x≠"__name__":=by decide) (hdb:(x == ("__debug__":Str))=false:=by decide)
  (he:starEach (e::es) X.env=(false,eval e X.env)::starEach es X.env:=by rfl) (hpl:(backTo pos (starEach es X.env)).any (·.1)=false:=by rfl):PE X (.Call (.Name x p) (e::es) [] pos) (tCB r t):=by
 intro pins s σ H Q I h
 refine wpAny_Call_Name_kw (zfX I hg hm hv ?_ hn hdb)
 exact PyProof.Rows.callWith_type1 (thn (ha pos pins s σ H _ I h) fun us s1=>L2.ex5 fun vs H1 I1 r1 q1=>hc pins s1 σ H1 vs us Q I1 r1 q1) he hpl
end
end L2
namespace HT
open PySem PyProof.Rows
section
open PySem.SeqAt
open PySem.AutoSeq1 (wpAny_loadPart')
open PySem.MeetsSeq PySem.MeetsSeq2 PySem.MeetsSeq3
end
section
variable {prog:Program}{w:World}{A:Around}{E:Value→Shared→Prop}{s:Shared}
def sIx (n d:Nat):Option Int→Nat
 | none=>d
 | some v=>if v<0 then(v + (n:Int)).toNat else min v.toNat n
theorem zj1 (n d:Nat):sIx n d none=d:=rfl
theorem zdz (n d k:Nat):sIx n d (some (k:Int))=min k n:=by
 show(if (k:Int)<0 then((k:Int) + (n:Int)).toNat else min (k:Int).toNat n)=min k n
 rw[if_neg (by omega),Int.toNat_natCast]
theorem sIx_le (n d:Nat) (hd:d≤n) (o:Option Int):sIx n d o≤n:=by
 cases o with
 | none=>exact hd
 | some v=>
  show(if v<0 then(v + (n:Int)).toNat else min v.toNat n)≤n
  by_cases hv:v<0
  ·rw[if_pos hv];omega
  ·rw[if_neg hv];exact Nat.min_le_right _ _
theorem ziC (v:Int) (n d:Nat):(if v<0 then max (v + (n:Int)) 0 else min v (n:Int))=((sIx n d (some v):Nat):Int):=by
 show(if v<0 then max (v + (n:Int)) 0 else min v (n:Int))=(((if v<0 then(v + (n:Int)).toNat else min v.toNat n):Nat):Int)
 by_cases hv:v<0
 ·simp only[if_pos hv];omega
 ·simp only[if_neg hv];omega
theorem zhR (lo hi:Option Int) (n:Nat):Builtin.Slice.sliceAdjust lo hi 1 (n:Int)=(((sIx n 0 lo:Nat):Int),((sIx n n hi:Nat):Int)):=by
 have h1:¬ ((1:Int)<0):=by omega
 unfold Builtin.Slice.sliceAdjust
 simp only[h1,if_false]
 refine Prod.ext ?_ ?_
 ·cases lo with
  | none=>rfl
  | some v=>exact ziC v n 0
 ·cases hi with
  | none=>rfl
  | some v=>exact ziC v n n
theorem zhS (i j:Nat):Builtin.Slice.slicePlaces (i:Int) (j:Int) 1=j - i:=by
 unfold Builtin.Slice.slicePlaces
 have h1:(1:Int) > 0:=by omega
 simp only[h1,if_true,Int.ediv_one]
 split <;> omega
theorem ze4 {v:Value}{o:Option Int}{Q:Option Int→Shared→Prop} (p:IsPart v o) (h:Q o s):wpAny (model prog w) A (Builtin.Slice.slicePartIndex v) Q E s:=by
 cases p with
 | none=>exact slicePart_none h
 | int i t=>exact slicePart_int h
theorem zcn {sl:Addr}{vl vu:Value}{lo hi:Option Int}{n:Nat}{Q:Int×Int×Nat→Shared→Prop} (hs:s.heap.IsSliceOf sl vl vu .none) (pl:IsPart vl lo) (pu:IsPart vu hi)
  (h:Q (((sIx n 0 lo:Nat):Int),1,sIx n n hi - sIx n 0 lo) s):wpAny (model prog w) A (Builtin.Slice.sliceApplied (.ref sl) (pure (n:Int))) Q E s:=by
 obtain⟨os,hos,hcs,hds⟩:=id hs
 unfold Builtin.Slice.sliceApplied Builtin.Slice.sliceFields
 refine wpAny_bind (wpAny_bind (wpAny_field hos hds (x:=vl) rfl (wpAny_bind (wpAny_field hos hds (x:=vu) rfl (wpAny_bind (wpAny_field hos hds (x:=.none) rfl (wpAny_pure ?_)))))))
 refine wpAny_bind (slicePart_none ?_)
 show wpAny _ _ (if ((1:Int) == 0)=true then _ else _) _ _ s
 rw[if_neg (by decide)]
 refine wpAny_bind (ze4 pl (wpAny_bind (ze4 pu (wpAny_bind (wpAny_pure ?_)))))
 show wpAny _ _ (match Builtin.Slice.sliceAdjust lo hi 1 (n:Int) with|(lo,hi)=>pure (lo,(1:Int),Builtin.Slice.slicePlaces lo hi 1)) _ _ s
 rw[zhR lo hi n]
 show wpAny _ _ (pure (((sIx n 0 lo:Nat):Int),(1:Int),Builtin.Slice.slicePlaces ((sIx n 0 lo:Nat):Int) ((sIx n n hi:Nat):Int) 1)) _ _ s
 rw[zhS]
 exact wpAny_pure h
theorem zj2 (xs:Array Value) (i k:Nat):((List.range k).filterMap fun(m:Nat)=>xs[((i:Int) + (m:Int) * 1).toNat]?).toArray=((xs.toList.drop i).take k).toArray:=by
 have e:(fun(m:Nat)=>xs[((i:Int) + (m:Int) * 1).toNat]?)=fun m=>xs[i + m]?:=by
  funext m
  have:((i:Int) + (m:Int) * 1).toNat=i + m:=by omega
  rw[this]
 rw[e]
 have:=pick_run xs i k
 rw[List.filterMap_map] at this
 have e2:((fun x=>xs[x]?) ∘ fun x=>i + x)=fun m=>xs[i + m]?:=rfl
 rw[e2] at this
 rw[this]
theorem zdA {t sl:Addr}{items:Array Value}{vl vu:Value}{lo hi:Option Int}{Q:Value→Shared→Prop} (ht:IsTup s.heap t items) (hs:s.heap.IsSliceOf sl vl vu .none) (pl:IsPart vl lo) (pu:IsPart vu hi)
  (hw:¬ (sIx items.size 0 lo=0∧sIx items.size items.size hi=items.size))
  (h:Q (.ref s.heap.objs.size) { s with heap:=s.heap.push { cls:=.type "tuple",data:=.seq ((items.toList.drop (sIx items.size 0 lo)).take (sIx items.size items.size hi - sIx items.size 0 lo)).toArray } })
  (hsz:items.size≤sizeLine):wpAny (model prog w) A (getItem (.ref t) (.ref sl)) Q E s:=by
 have htake:sizeOk (.seq ((items.toList.drop (sIx items.size 0 lo)).take (sIx items.size items.size hi - sIx items.size 0 lo)).toArray):=by
  show((items.toList.drop (sIx items.size 0 lo)).take (sIx items.size items.size hi - sIx items.size 0 lo)).toArray.size≤sizeLine
  rw[List.size_toArray,List.length_take,List.length_drop,Array.length_toList]
  omega
 have hj:sIx items.size items.size hi≤items.size:=sIx_le _ _ (Nat.le_refl _) hi
 obtain⟨os,hos,hcs,hds⟩:=id hs
 have hTs:s.TypeIs (.ref sl) "slice":=⟨os,hos,hcs⟩
 unfold getItem
 try with_reducible refine wpAny_holding ?_
 first|refine wpAny_bind (wpAny_pure ?_)|skip
 refine wpAny_bind (wpAny_sequenceKey ht.typeIs (by decide) ?_)
 refine wpAny_bind (wpAny_callSpecial?_slot (name:=Str.ofString "__getitem__") ht.typeIs PyProof.Rows.slot_tuple_getitem
  (wpAny_call_entry PyProof.Rows.slot_tuple_getitem ht.typeIs entry_tuple_getitem ?_ (args_tuple_getitem _ _)))
 show wpAny _ _ (Builtin.Tuple.tupleItemsOf (.ref t) >>= _) _ _ s
 refine wpAny_bind (tupleItemsOf_ ht ?_)
 refine wpAny_bind (wpAny_typeOf hTs ?_)
 rw[if_pos (by decide)]
 refine wpAny_bind (zcn hs pl pu ?_)
 have hno:¬ ((((sIx items.size 0 lo:Nat):Int) == 0 && (1:Int) == 1 && (sIx items.size items.size hi - sIx items.size 0 lo) == items.size)=true):=by
  intro q
  rw[Bool.and_eq_true,Bool.and_eq_true] at q
  have q1:((sIx items.size 0 lo:Nat):Int)=0:=eq_of_beq q.1.1
  have q2:sIx items.size items.size hi - sIx items.size 0 lo=items.size:=eq_of_beq q.2
  exact hw ⟨by omega,by omega⟩
 show wpAny _ _ (if (((sIx items.size 0 lo:Nat):Int) == 0 && (1:Int) == 1 && (sIx items.size items.size hi - sIx items.size 0 lo) == items.size)=true then _ else _) _ _ s
 rw[if_neg hno,zj2]
 first
  | exact wpAny_bind (m:=Builtin.Tuple.tupleExact _) (wpAny_newObj_type (wpAny_pure ⟨_,rfl,wpAny_pure h⟩) htake)
  | exact wpAny_bind (m:=Builtin.Tuple.tupleExact _) (wpAny_newObj_type (wpAny_bind (wpAny_pure (wpAny_pure ⟨_,rfl,wpAny_pure h⟩))) htake)
  | exact wpAny_bind (wpAny_bind (m:=Builtin.Tuple.tupleExact _) (wpAny_newObj_type (wpAny_pure (wpAny_pure ⟨_,rfl,wpAny_pure h⟩)) htake))
  | exact wpAny_bind (wpAny_bind (m:=Builtin.Tuple.tupleExact _) (wpAny_newObj_type (wpAny_pure ⟨_,rfl,wpAny_pure h⟩) htake))
end
end HT
namespace L2
open PySem PySem.Spec PyProof.Rows
abbrev TO:=St→Hp→(Option Int→Hp→Prop)→Prop
def PO (X:Cx) (e:Option Expr) (t:TO):Prop:=
 ∀ (pins:List (Addr×Obj)) (s:Shared) (σ:St) (H:Hp) (Q:Option Int→Hp→Prop),Inv X pins σ H s→t σ H Q →
  wpAny (model X.prog X.w) X.A (evalPart e X.env) (fun u s'=>∃ o H',Inv X pins σ H' s'∧IsPart u o∧Q o H') X.xe s
def zk8:TO:=fun _ H Q=>Q none H
def tPart (t:TE):TO:=fun σ H Q=>t σ H fun x H1=>∃ i,x=.int i∧Q (some i) H1
theorem zhT {ns:List Int}:∀ {us:List Value},zaX (ns.map V.int) us→IntsAre us ns:=by
 induction ns with
 | nil=>intro us r;rw[List.map_nil] at r;cases r;exact .nil
 | cons n ns ih=>
  intro us r
  rw[List.map_cons] at r
  cases r with
  | cons r1 r2=>
   obtain⟨t,e⟩:=r1
   subst e
   exact .cons n t (ih r2)
section
variable {X:Cx}{e:Expr}{te:TE}{lo hi:Option Expr}{tl th:TO}{pos p2:Pos}
theorem zej:PO X none zk8:=by
 intro pins s σ H Q I h
 rw[evalPart_none]
 exact wpAny_pure ⟨none,H,I,.none,h⟩
theorem zcf (h:PE X e te):PO X (some e) (tPart te):=by
 intro pins s σ H Q I hw
 rw[evalPart_some]
 refine thn (h pins s σ H _ I hw) fun u s1=>L2.ex5 fun x H1 I1 r1 q1=>?_
 obtain⟨i,rfl,q⟩:=q1
 obtain⟨t,rfl⟩:=r1
 exact⟨some i,H1,I1,.int i t,q⟩
def SlR (X:Cx) (r:V→Option Int→Option Int→Hp→VK→Prop):Prop:=
 ∀ (pins:List (Addr×Obj)) (s:Shared) (σ:St) (H:Hp) (x:V) (v vl vu:Value) (lo hi:Option Int) (sl:Addr) (Q:VK),Inv X pins σ H s→za8 x v→s.heap.IsSliceOf sl vl vu .none→IsPart vl lo→IsPart vu hi→r x lo hi H Q →
  ∃ T id,typeLookup (.type T) "__getitem__"=pure (some (.builtin id))∧s.TypeIs v T∧wpAny (model X.prog X.w) X.A (getItem v (.ref sl)) (EP X pins σ Q) X.xe s
def tSl (r:V→Option Int→Option Int→Hp→VK→Prop) (te:TE) (tl th:TO):TE:=fun σ H Q=>te σ H fun x H1=>tl σ H1 fun l H2=>th σ H2 fun u H3=>r x l u H3 Q
theorem zcg {r:V→Option Int→Option Int→Hp→VK→Prop} (hr:SlR X r) (he:PE X e te) (hl:PO X lo tl) (hu:PO X hi th):PE X (.Subscript e (.Slice lo hi none p2) pos) (tSl r te tl th):=by
 intro pins s σ H Q I h
 refine Subscript_ (thn (he pins s σ H _ I h) fun v s1=>L2.ex5 fun x H1 I1 r1 q1=>?_)
 refine wpAny_Slice (thn (hl pins s1 σ H1 _ I1 q1) fun vl s2 ⟨l,H2,I2,pl,q2⟩=>thn (hu pins s2 σ H2 _ I2 q2) fun vu s3=>L2.ex5 fun u H3 I3 pu q3=>?_)
 rw[evalPart_none]
 refine wpAny_pure ?_
 have I4:Inv X pins σ H3 { s3 with heap:=s3.heap.push { cls:=.type "slice",data:=.fields #[vl,vu,.none] } }:=I3.kept (t':=s3.toks) fun b ob q=>Heap.get?_push_of_some _ q
 obtain⟨T,id,hT,ht,hg⟩:=hr pins { s3 with heap:=s3.heap.push { cls:=.type "slice",data:=.fields #[vl,vu,.none] } } σ H3 x v vl vu l u s3.heap.objs.size Q I4 r1 (Heap.IsSliceOf.new ..) pl pu q3
 show wpAny (model X.prog X.w) X.A (subscriptTail e (.Slice lo hi none p2) v (.ref s3.heap.objs.size)) (EP X pins σ Q) X.xe { s3 with heap:=s3.heap.push { cls:=.type "slice",data:=.fields #[vl,vu,.none] } }
 exact tail_any (ops:=[.ref s3.heap.objs.size,v]) ht hT hg (by with_unfolding_all rfl)
def zfS (xs:List V) (lo hi:Option Int):List V:=(xs.drop (HT.sIx xs.length 0 lo)).take (HT.sIx xs.length xs.length hi - HT.sIx xs.length 0 lo)
theorem zek (xs:List V) (lo hi:Option Int):(zfS xs lo hi).length≤xs.length:=by
 unfold zfS
 rw[List.length_take,List.length_drop]
 omega
def rSlT (K:PySem.W.Frag):V→Option Int→Option Int→Hp→VK→Prop:=fun x lo hi H Q=>∃ a xs,x=.ref a∧SqT K H a xs ∧
 ¬ (HT.sIx xs.length 0 lo=0∧HT.sIx xs.length xs.length hi=xs.length)∧∀ p,H p=none→Q (.ref p) (upd H p (.tup (zfS xs lo hi)))
theorem sl_tup:SlR X (rSlT X.K):=by
 intro pins s σ H x v vl vu lo hi sl Q I rx hs pl pu h
 obtain⟨a,xs,rfl,hx,hw,q⟩:=h
 cases rx
 obtain⟨its,r,ht,hz⟩:=I.tuple hx
 have hlen:its.toArray.size=xs.length:=by rw[List.size_toArray];exact r.length.symm
 refine⟨"tuple",_,PyProof.Rows.slot_tuple_getitem.lookup,ht.typeIs,?_⟩
 refine HT.zdA ht hs pl pu (by rw[hlen];exact hw) ?_ (by rw[hlen];exact hz)
 rw[hlen]
 refine⟨.ref s.heap.objs.size,_,I.laid (t':=s.toks) (o:=.tup (zfS xs lo hi)) (fun b ob q=>Heap.get?_push_of_some _ q) (Nat.le_refl _) ?_,rfl,q _ (I.hok.fresh (Nat.le_refl _))⟩
 exact⟨Nat.le_trans (zek xs lo hi) hz,_,(r.drop (HT.sIx xs.length 0 lo)).take (HT.sIx xs.length xs.length hi - HT.sIx xs.length 0 lo),IsTup.new _ _⟩
end
end L2
namespace L2
open PySem PySem.Spec PyProof.Rows
def ixN (n:Nat) (i:Int):Option Nat:=if 0≤i then(if i<n then some i.toNat else none) else if -(n:Int)≤i then some (i + n).toNat else none
def atI {α:Type} (xs:List α) (i:Int):Option α:=(ixN xs.length i).bind fun j=>xs[j]?
theorem zk9 {n:Nat}{i:Int}{j:Nat} (h:ixN n i=some j):seqIndex? i n=some j∧j<n∧-(n:Int)≤i∧i<n:=by
 unfold ixN at h
 by_cases h0:0≤i
 ·rw[if_pos h0] at h
  by_cases h1:i<n
  ·rw[if_pos h1] at h
   have e:i.toNat=j:=Option.some.inj h
   exact⟨by rw[seqIndex_of h0 h1,e],by omega,by omega,h1⟩
  ·rw[if_neg h1] at h;cases h
 ·rw[if_neg h0] at h
  by_cases h1:-(n:Int)≤i
  ·rw[if_pos h1] at h
   have e:(i + n).toNat=j:=Option.some.inj h
   exact⟨by rw[seqIndex_neg (by omega) h1,e],by omega,h1,by omega⟩
  ·rw[if_neg h1] at h;cases h
theorem zgP {α:Type}{xs:List α}{i:Int}{v:α} (h:atI xs i=some v):∃ j,seqIndex? i xs.length=some j∧xs[j]?=some v∧j<xs.length∧-(xs.length:Int)≤i∧i<xs.length:=by
 unfold atI at h
 cases e:ixN xs.length i with
 | none=>rw[e] at h;cases h
 | some j=>
  rw[e] at h
  obtain⟨h1,h2,h3,h4⟩:=zk9 e
  exact⟨j,h1,h,h2,h3,h4⟩
def zla (b:Expr):Prop:=∀ o i,subscripted b false o i=operate [o,i] (getItem o i)
def IxR (X:Cx) (r:R2):Prop:=
 ∀ (value slice:Expr) (pins:List (Addr×Obj)) (s:Shared) (σ:St) (H:Hp) (x y:V) (v u:Value) (Q:VK),Inv X pins σ H s→za8 x v→za8 y u→r x y H Q →
  subscripted slice false v u=operate [v,u] (getItem v u)→wpAny (model X.prog X.w) X.A (subscriptTail value slice v u) (EP X pins σ Q) X.xe s
def MtR (X:Cx) (id:String) (r:V→List V→Hp→VK→Prop):Prop:=
 ∀ (pins:List (Addr×Obj)) (s:Shared) (σ:St) (H:Hp) (x:V) (xs:List V) (v:Value) (us:List Value) (Q:VK),Inv X pins σ H s→za8 x v→zaX xs us→r x xs H Q →
  wpAny (model X.prog X.w) X.A (call (.builtin id) (v::us)) (EP X pins σ Q) X.xe s
section
variable {X:Cx}{a b:Expr}{ta tb:TE}{pos:Pos}
theorem za3 {r:R2} (hr:IxR X r) (ha:PE X a ta) (hb:PE X b tb) (hs:zla b):PE X (.Subscript a b pos) (tOp r ta tb):=by
 intro pins s σ H Q I h
 exact Subscript_ (binT ha hb I h fun v u s2 x y H2 I2 rx ry q=>hr a b pins s2 σ H2 x y v u Q I2 rx ry q (hs _ _))
def rIxL (K:PySem.W.Frag):R2:=fun x y H Q=>∃ p xs i v,x=.ref p∧y=.int i∧SqL K H p xs∧atI xs i=some v∧Q v H
def rIxT (K:PySem.W.Frag):R2:=fun x y H Q=>∃ p xs i v,x=.ref p∧y=.int i∧SqT K H p xs∧atI xs i=some v∧Q v H
def rIxS:R2:=fun x y H Q=>∃ z i c,x=.str z∧y=.int i∧z.length≤sizeLine∧atI z.cps.toList i=some c∧Q (.str ⟨#[c]⟩) H
theorem zaT:IxR X (rIxL X.K):=by
 intro value slice pins s σ H x y v u Q I rx ry h hs
 obtain⟨p,xs,i,z,rfl,rfl,hq,he,q⟩:=h
 cases rx
 obtain⟨t,rfl⟩:=ry
 obtain⟨its,r,pl,hz⟩:=I.list hq
 obtain⟨j,h1,h2,h3,h4,h5⟩:=zgP he
 obtain⟨w,ew,rw'⟩:=r.get h2
 have hl:=r.length
 have hn:=zf2
 have fin:EP X pins σ Q w s:=⟨z,H,I,rw',q⟩
 by_cases h0:0≤i
 ·have hj:i.toNat=j:=by
   rw[seqIndex_of h0 h5] at h1
   exact Option.some.inj h1
  exact item_listR pl.isList h0 (by omega) (by rw[hj];simpa using ew) fin hs
 ·have hj:(i + (its.toArray.size:Int)).toNat=j:=by
   rw[seqIndex_neg (by omega) h4] at h1
   rw[List.size_toArray,← hl]
   exact Option.some.inj h1
  exact subscriptTail_builtinR (x:=w) pl.isList.typeIs slot_list_getitem.lookup
   (wpAny_getItem_list_neg (Q:=fun r s'=>r=w∧EP X pins σ Q r s') pl.isList (by omega) (by rw[List.size_toArray] <;> omega) (by omega) (by rw[hj];simpa using ew) ⟨rfl,fin⟩) hs
theorem zcy:IxR X (rIxT X.K):=by
 intro value slice pins s σ H x y v u Q I rx ry h hs
 obtain⟨p,xs,i,z,rfl,rfl,hq,he,q⟩:=h
 cases rx
 obtain⟨t,rfl⟩:=ry
 obtain⟨its,r,pl,hz⟩:=I.tuple hq
 obtain⟨j,h1,h2,h3,h4,h5⟩:=zgP he
 obtain⟨w,ew,rw'⟩:=r.get h2
 have hl:=r.length
 have hn:=zf2
 have fin:EP X pins σ Q w s:=⟨z,H,I,rw',q⟩
 exact subscriptTail_builtinR (x:=w) pl.typeIs slot_tuple_getitem.lookup
  (getItem_tuple (j:=j) (Q:=fun r s'=>r=w∧EP X pins σ Q r s') pl (by omega) (by omega) (by rw[List.size_toArray,← hl];exact h1) (by simpa using ew) ⟨rfl,fin⟩) hs
theorem ziD:IxR X rIxS:=by
 intro value slice pins s σ H x y v u Q I rx ry h hs
 obtain⟨z,i,c,rfl,rfl,hz,he,q⟩:=h
 obtain⟨t,rfl⟩:=rx
 obtain⟨t',rfl⟩:=ry
 obtain⟨j,h1,h2,h3,h4,h5⟩:=zgP he
 have hl:z.cps.toList.length=z.length:=by simp[Str.length]
 rw[hl] at h1 h4 h5
 have hn:=zf2
 exact tail_any (typeIs_str s z t) slot_str_getitem.lookup (getItem_str (c:=c) (by
  have e1:decide (i< -(2 ^ 63:Int))=false:=decide_eq_false (by omega)
  have e2:decide (i ≥ 2 ^ 63)=false:=decide_eq_false (by omega)
  rw[e1,e2,Bool.or_false]) (by rw[h1];simpa using h2) ⟨.str ⟨#[c]⟩,H,I.tok _,⟨_,rfl⟩,q⟩) hs
theorem zf7 (lo hi:Option Int) (n:Nat):(sliceBounds lo hi none n).1=((HT.sIx n 0 lo:Nat):Int)∧(sliceBounds lo hi none n).2.1=((HT.sIx n n hi:Nat):Int)∧(sliceBounds lo hi none n).2.2=1:=by
 refine⟨?_,?_,rfl⟩
 ·cases lo with
  | none=>simp[sliceBounds,HT.sIx]
  | some i=>
   simp only[sliceBounds,HT.sIx,Option.getD_none,show(1:Int) > 0 by decide,if_true]
   by_cases h:i<0
   ·simp only[h,if_true] <;> omega
   ·simp only[h,if_false] <;> omega
 ·cases hi with
  | none=>simp[sliceBounds,HT.sIx]
  | some i=>
   simp only[sliceBounds,HT.sIx,Option.getD_none,show(1:Int) > 0 by decide,if_true]
   by_cases h:i<0
   ·simp only[h,if_true] <;> omega
   ·simp only[h,if_false] <;> omega
theorem zfn (its:List Value) (lo hi:Option Int):slicePick its.toArray lo hi none=((its.drop (HT.sIx its.length 0 lo)).take (HT.sIx its.length its.length hi - HT.sIx its.length 0 lo)).toArray:=by
 obtain⟨h1,h2,h3⟩:=zf7 lo hi its.toArray.size
 unfold slicePick
 rw[h1,h2,h3]
 simp only[sliceRange_one,pick_run,List.size_toArray] <;> rfl
def rSlL (K:PySem.W.Frag):V→Option Int→Option Int→Hp→VK→Prop:=fun x lo hi H Q=>∃ a xs,x=.ref a∧SqL K H a xs∧∀ p,H p=none→Q (.ref p) (upd H p (.lst (zfS xs lo hi)))
theorem zfo:SlR X (rSlL X.K):=by
 intro pins s σ H x v vl vu lo hi sl Q I rx hs pl pu h
 obtain⟨a,xs,rfl,hx,q⟩:=h
 cases rx
 obtain⟨its,r,ht,hz⟩:=I.list hx
 have hlen:=r.length
 refine⟨"list",_,slot_list_getitem.lookup,ht.isList.typeIs,?_⟩
 refine wpAny_getItem_list_slice ht.isList hs pl pu .none (by simp) ?_ (by rw[List.size_toArray] <;> omega)
 rw[zfn,← hlen]
 refine⟨.ref s.heap.objs.size,_,I.laid (t':=s.toks) (o:=.lst (zfS xs lo hi)) (fun b ob q=>Heap.get?_push_of_some _ q) (Nat.le_refl _) ?_,rfl,q _ (I.hok.fresh (Nat.le_refl _))⟩
 exact⟨Nat.le_trans (zek xs lo hi) hz,_,0,(r.drop (HT.sIx xs.length 0 lo)).take (HT.sIx xs.length xs.length hi - HT.sIx xs.length 0 lo),Heap.get?_push_size _ rfl⟩
def zd1:V→Bool
 | .non=>true
 | .bl _=>true
 | .int _=>true
 | .str _=>true
 | _=>false
def eqV:V→V→Bool
 | .non,.non=>true
 | .bl a,.bl b=>a == b
 | .bl a,.int b=>(if a then 1 else 0) == b
 | .int a,.bl b=>a == (if b then 1 else 0)
 | .int a,.int b=>a == b
 | .str a,.str b=>a == b
 | _,_=>false
theorem zbF {A:Around}{s:Shared}{y x:V}{u v:Value} (ry:za8 y u) (rx:za8 x v) (fy:zd1 y=true) (fx:zd1 x=true):SeqAt.EqAt A s u v (eqV y x):=by
 cases y with
 | non=>
  cases ry
  cases x with
  | non=>cases rx;exact SeqAt.EqAt.same _
  | bl b=>cases rx;exact SeqAt.EqAt.none_bool b
  | int b=>obtain⟨t,rfl⟩:=rx;exact SeqAt.EqAt.none_int b t
  | str b=>obtain⟨t,rfl⟩:=rx;exact SeqAt.EqAt.none_str b t
  | _=>exact absurd (show false=true from fx) Bool.false_ne_true
 | bl a=>
  cases ry
  cases x with
  | non=>cases rx;exact SeqAt.EqAt.bool_none a
  | bl b=>cases rx;exact SeqAt.EqAt.bool_bool a b
  | int b=>obtain⟨t,rfl⟩:=rx;exact SeqAt.EqAt.bool_int a b t
  | str b=>obtain⟨t,rfl⟩:=rx;exact SeqAt.EqAt.bool_str a b t
  | _=>exact absurd (show false=true from fx) Bool.false_ne_true
 | int a=>
  obtain⟨t',rfl⟩:=ry
  cases x with
  | non=>cases rx;exact SeqAt.EqAt.int_none a t'
  | bl b=>cases rx;exact SeqAt.EqAt.int_bool a t' b
  | int b=>obtain⟨t,rfl⟩:=rx;exact SeqAt.EqAt.int_int a t' b t
  | str b=>obtain⟨t,rfl⟩:=rx;exact SeqAt.EqAt.int_str a t' b t
  | _=>exact absurd (show false=true from fx) Bool.false_ne_true
 | str a=>
  obtain⟨t',rfl⟩:=ry
  cases x with
  | non=>cases rx;exact SeqAt.EqAt.str_none a t'
  | bl b=>cases rx;exact SeqAt.EqAt.str_bool a t' b
  | int b=>obtain⟨t,rfl⟩:=rx;exact SeqAt.EqAt.str_int a t' b t
  | str b=>obtain⟨t,rfl⟩:=rx;exact SeqAt.EqAt.str_str a t' b t
  | _=>exact absurd (show false=true from fx) Bool.false_ne_true
 | _=>exact absurd (show false=true from fy) Bool.false_ne_true
def eqU (x:V) (u:Value):Bool:=match u with
 | .none=>eqV .non x
 | .bool b=>eqV (.bl b) x
 | .int i _=>eqV (.int i) x
 | .str z _=>eqV (.str z) x
 | _=>false
theorem zkE {x y:V}{u:Value} (r:za8 y u) (f:zd1 y=true):eqU x u=eqV y x:=by
 cases y with
 | non=>cases r;rfl
 | bl b=>cases r;rfl
 | int i=>obtain⟨t,rfl⟩:=r;rfl
 | str z=>obtain⟨t,rfl⟩:=r;rfl
 | _=>exact absurd (show false=true from f) Bool.false_ne_true
theorem zel {x:V}:∀ {xs:List V}{us:List Value},zaX xs us→xs.all zd1=true→us.any (eqU x)=xs.any fun y=>eqV y x
 | _,_,.nil,_=>rfl
 | y::xs,u::us,.cons r t,f=>by
  rw[List.all_cons,Bool.and_eq_true] at f
  rw[List.any_cons,List.any_cons,zkE r f.1,zel t f.2]
theorem zdb {A:Around}{s:Shared}{x:V}{v:Value} (rx:za8 x v) (fx:zd1 x=true):∀ {xs:List V}{us:List Value},zaX xs us→xs.all zd1=true→∀ u∈us,SeqAt.EqAt A s u v (eqU x u)
 | _,_,.nil,_=>fun u hu=>by cases hu
 | y::xs,u::us,.cons r t,f=>fun u' hu=>by
  rw[List.all_cons,Bool.and_eq_true] at f
  rcases List.mem_cons.mp hu with rfl|hu
  ·rw[zkE r f.1];exact zbF r rx f.1 fx
  ·exact zdb rx fx t f.2 u' hu
def inV (x:V) (xs:List V):Bool:=xs.any fun y=>eqV y x
def rIn (K:PySem.W.Frag) (neg:Bool):R2:=fun x y H Q=>∃ p xs,y=.ref p∧(SqL K H p xs∨SqT K H p xs)∧zd1 x=true∧xs.all zd1=true∧Q (.bl (if neg then !inV x xs else inV x xs)) H
theorem zem:OpR X (compareOp .In) (rIn X.K false):=by
 intro pins s σ H x y v u Q I rx ry h
 obtain⟨p,xs,rfl,hq,fx,fs,q⟩:=h
 cases ry
 rcases hq with hq|hq
 ·obtain⟨its,r,pl,hz⟩:=I.list hq
  refine SeqAt.in_listAt (eqU x) pl.isList (fun w hw=>zdb rx fx r fs w (by simpa using hw)) ⟨.bl _,H,I,rfl,?_⟩
  rw[show its.toArray.any (eqU x)=its.any (eqU x) by simp,zel r fs]
  exact q
 ·obtain⟨its,r,pl,hz⟩:=I.tuple hq
  refine SeqAt.in_tupleAt (eqU x) pl (fun w hw=>zdb rx fx r fs w (by simpa using hw)) ⟨.bl _,H,I,rfl,?_⟩
  rw[show its.toArray.any (eqU x)=its.any (eqU x) by simp,zel r fs]
  exact q
theorem zf8:OpR X (compareOp .NotIn) (rIn X.K true):=by
 intro pins s σ H x y v u Q I rx ry h
 obtain⟨p,xs,rfl,hq,fx,fs,q⟩:=h
 cases ry
 rcases hq with hq|hq
 ·obtain⟨its,r,pl,hz⟩:=I.list hq
  refine SeqAt.notIn_listAt (eqU x) pl.isList (fun w hw=>zdb rx fx r fs w (by simpa using hw)) ⟨.bl _,H,I,rfl,?_⟩
  rw[show its.toArray.any (eqU x)=its.any (eqU x) by simp,zel r fs]
  exact q
 ·obtain⟨its,r,pl,hz⟩:=I.tuple hq
  refine SeqAt.notIn_tupleAt (eqU x) pl (fun w hw=>zdb rx fx r fs w (by simpa using hw)) ⟨.bl _,H,I,rfl,?_⟩
  rw[show its.toArray.any (eqU x)=its.any (eqU x) by simp,zel r fs]
  exact q
theorem zay:zdx X (.builtin "len") (fun xs H Q=>∃ p ys,xs=[.ref p]∧(SqL X.K H p ys∨SqT X.K H p ys)∧Q (.int ys.length) H):=by
 intro pins s σ H xs us Q I r h
 obtain⟨p,ys,rfl,hq,q⟩:=h
 obtain⟨u,rfl,rx⟩:=zda r
 cases rx
 have hn:=zf2
 rcases hq with hq|hq
 ·obtain⟨its,r',pl,hz⟩:=I.list hq
  have hlen:=r'.length
  exact Calls.call_len_list pl.isList (by simp only[List.size_toArray] <;> omega) ⟨.int ys.length,H,I.tok _,⟨s.toks + 1,by rw[List.size_toArray,hlen]⟩,q⟩
 ·obtain⟨its,r',pl,hz⟩:=I.tuple hq
  have hlen:=r'.length
  exact len_tuple pl (by simp only[List.size_toArray] <;> omega) ⟨.int ys.length,H,I.tok _,⟨s.toks + 1,by rw[List.size_toArray,hlen]⟩,q⟩
theorem zbG:zdx X (.builtin "len") (fun xs H Q=>∃ z,xs=[.str z]∧z.length≤sizeLine∧Q (.int z.length) H):=by
 intro pins s σ H xs us Q I r h
 obtain⟨z,rfl,hz,q⟩:=h
 obtain⟨u,rfl,t,rfl⟩:=zda r
 have hn:=zf2
 exact len_str (by omega) ⟨.int z.length,H,I.tok _,⟨_,rfl⟩,q⟩
theorem zf9:zdx X (.type "list") (fun xs H Q=>∃ p ys,xs=[.ref p]∧(SqL X.K H p ys∨SqT X.K H p ys)∧∀ l,H l=none→Q (.ref l) (upd H l (.lst ys))):=by
 intro pins s σ H xs us Q I r h
 obtain⟨p,ys,rfl,hq,q⟩:=h
 obtain⟨u,rfl,rx⟩:=zda r
 cases rx
 have fin:∀ (its:List Value),zaX ys its→ys.length≤sizeLine→∀ (h':Heap) (c':Nat),(∀ b o',s.heap.get? b=some o'→h'.get? b=some o') →
   h'.get? s.heap.objs.size=some { cls:=.type "list",dict:=none,data:=.seq its.toArray c',slots:=#[] }→EP X pins σ Q (.ref s.heap.objs.size) { s with heap:=h' }:=fun its r' hz h' c' kp e=>
  ⟨.ref s.heap.objs.size,_,I.laid (t':=s.toks) kp (Nat.le_refl _) (show zbw X.prog X.w _ h' _ (.lst ys) from⟨hz,its,c',r',e⟩),rfl,q _ (I.hok.fresh (Nat.le_refl _))⟩
 rcases hq with hq|hq
 ·obtain⟨its,r',pl,hz⟩:=I.list hq
  have hlen:=r'.length
  obtain⟨o,ho,hc,n,hd⟩:=pl.isList
  exact call_list_seq p (.inl rfl) ho hc hd (fun h' c' kp e=>fin its r' hz h' c' kp e) (by simp only[List.size_toArray] <;> omega)
 ·obtain⟨its,r',pl,hz⟩:=I.tuple hq
  have hlen:=r'.length
  obtain⟨o,ho,hc,n,hd⟩:=pl
  exact call_list_seq p (.inr rfl) ho hc hd (fun h' c' kp e=>fin its r' hz h' c' kp e) (by simp only[List.size_toArray] <;> omega)
def tyV (K:PySem.W.Frag) (T:String) (x:V) (H:Hp):Prop:=match x with
 | .str _=>T="str"
 | .int _=>T="int"
 | .ref p=>(T="list"∧∃ xs,SqL K H p xs)∨(T="tuple"∧∃ o,K.lookup p=some o∧o.cls=.type "tuple"∧o.dict=none) ∨
   (T="dict"∧((∃ kvs,H p=some (.dK kvs))∨∃ kvs,H p=some (.dT kvs)))∨(T="set"∧∃ S n,H p=some (.set S n))
 | _=>False
theorem zkF {pins:List (Addr×Obj)}{σ:St}{H:Hp}{s:Shared}{T:String}{x:V}{v:Value} (I:Inv X pins σ H s) (r:za8 x v) (ty:tyV X.K T x H) :
  s.TypeIs v T∧∀ a,v=.ref a→∃ ob,s.heap.get? a=some ob∧ob.dict=none:=by
 cases x with
 | str z=>
  obtain⟨t,rfl⟩:=r
  cases (show T="str" from ty)
  exact⟨typeIs_str s z t,fun _ e=>nomatch e⟩
 | int i=>
  obtain⟨t,rfl⟩:=r
  cases (show T="int" from ty)
  exact⟨typeIs_int s i t,fun _ e=>nomatch e⟩
 | ref p=>
  cases r
  rcases ty with⟨rfl,xs,hq⟩|⟨rfl,o,hk,hc,hd⟩|⟨rfl,hk⟩|⟨rfl,S,n,hk⟩
  ·obtain⟨its,_,pl,_⟩:=I.list hq
   refine⟨pl.isList.typeIs,fun a e=>?_⟩
   cases e
   obtain⟨o,n,e,c,hd,_⟩:=pl
   exact⟨o,e,hd⟩
  ·refine⟨⟨o,I.kIn p o hk,hc⟩,fun a e=>?_⟩
   cases e
   exact⟨o,I.kIn _ o hk,hd⟩
  ·have z:∃ o,s.heap.get? p=some o∧o.ExactDict:=by
    rcases hk with⟨kvs,hk⟩|⟨kvs,hk⟩
    ·obtain⟨_,_,_,_,o,_,_,e,ex,_⟩:=I.hok p _ hk
     exact⟨o,e,ex⟩
    ·obtain⟨_,_,_,_,o,_,_,e,ex,_⟩:=I.hok p _ hk
     exact⟨o,e,ex⟩
   obtain⟨o,e,ex⟩:=z
   refine⟨⟨o,e,ex.1⟩,fun a e2=>?_⟩
   cases e2
   exact⟨o,e,ex.2.1⟩
  ·obtain⟨o,_,_,_,e,ex,_⟩:=I.hok p _ hk
   refine⟨⟨o,e,ex.1⟩,fun a e2=>?_⟩
   cases e2
   exact⟨o,e,ex.2.1⟩
 | _=>exact False.elim ty
def tBM0 (K:PySem.W.Frag) (T:String) (r:V→List V→Hp→VK→Prop) (to:TE):TE:=fun σ H Q=>to σ H fun x H1=>tyV K T x H1∧r x [] H1 Q
def tBM (K:PySem.W.Frag) (T:String) (r:V→List V→Hp→VK→Prop) (to:TE) (t:TA):TE:=fun σ H Q=>to σ H fun x H1=>tyV K T x H1∧t σ H1 fun xs H2=>r x xs H2 Q
variable {o e:Expr}{es:List Expr}{to:TE}{t:TA}{name:Str}{apos cpos:Pos}{T id:String}{r:V→List V→Hp→VK→Prop}
theorem pe_bm0 (pa:PlainAttrs T) (slot:Slot T name id) (hty:typeOf (.builtin id)=pure (.type "method_descriptor")) (hm:MtR X id r) (ho:PE X o to)
  (hbase:attributeBase o name X.env (eval o X.env)=eval o X.env:=by rfl) (hline:(apos.endLine == cpos.line)=true:=by rfl):PE X (.Call (.Attribute o name apos) [] [] cpos) (tBM0 X.K T r to):=by
 intro pins s σ H Q I h
 refine wpAny_Call_method0_late hbase hline (thn (ho pins s σ H _ I h) fun v s1=>L2.ex5 fun x H1 I1 r1 hq_=>?_)
 obtain⟨ty,q1⟩:=hq_
 obtain⟨h1,h2⟩:=zkF I1 r1 ty
 exact⟨T,id,pa,slot,hty,h1,h2,Calls.callWith_builtin rfl (PySem.evalArgs_none (hm pins s1 σ H1 x [] v [] Q I1 r1 .nil q1))⟩
theorem zbN (pa:PlainAttrs T) (slot:Slot T name id) (hty:typeOf (.builtin id)=pure (.type "method_descriptor")) (hm:MtR X id r) (ho:PE X o to) (ha:PA X (e::es) t)
  (hbase:attributeBase o name X.env (eval o X.env)=eval o X.env:=by rfl)
  (hfew:((backTo cpos (starEach (e::es) X.env)).all (fun x=>!x.1) && (backToKw cpos (keywordEach [] X.env)).all (fun x=>x.1.isSome)
   && decide ((e::es).length + ([]:List Keyword).length + (if ([]:List Keyword).isEmpty then 0 else 1)<30))=true:=by rfl)
  (hline:(apos.endLine == cpos.line)=true:=by rfl) (hs:starEach (e::es) X.env=(false,eval e X.env)::starEach es X.env:=by rfl) (hplain:(backTo cpos (starEach es X.env)).any (·.1)=false:=by rfl) :
  PE X (.Call (.Attribute o name apos) (e::es) [] cpos) (tBM X.K T r to t):=by
 intro pins s σ H Q I h
 refine wpAny_Call_method_late hbase hfew hline rfl (thn (ho pins s σ H _ I h) fun v s1=>L2.ex5 fun x H1 I1 r1 hq_=>?_)
 obtain⟨ty,q1⟩:=hq_
 obtain⟨h1,h2⟩:=zkF I1 r1 ty
 refine⟨T,id,pa,slot,hty,h1,h2,?_⟩
 have hA:=ha cpos pins s1 σ H1 _ I1 q1
 rw[hs] at hA ⊢
 refine Calls.callWith_builtin (by show(false || (backTo cpos (starEach es X.env)).any (·.1))=false;rw[hplain] <;> rfl) (Calls.evalArgs_plain ?_)
 exact thn hA fun us s2=>L2.ex5 fun vs H2 I2 r2 q2=>hm pins s2 σ H2 x vs v us Q I2 r1 r2 q2
end
end L2
namespace L2
open PySem PySem.Spec PyProof.Rows
def MtM (X:Cx) (id:String) (r:V→List V→Hp→VK→Prop):Prop:=
 ∀ (pins:List (Addr×Obj)) (s:Shared) (σ:St) (H:Hp) (x:V) (xs:List V) (v:Value) (us:List Value) (Q:VK),Inv X pins σ H s→za8 x v→zaX xs us→r x xs H Q →
  wpAny (model X.prog X.w) X.A (call (.builtin id) (v::us)) (EP X pins σ Q) X.xe s
theorem zaX.one:∀ {x:V}{us:List Value},zaX [x] us→∃ u,us=[u]∧za8 x u
 | _,_,.cons r .nil=>⟨_,rfl,r⟩
section
variable {X:Cx}{pins:List (Addr×Obj)}{σ:St}{H:Hp}{s:Shared}{l b:Addr}{xs ys zs:List V}
theorem Inv.lset {its its':List Value}{n:Nat}{f:Array Value→Array Value}{t':Nat} (I:Inv X pins σ H s) (hH:H l=some (.lst xs))
  (e:s.heap.get? l=some { cls:=.type "list",data:=.seq its.toArray n }) (hf:f its.toArray=its'.toArray) (hv:zaX ys its') (hz:ys.length≤sizeLine) :
  Inv X pins σ (upd H l (.lst ys)) { s with heap:=s.heap.update l (Obj.mapSeq f),toks:=t' }:=by
 have q:=PySem.IsL.update e f
 rw[hf] at q
 refine I.write (x:=l) (e:=l) (by rw[hH];exact trivial) (.inl rfl) (fun b' u hb hu=>(Heap.get?_update_other s.heap (Obj.mapSeq f) (Ne.symm hb)).trans hu) ⟨_,q⟩ ?_
 exact⟨hz,its',_,hv,q⟩
theorem Inv.lnew {its:List Value}{t':Nat} (I:Inv X pins σ H s) (hv:zaX ys its) (hz:ys.length≤sizeLine) :
  Inv X pins σ (upd H s.heap.objs.size (.lst ys)) { s with heap:=s.heap.push { cls:=.type "list",data:=.seq its.toArray },toks:=t' }:=
 I.laid (fun _ _ q=>Heap.get?_push_of_some _ q) (Nat.le_refl _) ⟨hz,its,0,hv,Heap.get?_push_size _ rfl⟩
theorem Inv.fresh (I:Inv X pins σ H s):H s.heap.objs.size=none:=I.hok.fresh (Nat.le_refl _)
theorem Inv.lstM (I:Inv X pins σ H s) (hH:H l=some (.lst xs)):xs.length≤sizeLine∧∃ (its:List Value) (n:Nat),zaX xs its∧xs.length=its.length∧s.heap.get? l=some { cls:=.type "list",data:=.seq its.toArray n }:=by
 obtain⟨z,its,n,r,e⟩:=I.hok l _ hH
 exact⟨z,its,n,r,r.length,e⟩
theorem zj3 {n:Nat} (h:n≤sizeLine):Builtin.List.listTooLong n=false:=by
 unfold Builtin.List.listTooLong
 exact decide_eq_false (by omega)
end
section
variable {X:Cx}
def zlb:V→List V→Hp→VK→Prop:=fun x vs H Q=>∃ l xs y,x=.ref l∧vs=[y]∧H l=some (.lst xs)∧xs.length<sizeLine∧Q .non (upd H l (.lst (xs++[y])))
theorem zaQ:MtM X "list.append" zlb:=by
 intro pins s σ H x vs v us Q I rx rv h
 obtain⟨l,xs,y,rfl,rfl,hH,hz,q⟩:=h
 cases rx
 obtain⟨u,rfl,ru⟩:=rv.one
 obtain⟨z,its,n,r,hl,e⟩:=I.lstM hH
 refine call_meets F.slot_list_append ⟨_,e,rfl⟩ F.entry_list_append (F.args_list_append_2 _ _) (PySem.list_append l its.toArray n u (by rw[List.size_toArray];omega)) ⟨e,?_⟩
 refine⟨.non,_,I.lset (its':=its++[u]) hH e (by simp) (r.append (.cons ru .nil)) ?_,rfl,q⟩
 rw[List.length_append,List.length_singleton]
 omega
def zlc:V→List V→Hp→VK→Prop:=fun x vs H Q=>∃ l b xs zs,x=.ref l∧vs=[.ref b]∧H l=some (.lst xs)∧H b=some (.lst zs)∧xs.length + zs.length≤sizeLine∧Q .non (upd H l (.lst (xs++zs)))
theorem zen:MtM X "list.extend" zlc:=by
 intro pins s σ H x vs v us Q I rx rv h
 obtain⟨l,b,xs,zs,rfl,rfl,hH,hB,hz,q⟩:=h
 cases rx
 obtain⟨u,rfl,ru⟩:=rv.one
 cases ru
 obtain⟨z,its,n,r,hl,e⟩:=I.lstM hH
 obtain⟨z2,its2,n2,r2,hl2,e2⟩:=I.lstM hB
 have hsz:its.toArray.size + its2.toArray.size≤sizeLine:=by rw[List.size_toArray,List.size_toArray];omega
 have hlong:¬ (!its.toArray.isEmpty && Builtin.List.listTooLong (its.toArray.size + its2.toArray.size))=true:=by
  rw[zj3 hsz,Bool.and_false]
  exact Bool.false_ne_true
 refine call_meets F.slot_list_extend ⟨_,e,rfl⟩ F.entry_list_extend (F.args_list_extend_2 _ _)
  (AutoSeq1.list_extend_list_list_0 l its.toArray n b its2.toArray n2 hlong (by rw[List.size_toArray];omega) (by omega)) ⟨e,e2,?_⟩
 refine⟨.non,_,I.lset (its':=its++its2) hH e (by simp) (r.append r2) ?_,rfl,q⟩
 rw[List.length_append]
 omega
def rCat:R2:=fun x y H Q=>∃ l b xs zs,x=.ref l∧y=.ref b∧H l=some (.lst xs)∧H b=some (.lst zs)∧xs.length + zs.length≤sizeLine∧∀ p,H p=none→Q (.ref p) (upd H p (.lst (xs++zs)))
theorem zeo:OpR X (binaryOp .Add) rCat:=by
 intro pins s σ H x y v u Q I rx ry h
 obtain⟨l,b,xs,zs,rfl,rfl,hH,hB,hz,q⟩:=h
 cases rx
 cases ry
 obtain⟨z,its,n,r,hl,e⟩:=I.lstM hH
 obtain⟨z2,its2,n2,r2,hl2,e2⟩:=I.lstM hB
 refine PySem.P.add_list e e2 ?_ (by rw[List.size_toArray,List.size_toArray];omega)
 have ea:its.toArray++its2.toArray=(its++its2).toArray:=by simp
 rw[ea]
 exact⟨.ref _,_,I.lnew (t':=s.toks) (r.append r2) (by rw[List.length_append];omega),rfl,q _ I.fresh⟩
end
section
variable {prog:Program}{w:World}{A:Around}{E:Value→Shared→Prop}{s:Shared}
end
section
variable {X:Cx}
end
end L2
namespace L2
open PySem PySem.Spec PyProof.Rows
section
variable {κ:Type} [DecidableEq κ]
def zco (kvs:List (κ×V)) (k:κ):Option V:=(kvs.find? fun kv=>decide (kv.1=k)).map (·.2)
def zgQ (kvs:List (κ×V)) (k:κ) (v:V):List (κ×V):=
 if (kvs.any fun kv=>decide (kv.1=k))=true then kvs.map (fun kv=>if kv.1=k then(kv.1,v) else kv) else kvs++[(k,v)]
def zdc (kvs:List (κ×V)) (k:κ):List (κ×V):=kvs.filter fun kv=>decide (kv.1≠k)
theorem zbp {p:κ×V}{r:List (κ×V)}{k:κ} (e:p.1=k):zco (p::r) k=some p.2:=by simp[zco,List.find?_cons,e]
theorem za0 {p:κ×V}{r:List (κ×V)}{k:κ} (e:¬ p.1=k):zco (p::r) k=zco r k:=by simp[zco,List.find?_cons,e]
theorem zdd (k:κ):∀ kvs:List (κ×V),(kvs.any fun kv=>decide (kv.1=k))=(zco kvs k).isSome
 | []=>rfl
 | p::r=>by
  rw[List.any_cons]
  by_cases e:p.1=k
  ·simp only[zbp e,decide_eq_true e,Bool.true_or,Option.isSome_some]
  ·rw[za0 e,decide_eq_false e,Bool.false_or];exact zdd k r
theorem zep (kvs:List (κ×V)) (k:κ) (v:V):(zgQ kvs k v).length≤kvs.length + 1:=by
 unfold zgQ
 split
 ·rw[List.length_map];omega
 ·rw[List.length_append,List.length_cons,List.length_nil];omega
theorem zd4 {kvs:List (κ×V)}{k:κ} (v:V) (h:zco kvs k=none):zgQ kvs k v=kvs++[(k,v)]:=by
 unfold zgQ
 rw[zdd,h]
 exact if_neg (by decide)
theorem zfh.isSome_eq {o:Option V}{u:Option Value} (r:zfh o u):o.isSome=u.isSome:=by
 cases o with
 | none=>cases u with
  | none=>rfl
  | some _=>exact(show False from r).elim
 | some _=>cases u with
  | none=>exact(show False from r).elim
  | some _=>rfl
theorem KV.val {kvs:List (κ×V)}{vs:List (κ×Value)} (r:KV kvs vs) (k:κ):zfh (zco kvs k) (valueAt vs k):=by
 unfold KV at r
 induction r with
 | nil=>exact True.intro
 | @cons p q ps qs h t ih=>
  obtain⟨h1,h2⟩:=h
  by_cases e:p.1=k
  ·have e':q.1=k:=h1.symm.trans e
   have b:valueAt (q::qs) k=some q.2:=by simp[valueAt,List.find?_cons,e']
   rw[zbp e,b];exact h2
  ·have e':¬ q.1=k:=fun z=>e (h1.trans z)
   have b:valueAt (q::qs) k=valueAt qs k:=by simp[valueAt,List.find?_cons,e']
   rw[za0 e,b];exact ih
theorem KV.any {kvs:List (κ×V)}{vs:List (κ×Value)} (r:KV kvs vs) (k:κ):(kvs.any fun kv=>decide (kv.1=k))=vs.any fun kv=>decide (kv.1=k):=by
 unfold KV at r
 induction r with
 | nil=>rfl
 | cons h t ih=>rw[List.any_cons,List.any_cons,ih,h.1]
theorem KV.repl {kvs:List (κ×V)}{vs:List (κ×Value)} (r:KV kvs vs) (k:κ){y:V}{u:Value} (ry:za8 y u) :
  KV (kvs.map fun kv=>if kv.1=k then(kv.1,y) else kv) (vs.map fun kv=>if kv.1=k then(kv.1,u) else kv):=by
 unfold KV at r ⊢
 induction r with
 | nil=>exact .nil
 | @cons p q ps qs h t ih=>
  rw[List.map_cons,List.map_cons]
  refine .cons ?_ ih
  obtain⟨h1,h2⟩:=h
  by_cases e:p.1=k
  ·rw[if_pos e,if_pos (h1.symm.trans e)];exact⟨h1,ry⟩
  ·rw[if_neg e,if_neg (fun z=>e (h1.trans z))];exact⟨h1,h2⟩
theorem KV.put {kvs:List (κ×V)}{vs:List (κ×Value)} (r:KV kvs vs) (k:κ){y:V}{u:Value} (ry:za8 y u):KV (zgQ kvs k y) (stored vs k u):=by
 unfold zgQ stored
 rw[r.any k]
 by_cases e:(vs.any fun kv=>decide (kv.1=k))=true
 ·rw[if_pos e,if_pos e];exact r.repl k ry
 ·rw[if_neg e,if_neg e];exact Paired.snoc r ⟨rfl,ry⟩
theorem KV.drop {kvs:List (κ×V)}{vs:List (κ×Value)} (r:KV kvs vs) (k:κ):KV (zdc kvs k) (without vs k):=by
 unfold KV at r ⊢
 unfold zdc without
 induction r with
 | nil=>exact .nil
 | @cons p q ps qs h t ih=>
  obtain⟨h1,h2⟩:=h
  rw[List.filter_cons,List.filter_cons]
  by_cases e:p.1=k
  ·have a:¬ decide (p.1≠k)=true:=by simp[e]
   have b:¬ decide (q.1≠k)=true:=by simp[h1.symm.trans e]
   rw[if_neg a,if_neg b];exact ih
  ·have e':¬ q.1=k:=fun z=>e (h1.trans z)
   have a:decide (p.1≠k)=true:=by simp[e]
   have b:decide (q.1≠k)=true:=by simp[e']
   rw[if_pos a,if_pos b];exact .cons ⟨h1,h2⟩ ih
theorem KV.keys {kvs:List (κ×V)}{vs:List (κ×Value)} (r:KV kvs vs):kvs.map (·.1)=vs.map (·.1):=by
 unfold KV at r
 induction r with
 | nil=>rfl
 | cons h t ih=>rw[List.map_cons,List.map_cons,ih,h.1]
theorem KV.length {kvs:List (κ×V)}{vs:List (κ×Value)} (r:KV kvs vs):kvs.length=vs.length:=Paired.length r
theorem zj4 (kvs:List (κ×V)) (k:κ):(zdc kvs k).length≤kvs.length:=List.length_filter_le _ _
end
theorem zga {P:Program}{w:World}{k:Key}{u:Value} (r:za8 (kV k) u):(zaL P w).is k u=true:=by
 cases k with
 | inl i=>obtain⟨t,e⟩:=(show ∃ t,u=Value.int i t from r);subst e;exact zgJ P w i t
 | inr x=>obtain⟨t,e⟩:=(show ∃ t,u=Value.str x t from r);subst e;exact zgK P w x t
theorem zgb {P:Program}{w:World}:∀ {ks:List Key}{us:List Value},zaX (ks.map kV) us→ItemsAre (zaL P w) ks us
 | [],_,r=>by rw[List.map_nil] at r;cases r;exact .nil
 | k::ks,_,r=>by
  rw[List.map_cons] at r
  cases r with
  | cons h t=>exact .cons (zga h) (zgb t)
abbrev KT (H:Hp):List (List Key×V)→List (List Key×Addr×Value)→Prop:=Paired fun p q=>p.1=q.1∧H q.2.1=some (.tup (p.1.map kV))∧za8 p.2 q.2.2
theorem KT.val {H:Hp}{kvs:List (List Key×V)}{xs:List (List Key×Addr×Value)} (r:KT H kvs xs) (k:List Key):zfh (zco kvs k) ((atKey xs k).map (·.2)):=by
 induction r with
 | nil=>exact True.intro
 | @cons p q ps qs h t ih=>
  obtain⟨h1,_,h2⟩:=h
  by_cases e:p.1=k
  ·have e':q.1=k:=h1.symm.trans e
   have b:atKey (q::qs) k=some q.2:=by simp[atKey,List.find?_cons,e']
   rw[zbp e,b];exact h2
  ·have e':¬ q.1=k:=fun z=>e (h1.trans z)
   have b:atKey (q::qs) k=atKey qs k:=by simp[atKey,List.find?_cons,e']
   rw[za0 e,b];exact ih
theorem KT.repl {H:Hp}{kvs:List (List Key×V)}{xs:List (List Key×Addr×Value)} (r:KT H kvs xs) (k:List Key){y:V}{u:Value} (ry:za8 y u) :
  KT H (kvs.map fun kv=>if kv.1=k then(kv.1,y) else kv) (xs.map (putAt k u)):=by
 induction r with
 | nil=>exact .nil
 | @cons p q ps qs h t ih=>
  rw[List.map_cons,List.map_cons]
  refine .cons ?_ ih
  obtain⟨h1,h2,h3⟩:=h
  unfold putAt
  by_cases e:p.1=k
  ·rw[if_pos e,if_pos (h1.symm.trans e)];exact⟨h1,h2,ry⟩
  ·rw[if_neg e,if_neg (fun z=>e (h1.trans z))];exact⟨h1,h2,h3⟩
theorem KT.put {H:Hp}{kvs:List (List Key×V)}{xs:List (List Key×Addr×Value)} (r:KT H kvs xs) (k:List Key){b:Addr}{y:V}{u:Value} (hb:H b=some (.tup (k.map kV))) (ry:za8 y u) :
  KT H (zgQ kvs k y) (storedH xs k b u):=by
 have e:(kvs.any fun kv=>decide (kv.1=k))=(atKey xs k).isSome:=by
  rw[zdd,(r.val k).isSome_eq,Option.isSome_map]
 unfold zgQ storedH
 rw[e]
 by_cases q:(atKey xs k).isSome=true
 ·rw[if_pos q,if_pos q];exact r.repl k ry
 ·rw[if_neg q,if_neg q];exact Paired.snoc r ⟨rfl,hb,ry⟩
theorem KT.keeps {H H':Hp}{kvs:List (List Key×V)}{xs:List (List Key×Addr×Value)} (r:KT H kvs xs) (ht:∀ b ys,H b=some (.tup ys)→H' b=some (.tup ys)):KT H' kvs xs:=
 Paired.mapP r fun _ _ z=>⟨z.1,ht _ _ z.2.1,z.2.2⟩
section
variable {P:Program}{w:World}{H:Hp}{h:Heap}{a:Addr}
theorem rd_of {u:HO} (ok:HOk P w H h) (e:Rd H a u):zbw P w H h a u:=e.ok ok
theorem zgR {kvs:List (Key×V)} (ok:HOk P w H h) (e:Rd H a (.dK kvs)):kvs.length≤sizeLine∧(a == sysModules)=false∧∃ vs,KV kvs vs∧h.DictOf (zaL P w) a vs:=
 show zbw P w H h a (.dK kvs) from rd_of ok e
theorem zeV {kvs:List (Key×V)} (ok:HOk P w H h) (e:H a=some (.dK kvs)):kvs.length≤sizeLine∧(a == sysModules)=false∧∃ vs,KV kvs vs∧h.DictOf (zaL P w) a vs:=zgR ok (.inl e)
theorem zgc {ks:List Key} (ok:HOk P w H h) (e:H a=some (.tup (ks.map kV))):(tupleKind (zaL P w)).is h ks a:=by
 obtain⟨_,its,r,o,h1,h2,n,h3⟩:=(show zbw P w H h a (.tup (ks.map kV)) from ok a _ e)
 exact⟨o,its.toArray,n,h1,h2,h3,by simpa using zgb r⟩
theorem zhU {kvs:List (List Key×V)} (ok:HOk P w H h) (e:Rd H a (.dT kvs)):kvs.length≤sizeLine∧(a == sysModules)=false ∧
  ∃ xs,KT H kvs xs∧h.DictOfH (tupleKind (zaL P w)) a xs:=by
 obtain⟨z,y,xs,r,o,es,ep,h1,h2,h3,h4,h5⟩:=(show zbw P w H h a (.dT kvs) from rd_of ok e)
 refine⟨z,y,xs,r,o,es,ep,h1,h2,h3,h4,fun x hx=>?_,h5⟩
 have all:∀ {l:List (List Key×V)}{m:List (List Key×Addr×Value)},KT H l m→∀ x∈m,(tupleKind (zaL P w)).is h x.1 x.2.1:=by
  intro l m q
  induction q with
  | nil=>intro x hx;exact nomatch hx
  | @cons p q ps qs hq t ih=>
   intro x hx
   rcases List.mem_cons.mp hx with e|hx
   ·subst e
    exact zgc ok (by rw[← hq.1];exact hq.2.1)
   ·exact ih x hx
 exact all r x hx
theorem dt_of {kvs:List (List Key×V)} (ok:HOk P w H h) (e:H a=some (.dT kvs)):kvs.length≤sizeLine∧(a == sysModules)=false ∧
  ∃ xs,KT H kvs xs∧h.DictOfH (tupleKind (zaL P w)) a xs:=zhU ok (.inl e)
end
def zgF (H:Hp) (a:Addr) (y:V) (r:Option V):Prop:=
 (∃ kvs k,Rd H a (.dK kvs)∧y=kV k∧r=zco kvs k)∨∃ kvs k b,Rd H a (.dT kvs)∧y=.ref b∧H b=some (.tup (k.map kV))∧r=zco kvs k
def zkG (H:Hp) (a:Addr) (y v:V) (H':Hp):Prop:=
 (∃ kvs k,H a=some (.dK kvs)∧y=kV k∧kvs.length<sizeLine∧H'=upd H a (.dK (zgQ kvs k v))) ∨
 ∃ kvs k b,H a=some (.dT kvs)∧y=.ref b∧H b=some (.tup (k.map kV))∧kvs.length<sizeLine∧H'=upd H a (.dT (zgQ kvs k v))
theorem zgF.k {H:Hp}{a:Addr}{kvs:List (Key×V)}{k:Key} (e:H a=some (.dK kvs)):zgF H a (kV k) (zco kvs k):=.inl ⟨kvs,k,.inl e,rfl,rfl⟩
theorem zkG.k {H:Hp}{a:Addr}{kvs:List (Key×V)}{k:Key}{v:V} (e:H a=some (.dK kvs)) (hl:kvs.length<sizeLine):zkG H a (kV k) v (upd H a (.dK (zgQ kvs k v))):=.inl ⟨kvs,k,e,rfl,hl,rfl⟩
section
variable {X:Cx}{pins:List (Addr×Obj)}{σ:St}{H:Hp}{s:Shared}{a:Addr}{y v:V}{u r:Value}{o:Option V}{A:Around}{E:Value→Shared→Prop}
theorem Inv.big (I:Inv X pins σ H s):sysModules<s.heap.objs.size:=by
 have h:mainGlobals<s.heap.objs.size:=(I.mod.glob.keeps I.bk).lt
 exact Nat.lt_trans (by decide) h
theorem ziE {Q:Value→Shared→Prop} (hu:A.units + 1<cLine) (I:Inv X pins σ H s) (g:zgF H a y (some v)) (ry:za8 y u) (h:∀ w' s',Inv X pins σ H s'→za8 v w'→Q w' s') :
  wpAny (model X.prog X.w) A (getItem (.ref a) u) Q E s:=by
 rcases g with⟨kvs,k,e,ey,l⟩|⟨kvs,k,b,e,ey,eb,l⟩
 ·subst ey
  obtain⟨z,hd,vs,rel,dd⟩:=zgR I.hok e
  obtain⟨w',hw,rw'⟩:=zfh.some_of (v:=v) (o:=valueAt vs k) (by rw[l];exact rel.val k)
  exact wpAny_getItem_of (zga ry) dd.mapOf hw (h w' _ (I.tok _) rw')
 ·subst ey
  cases (show u=Value.ref b from ry)
  obtain⟨z,hd,xs,rel,dd⟩:=zhU I.hok e
  obtain⟨w',hw,rw'⟩:=zfh.some_of (v:=v) (o:=(atKey xs k).map (·.2)) (by rw[l];exact rel.val k)
  obtain⟨p,hp,hp2⟩:=Option.map_eq_some_iff.mp hw
  refine wpAny_getItem_heap (tupleKind_room_in1 hu) (zgc I.hok eb) dd hp ?_
  rw[hp2]
  exact h w' _ (I.tok _) rw'
theorem d_in {Q:Value→Shared→Prop} (hu:A.units + 1<cLine) (I:Inv X pins σ H s) (g:zgF H a y o) (ry:za8 y u) (h:∀ s',Inv X pins σ H s'→Q (.bool o.isSome) s') :
  wpAny (model X.prog X.w) A (compareOp .In u (.ref a)) Q E s:=by
 rcases g with⟨kvs,k,e,ey,l⟩|⟨kvs,k,b,e,ey,eb,l⟩
 ·subst ey
  obtain⟨z,hd,vs,rel,dd⟩:=zgR I.hok e
  refine wpAny_in_of (zga ry) hd dd.mapOf ?_
  rw[← (rel.val k).isSome_eq,← l]
  exact h _ (I.tok _)
 ·subst ey
  cases (show u=Value.ref b from ry)
  obtain⟨z,hd,xs,rel,dd⟩:=zhU I.hok e
  refine wpAny_in_heap (tupleKind_room_in1 hu) (zgc I.hok eb) hd dd ?_
  have q:=(rel.val k).isSome_eq
  rw[Option.isSome_map] at q
  rw[← q,← l]
  exact h _ (I.tok _)
theorem zld {Q:Value→Shared→Prop} (hu:A.units + 1<cLine) (I:Inv X pins σ H s) (g:zgF H a y o) (ry:za8 y u) (h:∀ s',Inv X pins σ H s'→Q (.bool (!o.isSome)) s') :
  wpAny (model X.prog X.w) A (compareOp .NotIn u (.ref a)) Q E s:=by
 rcases g with⟨kvs,k,e,ey,l⟩|⟨kvs,k,b,e,ey,eb,l⟩
 ·subst ey
  obtain⟨z,hd,vs,rel,dd⟩:=zgR I.hok e
  refine wpAny_notIn_of (zga ry) hd dd.mapOf ?_
  rw[← (rel.val k).isSome_eq,← l]
  exact h _ (I.tok _)
 ·subst ey
  cases (show u=Value.ref b from ry)
  obtain⟨z,hd,xs,rel,dd⟩:=zhU I.hok e
  refine wpAny_notIn_heap (tupleKind_room_in1 hu) (zgc I.hok eb) hd dd ?_
  have q:=(rel.val k).isSome_eq
  rw[Option.isSome_map] at q
  rw[← q,← l]
  exact h _ (I.tok _)
theorem zgS {h':Heap}{t':Nat}{ob:HO} (I:Inv X pins σ H s) (mu:Mut (H a)) (hs:Heap.SameBut a s.heap h') (he:∃ q,h'.get? a=some q) (new:zbw X.prog X.w (upd H a ob) h' a ob) :
  Inv X pins σ (upd H a ob) { s with heap:=h',toks:=t' }:=
 I.write (x:=a) (e:=a) mu (.inl rfl) (fun b q hb z=>(hs.2 b hb).trans z) he new
theorem zkH {P:Program}{w:World}{H':Hp}{h':Heap}{kvs:List (Key×V)}{vs:List (Key×Value)} (z:kvs.length≤sizeLine) (hd:(a == sysModules)=false) (rel:KV kvs vs) (dd:h'.DictOf (zaL P w) a vs) :
  zbw P w H' h' a (.dK kvs):=⟨z,hd,vs,rel,dd⟩
theorem ziF {H':Hp}{Q:Unit→Shared→Prop} (hu:A.units + 1<cLine) (I:Inv X pins σ H s) (g:zkG H a y v H') (ry:za8 y u) (rv:za8 v r) (h:∀ s',Inv X pins σ H' s'→Q () s') :
  wpAny (model X.prog X.w) A (setItem (.ref a) u r) Q E s:=by
 rcases g with⟨kvs,k,e,ey,l,eH⟩|⟨kvs,k,b,e,ey,eb,l,eH⟩
 ·subst ey eH
  obtain⟨z,hd,vs,rel,dd⟩:=zeV I.hok e
  have hz:vs.length≤sizeLine:=by rw[← rel.length];exact z
  have hl:(zgQ kvs k v).length≤sizeLine:=by have:=zep kvs k v;omega
  refine wpAny_setItem_pairs (hsz:=hz) (zga ry) dd fun h' dd' hs=>h _ ?_
  have he:∃ q,h'.get? a=some q:=let ⟨q,_,_,hq,_⟩:=dd';⟨q,hq⟩
  exact zgS I (by rw[e];exact True.intro) hs he (zkH hl hd (rel.put k rv) dd')
 ·subst ey eH
  cases (show u=Value.ref b from ry)
  obtain⟨z,hd,xs,rel,dd⟩:=dt_of I.hok e
  have hz:xs.length≤sizeLine:=by rw[← Paired.length rel];exact z
  have hl:(zgQ kvs k v).length≤sizeLine:=by have:=zep kvs k v;omega
  refine wpAny_setItem_heap (hsz:=hz) (tupleKind_room_in1 hu) (zgc I.hok eb) dd fun h' dd' hs=>h _ ?_
  obtain⟨q,es,ep,hq,h2,h3,h4,_,h5⟩:=dd'
  refine zgS I (by rw[e];exact True.intro) hs ⟨q,hq⟩ ⟨hl,hd,_,(rel.put k eb rv).keeps fun c ys ec=>?_,q,es,ep,hq,h2,h3,h4,h5⟩
  rw[zaf (zbC ec e (fun z=>nomatch z))]
  exact ec
end
section
variable {X:Cx}{pins:List (Addr×Obj)}{σ:St}{H:Hp}{s:Shared}{a:Addr}{kvs:List (Key×V)}{k:Key}{u:Value}{A:Around}{E:Value→Shared→Prop}
theorem d_pop {v:V}{more:List Value}{Q:Value→Shared→Prop} (I:Inv X pins σ H s) (e:H a=some (.dK kvs)) (ry:za8 (kV k) u) (l:zco kvs k=some v) (hm:more=[]∨∃ x,more=[x])
  (h:∀ w' s',Inv X pins σ (upd H a (.dK (zdc kvs k))) s'→za8 v w'→Q w' s'):wpAny (model X.prog X.w) A (call (.builtin "dict.pop") (.ref a::u::more)) Q E s:=by
 obtain⟨z,hd,vs,rel,dd⟩:=zeV I.hok e
 obtain⟨w',hw,rw'⟩:=zfh.some_of (v:=v) (o:=valueAt vs k) (by rw[← l];exact rel.val k)
 have hp:(keyPart u).isSome=true:=by
  cases k with
  | inl i=>obtain⟨t,q⟩:=(show ∃ t,u=Value.int i t from ry);subst q;rfl
  | inr x=>obtain⟨t,q⟩:=(show ∃ t,u=Value.str x t from ry);subst q;rfl
 have ha:argsOk "dict.pop" ⟨.ref a::u::more,[]⟩:=by
  rcases hm with q|⟨x,q⟩
  ·subst q;exact PySem.F.args_dict_pop_2 _ _
  ·subst q;exact PySem.F.args_dict_pop_3 _ _ _
 refine call_meetsIn PySem.F.slot_dict_pop dd.typeIs PySem.F.entry_dict_pop ha (meets_dict_pop_there (zaL X.prog X.w) a (zga ry) more hm hp)
  ⟨vs,w',dd,by rw[← rel.length];exact z,hw,fun h' dd' hs=>h w' _ ?_ rw'⟩
 have he:∃ q,h'.get? a=some q:=let ⟨q,_,_,hq,_⟩:=dd';⟨q,hq⟩
 exact zgS I (by rw[e];exact True.intro) hs he (zkH (Nat.le_trans (zj4 kvs k) z) hd (rel.drop k) dd')
theorem d_len {Q:Value→Shared→Prop} (I:Inv X pins σ H s) (e:Rd H a (.dK kvs)) (h:∀ t s',Inv X pins σ H s'→Q (.int kvs.length t) s'):wpAny (model X.prog X.w) A (call (.builtin "len") [.ref a]) Q E s:=by
 obtain⟨z,hd,vs,rel,dd⟩:=zgR I.hok e
 refine call_len_dict hd dd (by rw[← rel.length];rw[sizeLine_eq] at z;omega) ?_
 rw[← rel.length]
 exact h _ _ (I.tok _)
end
def NoSl (i:Expr):Prop:=∀ ov iv,subscripted i false ov iv=operate [ov,iv] (getItem ov iv)
theorem ziG {prog:Program}{w:World}{A:Around}{E:Value→Shared→Prop}{s:Shared}{env:Env}{value slice:Expr}{pos:Pos}{T id:String}{Q:Value→Shared→Prop}
  (hl:typeLookup (.type T) "__getitem__"=pure (some (.builtin id))) (hs:NoSl slice)
  (h:wpAny (model prog w) A (eval value env) (fun o s₁=>wpAny (model prog w) A (eval slice env) (fun i s₂=>s₂.TypeIs o T∧wpAny (model prog w) A (getItem o i) Q E s₂) E s₁) E s) :
  wpAny (model prog w) A (eval (.Subscript value slice pos) env) Q E s:=by
 refine Subscript_ (wpAny_mono h (fun o s₁ h₁=>wpAny_mono h₁ (fun i s₂ h₂=>?_) fun _ _ x=>x) fun _ _ x=>x)
 obtain⟨hT,h₂⟩:=h₂
 unfold subscriptTail
 refine wpAny_bind ?_
 rw[getitemInPython_of_ne hT.not_modules]
 refine wpAny_bind (wpAny_specialOf hT hl ?_)
 have fin:wpAny (model prog w) A (subscripted slice false o i) (fun r s₃=>wpAny (model prog w) A (letTemporaryGo value o r >>= fun _=>pure r) Q E s₃) E s₂:=by
  rw[hs o i]
  exact wpAny_operating (wpAny_mono h₂ (fun r s₃ h₃=>wpAny_bind (wpAny_letTemporaryGo (wpAny_pure h₃))) fun _ _ x=>x)
 first
  | exact wpAny_pure (wpAny_bind fin)
  | exact wpAny_bind (wpAny_pure (wpAny_bind fin))
  | exact wpAny_bind fin
theorem zgT {X:Cx}{pins:List (Addr×Obj)}{σ:St}{H:Hp}{s:Shared}{a:Addr}{y:V}{o:Option V} (I:Inv X pins σ H s) (g:zgF H a y o):s.TypeIs (.ref a) "dict":=by
 rcases g with⟨kvs,k,e,_,_⟩|⟨kvs,k,b,e,_,_,_⟩
 ·obtain⟨_,_,vs,_,dd⟩:=zgR I.hok e
  exact dd.typeIs
 ·obtain⟨_,_,xs,_,dd⟩:=zhU I.hok e
  exact dd.typeIs
def tDGet (td ty:TE):TE:=fun σ H Q=>td σ H fun x H1=>ty σ H1 fun y H2=>∃ a v,x=.ref a∧zgF H2 a y (some v)∧Q v H2
def tDIn (ty td:TE):TE:=fun σ H Q=>ty σ H fun y H1=>td σ H1 fun x H2=>∃ a o,x=.ref a∧zgF H2 a y o∧Q (.bl o.isSome) H2
def zle (ty td:TE):TE:=fun σ H Q=>ty σ H fun y H1=>td σ H1 fun x H2=>∃ a o,x=.ref a∧zgF H2 a y o∧Q (.bl (!o.isSome)) H2
def sDPut (td ty tv:TE):TS:=fun D σ H=>tv σ H fun v H1=>td σ H1 fun x H2=>ty σ H2 fun y H3=>∃ a H4,x=.ref a∧zkG H3 a y v H4∧D.nx σ H4
section
variable {X:Cx}{o i e value:Expr}{pos pos' tpos:Pos}{td ty tv:TE}
theorem zb3 (hu:X.A.units + 1<cLine) (ho:PE X o td) (hi:PE X i ty) (hs:NoSl i):PE X (.Subscript o i pos) (tDGet td ty):=by
 intro pins s σ H Q I h
 refine ziG PySem.F.slot_dict_getitem.lookup hs (thn (ho pins s σ H _ I h) fun u s1=>L2.ex5 fun x H1 I1 rx q1=>thn (hi pins s1 σ H1 _ I1 q1) fun iv s2=>L2.ex5 fun y H2 I2 ry hq_=>?_)
 obtain⟨a,v,ex,g,q2⟩:=hq_
 subst ex
 obtain rfl:u=Value.ref a:=rx
 exact⟨zgT I2 g,ziE hu I2 g ry fun w' s3 I3 rw'=>⟨v,H2,I3,rw',q2⟩⟩
theorem pc_din (hu:X.A.units + 1<cLine) (hi:PE X i ty) (ho:PE X o td):PC X .In i o (tDIn ty td):=by
 intro pins s σ H Q I h
 refine thn (hi pins s σ H _ I h) fun iv s1=>L2.ex5 fun y H1 I1 ry q1=>thn (ho pins s1 σ H1 _ I1 q1) fun u s2=>L2.ex5 fun x H2 I2 rx hq_=>?_
 obtain⟨a,ov,ex,g,q2⟩:=hq_
 subst ex
 obtain rfl:u=Value.ref a:=rx
 exact d_in hu I2 g ry fun s3 I3=>⟨.bl ov.isSome,H2,I3,rfl,q2⟩
theorem ziH (hu:X.A.units + 1<cLine) (hi:PE X i ty) (ho:PE X o td):PC X .NotIn i o (zle ty td):=by
 intro pins s σ H Q I h
 refine thn (hi pins s σ H _ I h) fun iv s1=>L2.ex5 fun y H1 I1 ry q1=>thn (ho pins s1 σ H1 _ I1 q1) fun u s2=>L2.ex5 fun x H2 I2 rx hq_=>?_
 obtain⟨a,ov,ex,g,q2⟩:=hq_
 subst ex
 obtain rfl:u=Value.ref a:=rx
 exact zld hu I2 g ry fun s3 I3=>⟨.bl (!ov.isSome),H2,I3,rfl,q2⟩
theorem zfp (hu:X.A.units + 1<cLine) (ho:PE X o td) (hi:PE X i ty) (hv:PE X value tv) (hs:swapsWith value (some (.Subscript o i pos')) pos.line X.env=pure false) :
  PS X (.Assign [.Subscript o i pos'] value pos) (sDPut td ty tv):=by
 intro pins s σ H D I h
 refine wpAny_Assign_Subscript (thn (hv pins s σ H _ I h) fun r s1=>L2.ex5 fun v H1 I1 rv q1=>thn (ho pins s1 σ H1 _ I1 q1) fun u s2=>L2.ex5 fun x H2 I2 rx q2=>thn (hi pins s2 σ H2 _ I2 q2) fun iv s3=>L2.ex5 fun y H3 I3 ry hq_=>?_) hs
 obtain⟨a,H4,ex,g,q3⟩:=hq_
 subst ex
 obtain rfl:u=Value.ref a:=rx
 exact ziF hu I3 g ry rv fun s4 I4=>⟨σ,H4,I4,q3⟩
end
theorem zj5 {P:Program}{w:World}{H:Hp} (h:Heap) (hb:sysModules<h.objs.size):zbw P w H (h.push { cls:=.type "dict",data:=.dict #[] }) h.objs.size (.dK []):=
 ⟨Nat.zero_le _,beq_eq_false_iff_ne.mpr (Ne.symm (Nat.ne_of_lt hb)),[],.nil,Heap.DictOf.new h⟩
def tDNewK:TE:=fun _ H Q=>∀ p,H p=none→Q (.ref p) (upd H p (.dK []))
section
variable {X:Cx}{pos:Pos}
theorem zde:PE X (.Dict [] [] pos) tDNewK:=fun pins s σ H Q I h=>
 wpAny_Dict_empty ⟨.ref s.heap.objs.size,_,I.laid (a:=s.heap.objs.size) (o:=.dK []) (t':=s.toks) (fun _ _ q=>Heap.get?_push_of_some _ q) (Nat.le_refl _) (zj5 s.heap I.big),rfl,h _ (I.hok.fresh (Nat.le_refl _))⟩
end
structure M1 (X:Cx) (o:Expr) (m:Str) (apos:Pos) (e:Expr) (cpos:Pos):Prop where
 base:attributeBase o m X.env (eval o X.env)=eval o X.env
 few:((backTo cpos (starEach [e] X.env)).all (fun x=>!x.1) && (backToKw cpos (keywordEach [] X.env)).all (fun x=>x.1.isSome)
  && decide (([e]:List Expr).length + ([]:List Keyword).length + (if ([]:List Keyword).isEmpty then 0 else 1)<30))=true
 line:(apos.endLine == cpos.line)=true
 trees:backTo cpos (starEach [e] X.env)=[(false,eval e X.env)]
structure M2 (X:Cx) (o:Expr) (m:Str) (apos:Pos) (e f:Expr) (cpos:Pos):Prop where
 base:attributeBase o m X.env (eval o X.env)=eval o X.env
 few:((backTo cpos (starEach [e,f] X.env)).all (fun x=>!x.1) && (backToKw cpos (keywordEach [] X.env)).all (fun x=>x.1.isSome)
  && decide (([e,f]:List Expr).length + ([]:List Keyword).length + (if ([]:List Keyword).isEmpty then 0 else 1)<30))=true
 line:(apos.endLine == cpos.line)=true
 trees:backTo cpos (starEach [e,f] X.env)=[(false,eval e X.env),(false,eval f X.env)]
def IsD (H:Hp) (a:Addr):Prop:=(∃ kvs,Rd H a (.dK kvs))∨∃ kvs,Rd H a (.dT kvs)
theorem isD_at {X:Cx}{pins:List (Addr×Obj)}{σ:St}{H:Hp}{s:Shared}{a:Addr} (I:Inv X pins σ H s) (d:IsD H a) :
  s.TypeIs (.ref a) "dict"∧(∀ b,Value.ref a=.ref b→∃ ob,s.heap.get? b=some ob∧ob.dict=none)∧(a == sysModules)=false:=by
 rcases d with⟨kvs,e⟩|⟨kvs,e⟩
 ·obtain⟨_,hd,vs,_,dd⟩:=zgR I.hok e
  refine⟨dd.typeIs,fun b q=>?_,hd⟩
  cases q
  obtain⟨ob,_,_,h1,h2,_⟩:=dd
  exact⟨ob,h1,h2.2.1⟩
 ·obtain⟨_,hd,xs,_,dd⟩:=zhU I.hok e
  refine⟨dd.typeIs,fun b q=>?_,hd⟩
  cases q
  obtain⟨ob,_,_,h1,h2,_⟩:=dd
  exact⟨ob,h1,h2.2.1⟩
section
variable {X:Cx}{pins:List (Addr×Obj)}{σ:St}{H:Hp}{s:Shared}{a:Addr}{y d:V}{u r:Value}{o:Option V}{A:Around}{E:Value→Shared→Prop}
end
def tDPop1 (td ty:TE):TE:=fun σ H Q=>td σ H fun x H1=>∃ a,x=.ref a∧IsD H1 a∧ty σ H1 fun y H2=>∃ kvs k v,H2 a=some (.dK kvs)∧y=kV k∧zco kvs k=some v∧Q v (upd H2 a (.dK (zdc kvs k)))
section
variable {X:Cx}{o e f:Expr}{apos cpos:Pos}{td ty tx:TE}
theorem zho (ho:PE X o td) (he:PE X e ty) (m:M1 X o "pop" apos e cpos):PE X (.Call (.Attribute o "pop" apos) [e] [] cpos) (tDPop1 td ty):=by
 intro pins s σ H Q I h
 refine wpAny_Call_method m.base m.few m.line PySem.F.plainAttrs_dict PySem.F.slot_dict_pop PySem.F.type_dict_pop (thn (ho pins s σ H _ I h) fun u s1=>L2.ex5 fun x H1 I1 rx hq_=>?_)
 obtain⟨a,ex,d,q1⟩:=hq_
 subst ex
 obtain rfl:u=Value.ref a:=rx
 obtain⟨t1,t2,_⟩:=isD_at I1 d
 refine⟨t1,t2,?_⟩
 rw[m.trees]
 refine Calls.callWith_builtin rfl (Calls.evalArgs_plain (Calls.spliced_cons (thn (he pins s1 σ H1 _ I1 q1) fun iv s2 ⟨y,H2,I2,ry,kvs,k,v,ea,ey,l,q2⟩=>Calls.spliced_nil ?_)))
 subst ey
 exact d_pop I2 ea ry l (.inl rfl) fun w' s3 I3 rw'=>⟨v,_,I3,rw',q2⟩
end
section
variable {X:Cx}{pins:List (Addr×Obj)}{σ:St}{H:Hp}{s:Shared}{a:Addr}{kvs:List (Key×V)}{A:Around}{E:Value→Shared→Prop}
end
section
variable {X:Cx}{pins:List (Addr×Obj)}{σ:St}{H:Hp}{s:Shared}{a:Addr}{y:V}{u:Value}{A:Around}{E:Value→Shared→Prop}
end
end L2
namespace Att
open PySem PySem.W PySem.Calls PyProof.Rows
theorem zeq {P:Params}{h:Heap}:∀ (ns:List Int) (vs:List Value),WellAll P h vs (ns.map WData.int)→IntsAre vs ns:=by
 intro ns
 induction ns with
 | nil=>
  intro vs w
  rw[List.map_nil] at w
  cases w
  exact .nil
 | cons n ns ih=>
  intro vs w
  rw[List.map_cons] at w
  cases w with
  | cons a b=>
   cases a
   exact .cons _ _ (ih _ b)
theorem ziI {l:OpenLaw}{n:Nat} (hn:l.most=some n){P:Params}{h:Heap}{args:List WData}{vals:List Value}
  (hpre:l.row.toRowW.claim.pre args=true) (hwl:WellAll P h vals args) :
  ∃ a vs ns,vals=[Value.ref a]∧args=[WData.list (ns.map WData.int)]∧h.get? a=some { cls:=.type "list",data:=.seq vs.toArray }∧IntsAre vs ns∧ns.length≤n:=by
 have hsh:WShape.hasAll [] args [.list .int]=true:=(pre_splitW hpre).1
 have hc:l.pre.holds [] { args:=args }=true:=(pre_splitW hpre).2
 obtain⟨d,r,rfl,h1,h2⟩:=hasAllW_cons hsh
 obtain rfl:=hasAllW_nil h2
 obtain⟨xs,rfl,h3⟩:=hasW_list h1
 obtain⟨ns,rfl⟩:=items_int h3
 have hlen:ns.length≤n:=by
  unfold OpenLaw.pre at hc
  have h4:(WTm.not (.lt (.lit (.int (n:Int))) (.len (.arg 0)))).holds [] { args:=[.list (ns.map .int)] }=true:=by
   have h4:=(holds_andW hc).1
   rw[hn] at h4
   exact h4
  have h5:=condW_of h4 (w_not (w_lt w_lit (w_len_list (w_arg rfl))))
  rw[List.length_map] at h5
  refine Nat.le_of_not_lt fun q=>?_
  have q':(n:Int)<((ns.length:Nat):Int):=by omega
  first
   | (rw[decide_eq_true q'] at h5;exact absurd h5 (by decide))
   | (simp at h5;omega)
 cases hwl with
 | cons w1 w2=>
  cases w2
  cases w1 with
  | list ho hall=>exact⟨_,_,ns,rfl,rfl,ho,zeq ns _ hall,hlen⟩
theorem ziJ (l:OpenLaw) (args:List WData):l.row.toRowW.claim.post args (.bool true) args=true:=
 postW_of (r:=l.row.toRowW) (X:=(true == true))
  (show WShape.has [] (.bool true) .bool=true by first|rfl|decide|simp[WShape.has,WShape.arms,WShape.armsAll])
  (show(WTm.eq .res (.lit (.bool true))).value [] { args:=args,res:=some (.bool true),after:=args }=some (.bool (true == true)) from w_eq_bool (w_res rfl) w_lit) rfl
theorem zgU {l:OpenLaw}{n:Nat}{q:Program}{loose:List Str}{XP:(Str→Option Value)→Heap→Prop}{YP:World→Heap→Prop}{d:DefRec}
  (hn:l.most=some n) (hdf:d.params.defaults=[])
  (call:∀ (w:World) (s₀ s₁:Shared) (mg mb:Str→Option Value) (fa:Addr) (o:Obj) (pm cd doc:Value) (a:Addr) (vs:List Value) (ns:List Int),
   Ground q loose [] XP w s₀ mg mb s₁.heap→YP w s₁.heap →
   s₁.heap.get? fa=some o→o.data=.func (docDef d.name d.params d.body d.scope pm cd doc)→s₁.heap.CodeRec cd d.name→mg d.name=some (.ref fa) →
   s₁.heap.get? a=some { cls:=.type "list",data:=.seq vs.toArray }→IntsAre vs ns→ns.length≤n→s₁.gens=#[] →
   codeAny (model l.prog w) callerA (.call (.ref fa) ⟨[.ref a],[]⟩) (fun r s'=>r=.ok (.ret (.bool true))∧OldK s₁.heap s'.heap∧s'.os=s₁.os∧AllBare s'.gens) s₁) :
  WalkO q loose XP YP l.row.toRowW d [] (fun f vs=>PySem.call f vs):=by
 intro w s₀ s₁ mg mb G Y fa o pm cd doc dV kV ho hd hcd hD hmg hg args vals as hpre hlay hrd hwl hlo
 obtain rfl:dV=.none:=Dflts.none hD hdf
 obtain rfl:kV=.none:=Dflts.noKw hD
 obtain⟨a,vs,ns,rfl,rfl,hobj,hints,hlen⟩:=ziI hn hpre hwl
 refine enter_call (codeAny_mono (call w s₀ s₁ mg mb fa o pm cd doc a vs ns G Y ho (fd_plain hd) hcd hmg hobj hints hlen hg) fun r s' hq=>?_)
 obtain⟨rfl,h2,h3,h4⟩:=hq
 exact⟨.inl ⟨.bool true,.bool true,[],rfl,fun _=>rfl,.bool true,ziJ l _,fun _=>⟨List.Pairwise.nil,fun _ hm=>(nomatch hm)⟩⟩,h2,h3,h4⟩
section
variable {prog:Program}{w:World}{A:Around}{E:Value→Shared→Prop}{s:Shared}{K:Frag}
end
end Att
namespace L2
open PySem PySem.Spec PyProof.Rows
theorem zgd:∀ {vs:List Value}{ns:List Int},IntsAre vs ns→zaX (ns.map V.int) vs
 | _,_,.nil=>.nil
 | _,_,.cons n t h=>.cons ⟨t,rfl⟩ (zgd h)
end L2
namespace L2
open PySem PySem.Spec PyProof.Rows
end L2
namespace L2
open PySem PySem.Spec PyProof.Rows
def zba (s:Stmt) (j:Nat):Stmt:=match s with
 | .ClassDef _ _ _ body _ _ _ _ _ _ _=>body.getD j (.Pass ⟨0,0,0,0⟩)
 | _=>.Pass ⟨0,0,0,0⟩
def zc0 (s:Stmt):Arguments:=match s with
 | .FunctionDef _ a _ _ _ _ _ _ _ _=>a
 | _=>{ posonlyargs:=[],args:=[],vararg:=none,kwonlyargs:=[],kw_defaults:=[],kwarg:=none,defaults:=[] }
def zch (s:Stmt):List Stmt:=match s with
 | .FunctionDef _ _ b _ _ _ _ _ _ _=>b
 | _=>[]
def zah (s:Stmt):Scope:=match s with
 | .FunctionDef _ _ _ _ _ _ sc _ _ _=>sc
 | _=>{ kind:=.function,names:=[],isGenerator:=false,isCoroutine:=false }
abbrev CX0:CXT:=fun _ _ _ _ _ _=>False
abbrev E0:XK:=fun _ _ _=>False
theorem zlf {X:Cx}:zdO CX0 X E0:=fun _ _ _ _ _ _ _ h=>h.elim
structure Fun (K:PySem.W.Frag) (x qual:Str) (st:Stmt) (f:Addr) (fd:FuncData):Prop where
 ex:∃ (oc:Value) (od:Option Addr) (kV doc pm:Value) (an:Option Addr) (cdv ct:Value) (osl:Array (Option Value)),
  fd=PySem.W.fnOf x qual (zc0 st) (zch st) (zah st) .none kV doc pm an cdv ct∧K.lookup f=some ⟨oc,od,.func fd,osl⟩∧PySem.W.codeIn K cdv qual=true
 kp:PySem.W.keepIn K (.ref f)=true
section
variable {P:Program}{w:World}{K:PySem.W.Frag}{mg:Str→Option Value}{base:Heap}
end
theorem zcL {A:Around}{k:Nat} (hr:zcJ k A):A.units + 1<cLine:=Nat.lt_of_le_of_lt (Nat.add_le_add_left (by decide:1≤64) _) hr.units
section
variable {X:Cx}
theorem pv (i:Nat){x:Str}{pos:Pos} (hN:X.N[i]?=some x:=by rfl) (hv:Vis X.env.scope x:=by first|exact Or.inl rfl|exact Or.inr (Or.inl rfl)|exact Or.inr (Or.inr rfl)) (hd:(x == ("__debug__":Str))=false:=by decide)
  (hcd:(x == ("__classdict__":Str))=false:=by decide):PE X (.Name x pos) (tVar i):=pe_var hN hv hd hcd
theorem zer:zdx X (.builtin "len") (fun xs H Q=>∃ a kvs,xs=[V.ref a]∧H a=some (.dK kvs)∧Q (.int kvs.length) H):=by
 intro pins s σ H xs us Q I r h
 obtain⟨a,kvs,rfl,ha,q⟩:=h
 obtain⟨u,rfl,ru⟩:=zda r
 cases ru
 exact d_len I (.inl ha) fun t s' I'=>⟨.int kvs.length,H,I',⟨t,rfl⟩,q⟩
end
theorem zlg {A B:Prop} (h:B):if false=true then A else B:=by
 rw[if_neg Bool.false_ne_true]
 exact h
theorem ziK {A B:Prop} (h:A):if true=true then A else B:=by
 rw[if_pos rfl]
 exact h
def zan (H H':Hp):Prop:=∀ b o,H b=some o→H' b=some o
theorem zan.refl (H:Hp):zan H H:=fun _ _ h=>h
theorem zan.trans {H H1 H2:Hp} (a:zan H H1) (b:zan H1 H2):zan H H2:=fun c o h=>b c o (a c o h)
theorem zan.seq {K:PySem.W.Frag}{H H':Hp}{a:Addr}{xs:List V} (e:zan H H') (h:SqL K H a xs):SqL K H' a xs:=by
 rcases h with(h|⟨o,h⟩)|h
 ·exact .inl (.inl (e _ _ h))
 ·exact .inl (.inr ⟨o,e _ _ h⟩)
 ·exact .inr h
section
variable {κ:Type} [DecidableEq κ]
theorem zj6 {kvs:List (κ×V)}{k:κ} (h:zco kvs k=none):¬ k∈kvs.map (·.1):=by
 intro m
 obtain⟨p,hp,e⟩:=List.mem_map.mp m
 have q:(kvs.any fun kv=>decide (kv.1=k))=true:=List.any_eq_true.mpr ⟨p,hp,decide_eq_true e⟩
 rw[zdd,h] at q
 exact absurd q (by simp)
theorem zgV {kvs:List (κ×V)}{k:κ}{v:V} (h:zco kvs k=some v):k∈kvs.map (·.1):=by
 have q:(kvs.any fun kv=>decide (kv.1=k))=true:=by
  rw[zdd,h]
  all_goals rfl
 obtain⟨p,hp,e⟩:=List.any_eq_true.mp q
 exact List.mem_map.mpr ⟨p,hp,of_decide_eq_true e⟩
theorem ziL {p:κ×V}{r:List (κ×V)}{k:κ} (e:p.1=k):zdc (p::r) k=zdc r k:=by
 unfold zdc
 rw[List.filter_cons,if_neg (by simp[e])]
theorem ziM {p:κ×V}{r:List (κ×V)}{k:κ} (e:¬ p.1=k):zdc (p::r) k=p::zdc r k:=by
 unfold zdc
 rw[List.filter_cons,if_pos (by simp[e])]
end
end L2
namespace L2
open PySem PySem.Spec PyProof.Rows
def zcM (cells:List (Str×Addr)):List (Str×NameKind)→List (Str×Addr)→List (Str×Addr)
 | [],acc=>acc
 | (n,k)::r,acc=>zcM cells r (if (k == NameKind.free)=true then(n,(cells.lookup n).getD 0)::acc else acc)
theorem zcz {scope:Scope}{env:Env} (h:∀ y∈scope.names,y.2=.free→(env.cells.lookup y.1).isSome=true) :
  closureFor scope env=pure (zcM env.cells scope.names []):=by
 simp only[closureFor]
 generalize scope.names=l at h ⊢
 generalize ([]:List (Str×Addr))=acc
 induction l generalizing acc with
 | nil=>rfl
 | cons x r ih=>
  obtain⟨n,k⟩:=x
  have hr:=fun y hy=>h y (List.mem_cons_of_mem _ hy)
  by_cases hk:k=.free
  ·subst hk
   obtain⟨c,hc⟩:=Option.isSome_iff_exists.mp (h (n,.free) List.mem_cons_self rfl)
   have ih':=ih hr ((n,c)::acc)
   simp only[List.forIn_cons,cellOf,hc,zcM,beq_self_eq_true,if_true,Option.getD_some] at ih' ⊢
   exact ih'
  ·have hb:(k == NameKind.free)=false:=by simpa using hk
   have ih':=ih hr acc
   simp only[List.forIn_cons,zcM,hb,Bool.false_eq_true,if_false] at ih' ⊢
   exact ih'
theorem zd5 {cells:List (Str×Addr)}{x:Str}{c:Addr}:∀ {l:List (Str×NameKind)}{acc:List (Str×Addr)},(∀ y∈l,y.2=.free→(cells.lookup y.1).isSome=true) →
  (zcM cells l acc).lookup x=some c→acc.lookup x=some c∨cells.lookup x=some c
 | [],_,_,h=>.inl h
 | (n,k)::r,acc,hf,h=>by
  have hr:∀ y∈r,y.2=.free→(cells.lookup y.1).isSome=true:=fun y hy=>hf y (List.mem_cons_of_mem _ hy)
  by_cases hk:k=.free
  ·subst hk
   rcases zd5 (l:=r) hr (show(zcM cells r ((n,(cells.lookup n).getD 0)::acc)).lookup x=some c from h) with q|q
   ·rw[List.lookup_cons] at q
    by_cases hx:x=n
    ·subst hx
     rw[beq_self_eq_true] at q
     obtain⟨c',hc⟩:=Option.isSome_iff_exists.mp (hf (x,.free) List.mem_cons_self rfl)
     have hc:cells.lookup x=some c':=hc
     rw[hc] at q ⊢
     exact .inr q
    ·rw[beq_eq_false_iff_ne.mpr hx] at q
     exact .inl q
   ·exact .inr q
  ·have hb:¬ (k == NameKind.free)=true:=by simpa using hk
   have h':(zcM cells r (if (k == NameKind.free)=true then(n,(cells.lookup n).getD 0)::acc else acc)).lookup x=some c:=h
   rw[if_neg hb] at h'
   exact zd5 hr h'
theorem zes {cells:List (Str×Addr)}{x:Str}:∀ {l:List (Str×NameKind)}{acc:List (Str×Addr)},((x,NameKind.free)∈l∨(acc.lookup x).isSome=true)→((zcM cells l acc).lookup x).isSome=true
 | [],_,h=>by
  rcases h with h|h
  ·cases h
  ·exact h
 | (n,k)::r,acc,h=>by
  show((zcM cells r (if (k == NameKind.free)=true then(n,(cells.lookup n).getD 0)::acc else acc)).lookup x).isSome=true
  refine zes ?_
  rcases h with h|h
  ·rcases List.mem_cons.mp h with e|e
   ·cases e
    right
    rw[if_pos (by rfl),List.lookup_cons,beq_self_eq_true]
    rfl
   ·exact .inl e
  ·right
   by_cases hb:(k == NameKind.free)=true
   ·rw[if_pos hb,List.lookup_cons]
    cases hx:x == n with
    | true=>rfl
    | false=>exact h
   ·rw[if_neg hb]
    exact h
theorem zet (c:Bool){n x:Str}{k:NameKind}{r:List (Str×NameKind)} (hx:(x == n)=true):((if c=true then(n,NameKind.cell) else(n,k))::r).lookup x=some (if c=true then .cell else k):=by
 cases c <;> simp[List.lookup_cons,hx]
theorem zge (c:Bool){n x:Str}{k:NameKind}{r:List (Str×NameKind)} (hx:(x == n)=false):((if c=true then(n,NameKind.cell) else(n,k))::r).lookup x=r.lookup x:=by
 cases c <;> simp[List.lookup_cons,hx]
theorem zdP {env:Env}:∀ {names:List (Str×NameKind)}{x:Str},names.lookup x=some .free →
  (names.map fun(n,k)=>if (k == NameKind.free && env.scope.kind == .function && env.kindOf n == some .cell) then(n,NameKind.cell) else(n,k)).lookup x=some .cell ∨
  (names.map fun(n,k)=>if (k == NameKind.free && env.scope.kind == .function && env.kindOf n == some .cell) then(n,NameKind.cell) else(n,k)).lookup x=some .free
 | [],_,h=>by simp at h
 | (n,k)::r,x,h=>by
  have ih:=@zdP env r x
  rw[List.lookup_cons] at h
  rw[List.map_cons]
  cases hx:x == n with
  | true=>
   rw[hx] at h
   cases h
   dsimp only
   rw[zet _ hx]
   cases (NameKind.free == NameKind.free && env.scope.kind == .function && env.kindOf n == some .cell) with
   | true=>exact .inl rfl
   | false=>exact .inr rfl
  | false=>
   rw[hx] at h
   dsimp only
   rw[zge _ hx]
   exact ih h
theorem zcA {env:Env}:∀ {names:List (Str×NameKind)}{x:Str}{k':NameKind},(k'=.cell∨k'=.free) →
  (names.map fun(n,k)=>if (k == NameKind.free && env.scope.kind == .function && env.kindOf n == some .cell) then(n,NameKind.cell) else(n,k)).lookup x=some k' →
  ∃ k,(k=.free∨k=.cell)∧(x,k)∈names
 | [],_,_,_,h=>by simp at h
 | (n,k)::r,x,k',hk,h=>by
  have ih:=@zcA env r x k' hk
  rw[List.map_cons] at h
  dsimp only at h
  cases hx:x == n with
  | true=>
   have e:x=n:=eq_of_beq hx
   subst e
   rw[zet _ hx] at h
   cases hc:(k == NameKind.free && env.scope.kind == .function && env.kindOf x == some .cell) with
   | true=>
    simp only[Bool.and_eq_true,beq_iff_eq] at hc
    obtain⟨⟨rfl,_⟩,_⟩:=hc
    exact⟨.free,.inl rfl,List.mem_cons_self⟩
   | false=>
    rw[hc] at h
    have h:some k=some k':=h
    cases h
    rcases hk with rfl|rfl
    ·exact⟨_,.inr rfl,List.mem_cons_self⟩
    ·exact⟨_,.inl rfl,List.mem_cons_self⟩
  | false=>
   rw[zge _ hx] at h
   obtain⟨k2,h1,h2⟩:=ih h
   exact⟨k2,h1,List.mem_cons_of_mem _ h2⟩
def zb8 (X:Cx) (scope:Scope) (cl:List (Str×Addr)) (C:Addr) (N:List Str) (s:Shared) (H:Hp) (fp:List Addr) (pins:List (Addr×Obj)):Cx:=
 { X with N:=N,s₀:=s,H₀:=H,env:=compEnvC scope cl C X.env,outer:=X.stack,stack:=X.stack,ex:=fp,fn:=fun _=>false,pn:=X.pn++pins,xe:=fun _ _=>False }
def zlU (cap:List (Option Nat)) (σ:St):St:=cap.map fun o=>o.bind fun j=>(σ[j]?).join
def isCF:Option NameKind→Bool
 | some .cell=>true
 | some .free=>true
 | _=>false
def zc1 (sc:Scope) (XN:List Str):List (Option Nat)→List Str→Bool
 | [],[]=>true
 | some j::r,x::xs=>(XN[j]? == some x) && (sc.names.lookup x == some NameKind.free) && zc1 sc XN r xs
 | none::r,_::xs=>zc1 sc XN r xs
 | _,_=>false
def zdB (osc sc:Scope) (XN N:List Str) (cap:List (Option Nat)):Bool:=
 (sc.kind == ScopeKind.function) && sc.names.all (fun y=>y.2 != NameKind.cell) && sc.names.all (fun y=>y.2 != NameKind.local || sc.names.lookup y.1 == some NameKind.local) &&
 sc.names.all (fun y=>y.2 != NameKind.free || isCF (osc.names.lookup y.1)) && zc1 sc XN cap N
theorem zeu {sc:Scope}{XN:List Str}:∀ {cap:List (Option Nat)}{N:List Str},zc1 sc XN cap N=true→cap.length=N.length
 | [],[],_=>rfl
 | some _::r,_::xs,h=>by
  simp only[zc1,Bool.and_eq_true] at h
  simp[zeu h.2]
 | none::r,_::xs,h=>by
  simp only[zc1] at h
  simp[zeu h]
 | [],_::_,h=>by simp[zc1] at h
 | some _::_,[],h=>by simp[zc1] at h
 | none::_,[],h=>by simp[zc1] at h
theorem zev {sc:Scope}{XN:List Str}:∀ {cap:List (Option Nat)}{N:List Str}{i j:Nat}{x:Str},zc1 sc XN cap N=true→cap[i]?=some (some j)→N[i]?=some x→XN[j]?=some x∧sc.names.lookup x=some .free
 | [],_,i,_,_,_,h,_=>by simp at h
 | some _::r,y::xs,0,j,x,h,h1,h2=>by
  simp only[zc1,Bool.and_eq_true,beq_iff_eq] at h
  simp at h1 h2
  subst h1;subst h2
  exact⟨h.1.1,h.1.2⟩
 | some _::r,y::xs,i + 1,j,x,h,h1,h2=>by
  simp only[zc1,Bool.and_eq_true] at h
  exact zev (i:=i) h.2 (by simpa using h1) (by simpa using h2)
 | none::r,y::xs,0,j,x,h,h1,h2=>by simp at h1
 | none::r,y::xs,i + 1,j,x,h,h1,h2=>by
  simp only[zc1] at h
  exact zev (i:=i) h (by simpa using h1) (by simpa using h2)
 | some _::_,[],_,_,_,h,_,_=>by simp[zc1] at h
 | none::_,[],_,_,_,h,_,_=>by simp[zc1] at h
section
variable {X:Cx}{pins:List (Addr×Obj)}{σ:St}{H:Hp}{s:Shared}{scope:Scope}{N:List Str}{cap:List (Option Nat)}{fp:List Addr}
theorem Inv.clos (I:Inv X pins σ H s) (ok:zdB X.env.scope scope X.N N cap=true):∀ y∈scope.names,y.2=.free→(X.env.cells.lookup y.1).isSome=true:=fun y hy hf=>by
 simp only[zdB,Bool.and_eq_true,List.all_eq_true] at ok
 have h:=ok.1.2 y hy
 rw[hf] at h
 have h':isCF (X.env.scope.names.lookup y.1)=true:=by simpa using h
 have hk:X.env.kindOf y.1=some .cell∨X.env.kindOf y.1=some .free:=by
  show X.env.scope.names.lookup y.1=_∨X.env.scope.names.lookup y.1=_
  cases e:X.env.scope.names.lookup y.1 with
  | none=>rw[e] at h';cases h'
  | some k=>
   rw[e] at h'
   cases k <;> first|exact .inl rfl|exact .inr rfl|cases h'
 obtain⟨c,e⟩:=I.ok.has y.1 hk
 rw[e]
 rfl
theorem Inv.comp (I:Inv X pins σ H s) (ok:zdB X.env.scope scope X.N N cap=true) (f:∀ b∈fp,zef X pins H b) (fo:∀ b∈fp,∃ o,s.heap.get? b=some o){h₁:Heap}{tk:Nat}{fo':Obj}
  (hn:h₁.Ns (s.heap.push { cls:=.type "list",data:=.seq #[] }).objs.size (fun _=>none))
  (hs:Heap.SameBut (s.heap.push { cls:=.type "list",data:=.seq #[] }).objs.size ((s.heap.push { cls:=.type "list",data:=.seq #[] }).push fo') h₁) :
  Inv (zb8 X scope (zcM X.env.cells scope.names []) (s.heap.push { cls:=.type "list",data:=.seq #[] }).objs.size N { s with heap:=s.heap.push { cls:=.type "list",data:=.seq #[] } } (upd H s.heap.objs.size (.lst [])) fp pins)
   [] (zlU cap σ) (upd H s.heap.objs.size (.lst [])) { s with heap:=h₁,toks:=tk }:=by
 have okC:=ok
 simp only[zdB,Bool.and_eq_true,List.all_eq_true,beq_iff_eq] at ok
 obtain⟨⟨⟨⟨hkind,hcell⟩,_⟩,_⟩,hcap⟩:=ok
 have cl:=I.clos okC
 have hC:(s.heap.push { cls:=.type "list",data:=.seq #[] }).objs.size=s.heap.objs.size + 1:=Heap.size_push ..
 generalize hCC:(s.heap.push { cls:=.type "list",data:=.seq #[] }).objs.size=C at hn hs hC ⊢
 have below:∀ b o,s.heap.get? b=some o→b≠C∧b≠s.heap.objs.size:=fun b o e=>by
  have:=Heap.lt_size e
  exact⟨by rw[hC];exact Nat.ne_of_lt (Nat.lt_succ_of_lt this),Nat.ne_of_lt this⟩
 have old:∀ b o,s.heap.get? b=some o→h₁.get? b=some o:=fun b o e=>hs.extBut b o (below b o e).1 (Heap.get?_push_of_some _ (Heap.get?_push_of_some _ e))
 have up3:∀ b o,s.heap.get? b=some o→(s.heap.push { cls:=.type "list",data:=.seq #[] }).get? b=some o:=fun b o e=>Heap.get?_push_of_some _ e
 have old3:∀ b o,(s.heap.push { cls:=.type "list",data:=.seq #[] }).get? b=some o→h₁.get? b=some o:=fun b o e=>by
  have:b<C:=by rw[← hCC];exact Heap.lt_size e
  exact hs.extBut b o (Nat.ne_of_lt this) (Heap.get?_push_of_some _ e)
 have hD:H s.heap.objs.size=none:=I.hok.fresh (Nat.le_refl _)
 have free3:∀ b o,s.heap.get? b=some o→H b=none→upd H s.heap.objs.size (.lst []) b=none:=fun b o e n=>by rw[zaf (below b o e).2];exact n
 have hCn:upd H s.heap.objs.size (.lst []) C=none:=by
  rw[zaf (by rw[hC];exact Nat.ne_of_gt (Nat.lt_succ_self _))]
  exact I.hok.fresh (by rw[hC];exact Nat.le_succ _)
 have cellsIn:∀ x c,(zcM X.env.cells scope.names []).lookup x=some c→X.env.cells.lookup x=some c:=fun x c e=>by
  rcases zd5 cl e with q|q
  ·simp at q
  ·exact q
 have cellO:∀ x c,(zcM X.env.cells scope.names []).lookup x=some c→∃ v o,s.heap.IsCell c v∧s.heap.get? c=some o:=fun x c e=>by
  obtain⟨v,q⟩:=I.cell x c (cellsIn x c e)
  obtain⟨o,ho,_⟩:=id q
  exact⟨v,o,q,ho⟩
 have hok3:HOk X.prog X.w (upd H s.heap.objs.size (.lst [])) h₁:=I.hok.laid old (Nat.le_refl _) (show zbw X.prog X.w _ h₁ s.heap.objs.size (.lst []) from⟨Nat.zero_le _,[],0,.nil,old3 _ _ (Heap.get?_push_size _ rfl)⟩)
 have stkb:∀ b∈frs X.stack,∃ o,s.heap.get? b=some o:=fun b hb=>by
  obtain⟨_,o,ho,_⟩:=I.stack.mem hb
  exact⟨o,ho⟩
 refine⟨⟨I.ok.mod,hkind,I.ok.glob,I.ok.blt,Nat.le_of_eq hCC,fun y z c h1 h2=>I.ok.inj y z c (cellsIn y c h1) (cellsIn z c h2),fun y hy=>?_,fun y c hf _=>Bool.noConfusion hf,I.hdAt.new hD,I.ok.frames,.inl rfl,fun b hb=>?_,
   fun b o e=>⟨up3 b o (I.bs b o e).1,free3 b o (I.bs b o e).1 (I.bs b o e).2⟩,?_,fun b o e hb=>?_,fun b hb hb2=>?_,?_,fun b hb=>?_⟩,
  rfl,I.bare,Un.kept old3,⟨_,hn,fun i x v h1 h2 h3=>?_⟩,fun x c e=>?_,hCn,fun x c e=>?_,fun p hp=>?_,hok3,?_⟩
 ·-- has
  have hy:(relabel scope X.env).names.lookup y=some .cell∨(relabel scope X.env).names.lookup y=some .free:=hy
  have:(y,NameKind.free)∈scope.names:=by
   rcases hy with q|q
   ·obtain⟨k,hk,hm⟩:=zcA (.inl rfl) q
    rcases hk with rfl|rfl
    ·exact hm
    ·exact absurd (show(NameKind.cell != NameKind.cell)=true from hcell _ hm) (by decide)
   ·obtain⟨k,hk,hm⟩:=zcA (.inr rfl) q
    rcases hk with rfl|rfl
    ·exact hm
    ·exact absurd (show(NameKind.cell != NameKind.cell)=true from hcell _ hm) (by decide)
  exact Option.isSome_iff_exists.mp (zes (.inl this))
 ·-- exf
  obtain⟨o,e⟩:=fo b hb
  exact⟨(below b o e).1,fun x c q=>(f b hb).2.2.2.2.1 x c (cellsIn x c q)⟩
 ·-- bsz
  show X.base.objs.size≤(s.heap.push { cls:=.type "list",data:=.seq #[] }).objs.size
  rw[Heap.size_push]
  exact Nat.le_succ_of_le (Nat.le_trans I.ok.bsz I.sz)
 ·-- noex
  rcases(f b hb).2.2.2.1 with q|q
  ·exact I.ok.noex b o e q
  ·exact absurd (Nat.lt_of_lt_of_le (Heap.lt_size (I.ok.bs b o e).1) q) (Nat.lt_irrefl _)
 ·-- exfs
  rcases List.mem_cons.mp (I.stkSub b hb2) with q|q
  ·exact(f b hb).2.1 q
  ·exact(f b hb).2.2.1 q
 ·-- funs
  exact I.stack.of_keeps fun b o e _=>⟨o,up3 b o e,rfl⟩
 ·-- frf
  obtain⟨o,e⟩:=stkb b hb
  exact free3 b o e (I.stkFree b hb)
 ·-- loc
  have hi:∃ j,cap[i]?=some (some j)∧σ[j]?=some (some v):=by
   unfold zlU at h2
   rw[List.getElem?_map] at h2
   cases e:cap[i]? with
   | none=>rw[e] at h2;cases h2
   | some o=>
    rw[e] at h2
    cases o with
    | none=>cases h2
    | some j=>
     refine⟨j,rfl,?_⟩
     have h2':(σ[j]?).join=some v:=Option.some.inj h2
     cases e2:σ[j]? with
     | none=>rw[e2] at h2';cases h2'
     | some o2=>rw[e2] at h2';rw[show o2=some v from h2']
  obtain⟨j,hj,hv⟩:=hi
  obtain⟨hX,hfr⟩:=zev hcap hj h1
  have hmem:(x,NameKind.free)∈scope.names:=PySem.mem_of_lookup hfr
  have hcf:=okC
  simp only[zdB,Bool.and_eq_true,List.all_eq_true] at hcf
  have h':isCF (X.env.scope.names.lookup x)=true:=by simpa using hcf.1.2 _ hmem
  have hk:X.env.scope.names.lookup x=some .cell∨X.env.scope.names.lookup x=some .free:=by
   cases e:X.env.scope.names.lookup x with
   | none=>rw[e] at h';cases h'
   | some k=>
    rw[e] at h'
    cases k <;> first|exact .inl rfl|exact .inr rfl|cases h'
  obtain⟨m,_,hl⟩:=I.loc
  obtain⟨u,ru,lk⟩:=hl j x v hX hv (hk.elim (fun q=>.inr (.inl q)) fun q=>.inr (.inr q))
  refine⟨u,ru,.inr ⟨zdP hfr,?_⟩⟩
  rcases lk with⟨q,_⟩|⟨_,c,hc,hcell2⟩
  ·have q':X.env.scope.names.lookup x=some .local:=q
   rcases hk with z|z
   ·rw[z] at q';cases q'
   ·rw[z] at q';cases q'
  ·obtain⟨c',hc'⟩:=Option.isSome_iff_exists.mp (zes (cells:=X.env.cells) (acc:=[]) (.inl hmem))
   have:c'=c:=by
    have:=cellsIn x c' hc'
    rw[hc] at this
    exact(Option.some.inj this).symm
   subst this
   obtain⟨o,ho,hd⟩:=hcell2
   exact⟨c',hc',o,old c' o ho,hd⟩
 ·-- cell
  obtain⟨v,o,⟨o',ho,hd⟩,_⟩:=cellO x c e
  exact⟨v,o',old c o' ho,hd⟩
 ·-- freeC
  obtain⟨v,o,_,ho⟩:=cellO x c e
  exact free3 c o ho (I.freeC x c (cellsIn x c e))
 ·-- pins
  have hp':p∈X.pn++pins:=by simpa [zb8] using hp
  obtain⟨e,n,ne,nf,d⟩:=I.pin p hp'
  refine⟨old _ _ e,free3 _ _ e n,(below _ _ e).1,fun z=>?_,d⟩
  rcases List.mem_cons.mp (I.stkSub p.1 z) with q|q
  ·exact ne q
  ·exact nf q
 ·-- len
  show(zlU cap σ).length=N.length
  unfold zlU
  rw[List.length_map]
  exact zeu hcap
end
section
variable {prog:Program}{w:World}{A:Around}{R:Result→Shared→Prop}{s:Shared}
theorem zgW {elt target iter:Expr}{ifs:List Expr}{scope:Scope}{pos:Pos}{it acc:Value}{env:Env} (J:Nat→Shared→Prop)
  (turn:∀ n s,J n s→wpAny (model prog w) A (pyNext it) (fun r s₁=>match r with
   | none=>R (.ok .next) s₁
   | some v=>wpAny (model prog w) A (letOwnedTupleGo target it v) (fun _ s₂=>wpAny (model prog w) A (assign target env v) (fun _ s₃=>
     wpAny (model prog w) A (forIn ifs true fun c r=>if r=true then do let ok ← isTrue c env (eval c env);pure (ForInStep.yield ok) else pure (ForInStep.yield r)) (fun ok s₄=>
      if ok=true then wpAny (model prog w) A (eval elt env) (fun x s₅=>
       wpAny (model prog w) A (call (.builtin "list.append") [acc,x]) (fun _ s₆=>∃ m,m<n∧J m s₆) (fun _ _=>False) s₅) (fun _ _=>False) s₄
      else ∃ m,m<n∧J m s₄) (fun _ _=>False) s₃) (fun _ _=>False) s₂) (fun _ _=>False) s₁) (fun _ _=>False) s)
  (n:Nat) (h:J n s):codeAny (model prog w) A (.compLoop (.ListComp elt [⟨target,iter,ifs,0⟩] scope pos) 0 it acc env) R s:=by
 have no:∀ {E:Value→Shared→Prop} (e:Value) (s':Shared),(fun(_:Value) (_:Shared)=>False) e s'→E e s':=fun _ _ z=>z.elim
 refine codeAny_loop rfl J (fun n s hI=>?_) n h
 show wpAny _ A ((compTurn (.ListComp elt [⟨target,iter,ifs,0⟩] scope pos) 0 it acc env).onRaise (fun x=>do noteFrame x env;theTreesLotGoes x)) _ _ s
 refine wpAny_noted ?_
 rw[compTurn_list]
 refine wpAny_bind (wpAny_standAt (wpAny_bind (wpAny_mono (turn n s hI) (fun r s₁ h₁=>?_) no)))
 cases r with
 | none=>exact wpAny_pure h₁
 | some v=>
  refine wpAny_bind (wpAny_mono h₁ (fun _ s₂ h₂=>wpAny_bind (wpAny_mono h₂ (fun _ s₃ h₃=>wpAny_bind (wpAny_mono h₃ (fun ok s₄ h₄=>?_) no)) no)) no)
  cases ok with
  | false=>exact wpAny_pure ⟨rfl,h₄⟩
  | true=>
   exact wpAny_bind (wpAny_bind (wpAny_mono h₄ (fun x s₅ h₅=>wpAny_bind (wpAny_mono h₅ (fun _ s₆ h₆=>wpAny_pure (wpAny_pure ⟨rfl,h₆⟩)) no)) no))
end
def PIf (X:Cx) (cs:List Expr) (t:TT):Prop:=
 ∀ (pins:List (Addr×Obj)) (s:Shared) (σ:St) (H:Hp) (Q:Bool→Hp→Prop),Inv X pins σ H s→t σ H Q →
  wpAny (model X.prog X.w) X.A (forIn cs true fun c r=>if r=true then do let ok ← isTrue c X.env (eval c X.env);pure (ForInStep.yield ok) else pure (ForInStep.yield r)) (TP X pins σ Q) X.xe s
def zeT:TT:=fun _ H Q=>Q true H
theorem zaY {X:Cx}:PIf X [] zeT:=fun _ _ _ H _ I h=>wpAny_tests_nil ⟨H,I,h⟩
theorem zlh {X:Cx}{c:Expr}{t:TT} (h:PT X c t):PIf X [c] t:=fun pins s σ H Q I hq=>wpAny_tests_one (h pins s σ H Q I hq)
def zgX (J:It) (D:Addr) (τ:St) (H:Hp) (g:TG) (tt:TT) (te:TE) (Q:VK):Prop:=
 ∃ W:Nat→Nat→St→Hp→Prop,(∃ m,W 0 m τ H)∧∀ i m τ H,W i m τ H →
  (J.stop i H∧Q (.ref D) H)∨(J.go i H∧∃ M:St→Hp→Prop,(∀ τ' H',M τ' H'→∃ m',m'<m∧W (i + 1) m' τ' H')∧∀ x H',J.yld i H x H'→g x τ H' fun τ2 H2=>tt τ2 H2 fun b H3=>
   if b=true then te τ2 H3 fun y H4=>∃ ys,H4 D=some (.lst ys)∧ys.length<sizeLine∧M τ2 (upd H4 D (.lst (ys++[y]))) else M τ2 H3)
def tComp (wi:TI) (cap:List (Option Nat)) (g:TG) (tt:TT) (te:TE):TE:=fun σ H Q=>wi σ H fun J H1=>∀ D,H1 D=none→zgX J D (zlU cap σ) (upd H1 D (.lst [])) g tt te Q
section
variable {X:Cx}{elt tg iter:Expr}{ifs:List Expr}{scope:Scope}{pos:Pos}{N:List Str}{cap:List (Option Nat)}{wi:TI}{g:TG}{tt:TT}{te:TE}
theorem ze5 {pins:List (Addr×Obj)}{σ:St}{H:Hp}{s:Shared}{J:It}{fp:List Addr}{it:Addr}{tn:Nat→Heap→Prop}{Q:VK}{E:Value→Shared→Prop}{RR:Value→Addr→Result→Shared→Prop}
  (hc:X.calm=true) (ok:zdB X.env.scope scope X.N N cap=true)
  (hg:∀ cl C s H fp pins,PG (zb8 X scope cl C N s H fp pins) tg g) (hf:∀ cl C s H fp pins,PIf (zb8 X scope cl C N s H fp pins) ifs tt) (he:∀ cl C s H fp pins,PE (zb8 X scope cl C N s H fp pins) elt te)
  (I:Inv X pins σ H s) (T:zk0 X.prog X.w X.K tg J fp it tn) (st:tn 0 s.heap) (f:∀ b∈fp,zef X pins H b)
  (q:∀ D,H D=none→zgX J D (zlU cap σ) (upd H D (.lst [])) g tt te Q)
  (fin:∀ D C H' s' m,Inv X pins σ H' s'→zef X pins H' C→s'.heap.Ns C m→Q (.ref D) H'→RR (.ref D) C (.ok .next) s') :
  wpAny (model X.prog X.w) X.A (newList []) (fun acc s₃=>wpAny (model X.prog X.w) X.A (newFunctionEnv scope X.env.globals (zcM X.env.cells scope.names []) [] X.env.qual none .none (some X.env)) (fun cenv s₄=>
   codeAny (model X.prog X.w) X.A (.compStart (.ListComp elt [⟨tg,iter,ifs,0⟩] scope pos) 0 (.ref it) acc { cenv with scope:=relabel scope X.env }) (RR acc cenv.locals) s₄) E s₃) E s:=by
 have ok':=ok
 simp only[zdB,Bool.and_eq_true,List.all_eq_true,beq_iff_eq] at ok'
 obtain⟨⟨⟨⟨hkind,hcell⟩,_⟩,_⟩,hcap⟩:=ok'
 refine wpAny_newObj_type (wpAny_newFunctionEnv (fun y hy=>by simpa using hcell y hy) (by intro y hy;simp at hy) (fun h₁ hns₁ hsb₁=>?_) hkind)
 dsimp only at hns₁ hsb₁ ⊢
 have fo:∀ b∈fp,∃ o,s.heap.get? b=some o:=fun b hb=>let ⟨o,e,_⟩:=T.obj _ _ st b hb;⟨o,e⟩
 have J0:=I.comp (h₁:=h₁) (tk:=s.toks + ([]:List (Str×Value)).length) ok f fo hns₁ hsb₁
 have hDfree:H s.heap.objs.size=none:=I.hok.fresh (Nat.le_refl _)
 obtain⟨W,⟨m0,w0⟩,turn⟩:=q _ hDfree
 generalize hY:zb8 X scope (zcM X.env.cells scope.names []) (s.heap.push { cls:=.type "list",data:=.seq #[] }).objs.size N { s with heap:=s.heap.push { cls:=.type "list",data:=.seq #[] } } (upd H s.heap.objs.size (.lst [])) fp pins=Y at J0
 have below:∀ b∈fp,b<s.heap.objs.size:=fun b hb=>let ⟨o,e⟩:=fo b hb;Heap.lt_size e
 have cl:=I.clos ok
 have stat:∀ {H':Hp},(∀ b∈fp,H' b=none)→∀ b∈fp,zef Y [] H' b:=fun {H'} hn b hb=>by
  subst hY
  refine⟨hn b hb,?_,fun z=>?_,.inl hb,fun x c e=>?_,fun p hp=>?_⟩
  ·show b≠(s.heap.push { cls:=.type "list",data:=.seq #[] }).objs.size
   rw[Heap.size_push]
   exact Nat.ne_of_lt (Nat.lt_succ_of_lt (below b hb))
  ·rcases List.mem_cons.mp (I.stkSub b z) with q|q
   ·exact(f b hb).2.1 q
   ·exact(f b hb).2.2.1 q
  ·refine(f b hb).2.2.2.2.1 x c ?_
   rcases zd5 cl e with z|z
   ·simp at z
   ·exact z
  ·exact(f b hb).2.2.2.2.2 p (by simpa [zb8] using hp)
 have hgY:PG Y tg g:=hY ▸ hg _ _ _ _ _ _
 have hfY:PIf Y ifs tt:=hY ▸ hf _ _ _ _ _ _
 have heY:PE Y elt te:=hY ▸ he _ _ _ _ _ _
 have e1:Y.prog=X.prog:=by subst hY;rfl
 have e2:Y.w=X.w:=by subst hY;rfl
 have e3:Y.K=X.K:=by subst hY;rfl
 have e4:Y.calm=true:=by subst hY;exact hc
 have e5:Y.A=X.A:=by subst hY;rfl
 have e6:Y.env=compEnvC scope (zcM X.env.cells scope.names []) (s.heap.push { cls:=.type "list",data:=.seq #[] }).objs.size X.env:=by subst hY;rfl
 have e7:Y.xe=fun _ _=>False:=by subst hY;rfl
 have hfp0:∀ b∈fp,upd H s.heap.objs.size (.lst []) b=none:=fun b hb=>by rw[zaf (Nat.ne_of_lt (below b hb))];exact(f b hb).1
 have st0:tn 0 h₁:=T.keep _ _ _ st fun b hb o e=>hsb₁.extBut b o (by
  have:=below b hb
  rw[Heap.size_push]
  exact Nat.ne_of_lt (Nat.lt_succ_of_lt this)) (Heap.get?_push_of_some _ (Heap.get?_push_of_some _ e))
 have loop:∀ s₃:Shared,s₃={ s with heap:=h₁,toks:=s.toks + ([]:List (Str×Value)).length } →
   codeAny (model X.prog X.w) X.A (.compLoop (.ListComp elt [⟨tg,iter,ifs,0⟩] scope pos) 0 (.ref it) (.ref s.heap.objs.size)
    (compEnvC scope (zcM X.env.cells scope.names []) (s.heap.push { cls:=.type "list",data:=.seq #[] }).objs.size X.env)) (RR (.ref s.heap.objs.size) (s.heap.push { cls:=.type "list",data:=.seq #[] }).objs.size) s₃:=by
  rintro s₃ rfl
  refine zgW (fun n s'=>∃ i τ H',Inv Y [] τ H' s'∧tn i s'.heap∧(∀ b∈fp,H' b=none)∧W i n τ H') ?_ m0 ⟨0,_,_,J0,st0,hfp0,w0⟩
  rintro n s' ⟨i,τ,H',I',st',fr',w'⟩
  rcases turn i n τ H' w' with⟨stop,qn⟩|⟨go,M,hM,step⟩
  ·have z:=T.done Y e1 e2 e3 e4 i [] s' τ H' (fun _ _=>False) I' (stat fr') st' stop
   rw[e5] at z
   refine thn z fun r s4 ⟨hr,I4⟩=>?_
   subst hr
   subst hY
   obtain⟨m,hn4,_⟩:=I4.loc
   have ho:s4.os=s.os:=I4.os
   have un:Un (frs X.stack) fp H H' s.heap s4.heap:=by
    have u1:Un (frs X.stack) fp H (upd H s.heap.objs.size (.lst [])) s.heap (s.heap.push { cls:=.type "list",data:=.seq #[] }):=Un.laid (fun b u e=>Heap.get?_push_of_some _ e) (Nat.le_refl _) hDfree
    exact u1.trans I4.base
   have IX:Inv X pins σ H' s4:=I.call' ho un I4.hok I4.bare fun b hb=>⟨(f b hb).2.2.2.1,(f b hb).2.1,(f b hb).2.2.2.2.1,(f b hb).2.2.2.2.2⟩
   exact fin _ _ H' s4 m IX (I.fpOk (by rw[Heap.size_push];exact Nat.le_succ _) I4.free) hn4 qn
  ·have z:=T.item Y e1 e2 e3 e4 i [] s' τ H' (fun _ _=>False) I' (stat fr') st' go
   rw[e5] at z
   refine thn z fun r s4 ⟨u,hr,h4⟩=>?_
   subst hr
   refine thn h4 fun _ s5=>L2.ex5 fun x H5 I5 r5 hq_=>?_
   obtain⟨y5,st5,fr5⟩:=hq_
   have I5':=I5.pinned (stat fr5) (T.obj _ _ st5)
   have zg:=hgY _ s5 τ H5 x u _ I5' r5 (step x H5 y5)
   rw[e1,e2,e5,e6,e7] at zg
   refine thn zg fun _ s6 ⟨τ6,H6,I6,q6⟩=>?_
   have zf:=hfY _ s6 τ6 H6 _ I6 q6
   rw[e1,e2,e5,e6,e7] at zf
   refine thn zf fun b s7=>L2.ex3 fun H7 I7 q7=>?_
   have again:∀ {H8:Hp}{s8:Shared},Inv Y ([]++zfZ fp s5.heap) τ6 H8 s8→M τ6 H8→∃ m,m<n∧∃ i τ H',Inv Y [] τ H' s8∧tn i s8.heap∧(∀ b∈fp,H' b=none)∧W i m τ H':=fun {H8 s8} I8 w8=>by
    obtain⟨m',hm,w8⟩:=hM _ _ w8
    refine⟨m',hm,i + 1,τ6,H8,I8.unpinned,T.keep _ _ _ st5 fun b hb o e=>(I8.pin (b,o) (List.mem_append_right _ (List.mem_append_right _ (zcH hb e)))).1,fun b hb=>?_,w8⟩
    obtain⟨o,e,d⟩:=T.obj _ _ st5 b hb
    exact(I8.pin (b,o) (List.mem_append_right _ (List.mem_append_right _ (zcH hb e)))).2.1
   cases b with
   | false=>exact again I7 q7
   | true=>
    have ze:=heY _ s7 τ6 H7 _ I7 q7
    rw[e1,e2,e5,e6,e7] at ze
    refine thn ze fun v s8=>L2.ex5 fun y H8 I8 r8 hq_=>?_
    obtain⟨ys,hD,hz,q8⟩:=hq_
    have za:=zaQ (X:=Y) _ s8 τ6 H8 (.ref s.heap.objs.size) [y] (.ref s.heap.objs.size) [v] (fun _ H9=>H9=upd H8 s.heap.objs.size (.lst (ys++[y]))) I8 rfl (.cons r8 .nil) ⟨_,ys,y,rfl,rfl,hD,hz,rfl⟩
    rw[e1,e2,e5,e7] at za
    refine thn za fun _ s9 ⟨_,H9,I9,_,e9⟩=>?_
    subst e9
    exact again I9 q8
 exact codeAny_compStart_list (loop _ rfl) (T.self X.A 0 _ _ _ st0 (loop _ rfl))
theorem zbd {osc:Scope}{XN:List Str} (h1:X.env.scope=osc) (h2:X.N=XN) (ok:zdB osc scope XN N cap=true):zdB X.env.scope scope X.N N cap=true:=by
 rw[h1,h2]
 exact ok
theorem zbh (hc:X.calm=true) (ok:zdB X.env.scope scope X.N N cap=true) (hi:PI X tg iter wi)
  (hg:∀ cl C s H fp pins,PG (zb8 X scope cl C N s H fp pins) tg g) (hf:∀ cl C s H fp pins,PIf (zb8 X scope cl C N s H fp pins) ifs tt) (he:∀ cl C s H fp pins,PE (zb8 X scope cl C N s H fp pins) elt te)
  (hs:∀ x,foldedSetIterable iter X.env x=pure x:=by intro _;rfl):PE X (.ListComp elt [⟨tg,iter,ifs,0⟩] scope pos) (tComp wi cap g tt te):=by
 intro pins s σ H Q I h
 have ok':=ok
 simp only[zdB,Bool.and_eq_true,List.all_eq_true,beq_iff_eq] at ok'
 obtain⟨⟨⟨⟨hkind,_⟩,hnames⟩,_⟩,_⟩:=ok'
 rw[eval_ListComp]
 refine wpAny_comprehension_free (use:=none) rfl hs (zcz (I.clos ok)) hkind (fun y hy hl=>by simpa [hl] using hnames y hy) (thn (hi pins s σ H _ I h) fun xv s1 h1=>thn h1 fun itv s2 h2=>?_)
 obtain⟨it,fp,tn,J,H2,e,I2,T,st2,f2,q⟩:=h2
 subst e
 refine ze5 (RR:=fun acc C=>compPost (model X.prog X.w) X.A X.xe none (EP X pins σ Q) acc C) hc ok hg hf he I2 T st2 f2 q ?_
 intro D C H' s' m I' fC hn qn
 obtain⟨f0,f1,f2',f3,f4,f5⟩:=fC
 exact⟨m,hn,fun h' sb=>⟨.ref D,H',I'.turned (t':=s'.toks) (fun b o hb e=>sb.extBut b o hb e) f0 f1 f3 f4 f5,rfl,qn⟩⟩
theorem zdC {i:Nat}{x:Str}{pos' spos:Pos} (hN:X.N.Nodup) (hi':X.N[i]?=some x) (hx:X.env.scope.names.lookup x=some .local) (hc:X.calm=true) (ok:zdB X.env.scope scope X.N N cap=true) (hi:PI X tg iter wi)
  (hg:∀ cl C s H fp pins,PG (zb8 X scope cl C N s H fp pins) tg g) (hf:∀ cl C s H fp pins,PIf (zb8 X scope cl C N s H fp pins) ifs tt) (he:∀ cl C s H fp pins,PE (zb8 X scope cl C N s H fp pins) elt te)
  (hsw:swapsWith (.ListComp elt [⟨tg,iter,ifs,0⟩] scope pos) (some (.Name x pos')) spos.line X.env=pure true)
  (hs:∀ x,foldedSetIterable iter X.env x=pure x:=by intro _;rfl) :
  PS X (.Assign [.Name x pos'] (.ListComp elt [⟨tg,iter,ifs,0⟩] scope pos) spos) (tAsg (tComp wi cap g tt te) (zaI i)):=by
 intro pins s σ H D I h
 have ok':=ok
 simp only[zdB,Bool.and_eq_true,List.all_eq_true,beq_iff_eq] at ok'
 obtain⟨⟨⟨⟨hkind,_⟩,hnames⟩,_⟩,_⟩:=ok'
 rw[exec_Assign_Name_used _ _ _ _ hsw]
 refine wpAny_bind (wpAny_standAt (wpAny_bind ?_))
 show wpAny _ X.A (do let _ ← comprehension (.ListComp elt [⟨tg,iter,ifs,0⟩] scope pos) scope X.env _ (newList []) false (eval iter X.env) (some (assign (.Name x pos') X.env))) _ _ s
 refine wpAny_bind (wpAny_mono (wpAny_comprehension_free (use:=some (assign (.Name x pos') X.env)) (Q:=fun _ s'=>SP X pins D .next s') rfl hs (zcz (I.clos ok)) hkind (fun y hy hl=>by simpa [hl] using hnames y hy)
  (thn (hi pins s σ H _ I h) fun xv s1 h1=>thn h1 fun itv s2 h2=>?_)) (fun _ s' hq=>wpAny_pure (wpAny_pure hq)) fun _ _ e=>e)
 obtain⟨it,fp,tn,J,H2,e,I2,T,st2,f2,q⟩:=h2
 subst e
 refine ze5 (RR:=fun acc C=>compPost (model X.prog X.w) X.A X.xe (some (assign (.Name x pos') X.env)) (fun _ s'=>SP X pins D .next s') acc C) hc ok hg hf he I2 T st2 f2 q ?_
 intro Dd C H' s' m I' fC hn qn
 obtain⟨f0,f1,f2',f3,f4,f5⟩:=fC
 show wpAny _ X.A (assign (.Name x pos') X.env (.ref Dd)) _ _ _
 refine wpAny_assign_Name (zfW I' hN hi' (.inl hx) (v:=.ref Dd) rfl (fun s3 I3 ⟨a,sb,ha⟩=>?_) (.inr hx))
 have hCa:C≠a:=by
  rcases ha with z|z
  ·rw[z];exact f1
  ·exact fun w=>f4 x a z w.symm
 refine⟨m,hn.sameBut sb hCa,fun h' sb2=>?_⟩
 exact⟨_,H',I3.turned (t':=s3.toks) (fun b o hb e=>sb2.extBut b o hb e) f0 f1 f3 f4 f5,qn⟩
theorem zaP {K:PySem.W.Frag}{a D:Addr}{xs:List V}{τ:St}{H:Hp}{Q:VK} (Pv:Nat→St→Hp→Prop) (h0:Pv 0 τ H) (hl:∀ i τ H,i≤xs.length→Pv i τ H→SqL K H a xs)
  (hs:∀ i x τ H,xs[i]?=some x→Pv i τ H→g x τ H fun τ2 H2=>tt τ2 H2 fun b H3=>
   if b=true then te τ2 H3 fun y H4=>∃ ys,H4 D=some (.lst ys)∧ys.length<sizeLine∧Pv (i + 1) τ2 (upd H4 D (.lst (ys++[y]))) else Pv (i + 1) τ2 H3)
  (hd:∀ τ H,Pv xs.length τ H→Q (.ref D) H):zgX (Itl K a) D τ H g tt te Q:=
 wk_ (n:=xs.length) Pv h0 (fun i σ H hi p=>⟨fun h=>⟨xs,xs[i],hl i σ H hi p,by simp[h]⟩,fun h=>⟨xs,hl i σ H hi p,h⟩⟩) (fun i x σ H H' hi p y=>by
 obtain⟨rfl,y⟩:=y
 exact hs i x σ _ (y xs (hl i σ _ (Nat.le_of_lt hi) p)) p) hd
theorem ze6 {lo:Int}{n:Nat}{D:Addr}{τ:St}{H:Hp}{Q:VK} (Pv:Nat→St→Hp→Prop) (h0:Pv 0 τ H)
  (hs:∀ i τ H,i<n→Pv i τ H→g (.int (lo + i)) τ H fun τ2 H2=>tt τ2 H2 fun b H3=>
   if b=true then te τ2 H3 fun y H4=>∃ ys,H4 D=some (.lst ys)∧ys.length<sizeLine∧Pv (i + 1) τ2 (upd H4 D (.lst (ys++[y]))) else Pv (i + 1) τ2 H3)
  (hd:∀ τ H,Pv n τ H→Q (.ref D) H):zgX (Itr lo n) D τ H g tt te Q:=
 wk_ (n:=n) Pv h0 (fun _ _ _ _ _=>⟨id,id⟩) (fun i x σ H H' hi p y=>by
 obtain⟨rfl,rfl⟩:=y
 exact hs i σ _ hi p) hd
end
end L2
namespace L2
open PySem PySem.Spec PyProof.Rows PySem.SeqAt
inductive Dt where
 | non | bl (b:Bool) | int (i:Int) | str (x:Str) | lst (xs:List Dt) | tup (xs:List Dt)
mutual
def DtV (K:PySem.W.Frag) (H:Hp):Dt→V→Prop
 | .non,x=>x=.non
 | .bl b,x=>x=.bl b
 | .int i,x=>x=.int i
 | .str z,x=>x=.str z
 | .lst ds,x=>∃ a xs,x=.ref a∧SqL K H a xs∧zbu K H ds xs
 | .tup ds,x=>∃ a xs,x=.ref a∧SqT K H a xs∧zbu K H ds xs
def zbu (K:PySem.W.Frag) (H:Hp):List Dt→List V→Prop
 | [],xs=>xs=[]
 | d::ds,xs=>∃ y ys,xs=y::ys∧DtV K H d y∧zbu K H ds ys
end
mutual
def zcB:Nat→Dt→Prop
 | n + 1,.lst ds=>zbi n ds
 | n + 1,.tup ds=>zbi n ds
 | 0,.lst _=>False
 | 0,.tup _=>False
 | _,.non=>True
 | _,.bl _=>True
 | _,.int _=>True
 | _,.str _=>True
def zbi:Nat→List Dt→Prop
 | _,[]=>True
 | n,d::ds=>zcB n d∧zbi n ds
end
mutual
def eqD:Dt→Dt→Bool
 | .non,.non=>true
 | .bl a,.bl b=>a == b
 | .bl a,.int b=>(if a then 1 else 0) == b
 | .int a,.bl b=>a == (if b then 1 else 0)
 | .int a,.int b=>a == b
 | .str a,.str b=>a == b
 | .lst xs,.lst ys=>zgf xs ys
 | .tup xs,.tup ys=>zgf xs ys
 | _,_=>false
def zgf:List Dt→List Dt→Bool
 | [],[]=>true
 | x::xs,y::ys=>eqD x y && zgf xs ys
 | _,_=>false
end
mutual
theorem zbz:∀ d:Dt,eqD d d=true
 | .non=>rfl
 | .bl b=>by simp[eqD]
 | .int i=>by simp[eqD]
 | .str x=>by simp[eqD]
 | .lst xs=>by
  rw[eqD]
  exact zcC xs
 | .tup xs=>by
  rw[eqD]
  exact zcC xs
theorem zcC:∀ ds:List Dt,zgf ds ds=true
 | []=>rfl
 | d::ds=>by rw[zgf,zbz d,zcC ds];rfl
end
theorem zbu.length {K:PySem.W.Frag}{H:Hp}:∀ {ds:List Dt}{xs:List V},zbu K H ds xs→ds.length=xs.length
 | [],xs,h=>by
  have e:xs=[]:=h
  subst e
  rfl
 | d::ds,xs,h=>by
  obtain⟨y,ys,e,_,h2⟩:=h
  subst e
  simp[zbu.length h2]
theorem zbu.get {K:PySem.W.Frag}{H:Hp}:∀ {ds:List Dt}{xs:List V}{j:Nat}{d:Dt},zbu K H ds xs→ds[j]?=some d→∃ x,xs[j]?=some x∧DtV K H d x
 | [],_,_,_,_,e=>by simp at e
 | d::ds,xs,j,d',h,e=>by
  obtain⟨y,ys,e2,h1,h2⟩:=h
  subst e2
  cases j with
  | zero=>
   simp at e
   subst e
   exact⟨y,rfl,h1⟩
  | succ j=>
   obtain⟨x,hx,hd⟩:=zbu.get (j:=j) h2 (by simpa using e)
   exact⟨x,by simpa using hx,hd⟩
theorem zbu.snoc {K:PySem.W.Frag}{H:Hp}{d:Dt}{x:V} (hd:DtV K H d x):∀ {ds:List Dt}{xs:List V},zbu K H ds xs→zbu K H (ds++[d]) (xs++[x])
 | [],xs,h=>by
  have e:xs=[]:=h
  subst e
  exact⟨x,[],rfl,hd,rfl⟩
 | e::ds,xs,h=>by
  obtain⟨y,ys,e2,h1,h2⟩:=h
  subst e2
  exact⟨y,ys++[x],rfl,h1,h2.snoc hd⟩
theorem zbi.get {n:Nat}:∀ {ds:List Dt}{j:Nat}{d:Dt},zbi n ds→ds[j]?=some d→zcB n d
 | [],_,_,_,e=>by simp at e
 | d::ds,j,d',h,e=>by
  cases j with
  | zero=>
   simp at e
   subst e
   exact h.1
  | succ j=>exact zbi.get (j:=j) h.2 (by simpa using e)
theorem zbi.of {n:Nat}:∀ {ds:List Dt},(∀ d∈ds,zcB n d)→zbi n ds
 | [],_=>trivial
 | d::ds,h=>⟨h d List.mem_cons_self,zbi.of fun e he=>h e (List.mem_cons_of_mem _ he)⟩
theorem zan.sqL {K:PySem.W.Frag}{H H':Hp}{a:Addr}{xs:List V} (e:zan H H') (h:SqL K H a xs):SqL K H' a xs:=e.seq h
theorem zan.sqT {K:PySem.W.Frag}{H H':Hp}{a:Addr}{xs:List V} (e:zan H H') (h:SqT K H a xs):SqT K H' a xs:=by
 rcases h with(h|⟨o,h⟩)|h
 ·exact .inl (.inl (e _ _ h))
 ·exact .inl (.inr ⟨o,e _ _ h⟩)
 ·exact .inr h
mutual
theorem zan.dt {K:PySem.W.Frag}{H H':Hp} (e:zan H H'):∀ {d:Dt}{x:V},DtV K H d x→DtV K H' d x
 | .non,_,h=>h
 | .bl _,_,h=>h
 | .int _,_,h=>h
 | .str _,_,h=>h
 | .lst ds,_,h=>by
  obtain⟨a,xs,e1,h1,h2⟩:=h
  exact⟨a,xs,e1,e.sqL h1,e.dts h2⟩
 | .tup ds,_,h=>by
  obtain⟨a,xs,e1,h1,h2⟩:=h
  exact⟨a,xs,e1,e.sqT h1,e.dts h2⟩
theorem zan.dts {K:PySem.W.Frag}{H H':Hp} (e:zan H H'):∀ {ds:List Dt}{xs:List V},zbu K H ds xs→zbu K H' ds xs
 | [],_,h=>h
 | d::ds,_,h=>by
  obtain⟨y,ys,e1,h1,h2⟩:=h
  exact⟨y,ys,e1,e.dt h1,e.dts h2⟩
end
theorem zan.new {H:Hp}{p:Addr}{o:HO} (h:H p=none):zan H (upd H p o):=fun b u e=>by
 rw[zaf (zae e h)]
 exact e
section
variable {X:Cx}{pins:List (Addr×Obj)}{σ:St}{H:Hp}{s:Shared}
theorem Inv.notBoth (I:Inv X pins σ H s){a:Addr}{xs ys:List V} (h:SqL X.K H a xs) (h':SqT X.K H a ys):False:=by
 obtain⟨its,_,pl,_⟩:=I.list h
 obtain⟨its',_,pt,_⟩:=I.tuple h'
 obtain⟨o,n,e,c,_⟩:=pl
 obtain⟨o',e',c',_⟩:=pt
 rw[e] at e'
 cases e'
 rw[c] at c'
 exact absurd c' (by simp)
mutual
theorem Inv.dtUniq (I:Inv X pins σ H s):∀ {d e:Dt}{x:V},DtV X.K H d x→DtV X.K H e x→d=e
 | .non,e,_,h,h'=>by
  have h:_=V.non:=h
  subst h
  cases e with
  | non=>rfl
  | bl _=>exact nomatch (show V.non=_ from h')
  | int _=>exact nomatch (show V.non=_ from h')
  | str _=>exact nomatch (show V.non=_ from h')
  | lst _=>obtain⟨_,_,q,_⟩:=h';cases q
  | tup _=>obtain⟨_,_,q,_⟩:=h';cases q
 | .bl b,e,_,h,h'=>by
  have h:_=V.bl b:=h
  subst h
  cases e with
  | non=>exact nomatch (show V.bl b=_ from h')
  | bl c=>
   have q:V.bl b=V.bl c:=h'
   cases q
   rfl
  | int _=>exact nomatch (show V.bl b=_ from h')
  | str _=>exact nomatch (show V.bl b=_ from h')
  | lst _=>obtain⟨_,_,q,_⟩:=h';cases q
  | tup _=>obtain⟨_,_,q,_⟩:=h';cases q
 | .int b,e,_,h,h'=>by
  have h:_=V.int b:=h
  subst h
  cases e with
  | non=>exact nomatch (show V.int b=_ from h')
  | bl c=>exact nomatch (show V.int b=_ from h')
  | int c=>
   have q:V.int b=V.int c:=h'
   cases q
   rfl
  | str _=>exact nomatch (show V.int b=_ from h')
  | lst _=>obtain⟨_,_,q,_⟩:=h';cases q
  | tup _=>obtain⟨_,_,q,_⟩:=h';cases q
 | .str b,e,_,h,h'=>by
  have h:_=V.str b:=h
  subst h
  cases e with
  | non=>exact nomatch (show V.str b=_ from h')
  | bl c=>exact nomatch (show V.str b=_ from h')
  | int _=>exact nomatch (show V.str b=_ from h')
  | str c=>
   have q:V.str b=V.str c:=h'
   cases q
   rfl
  | lst _=>obtain⟨_,_,q,_⟩:=h';cases q
  | tup _=>obtain⟨_,_,q,_⟩:=h';cases q
 | .lst ds,e,_,h,h'=>by
  obtain⟨a,xs,e1,h1,h2⟩:=h
  subst e1
  cases e with
  | non=>exact nomatch (show V.ref a=_ from h')
  | bl c=>exact nomatch (show V.ref a=_ from h')
  | int _=>exact nomatch (show V.ref a=_ from h')
  | str _=>exact nomatch (show V.ref a=_ from h')
  | lst es=>
   obtain⟨b,ys,e2,h3,h4⟩:=h'
   cases e2
   have q:=I.list_inj h1 h3
   subst q
   rw[I.dtsUniq h2 h4]
  | tup es=>
   obtain⟨b,ys,e2,h3,h4⟩:=h'
   cases e2
   exact(I.notBoth h1 h3).elim
 | .tup ds,e,_,h,h'=>by
  obtain⟨a,xs,e1,h1,h2⟩:=h
  subst e1
  cases e with
  | non=>exact nomatch (show V.ref a=_ from h')
  | bl c=>exact nomatch (show V.ref a=_ from h')
  | int _=>exact nomatch (show V.ref a=_ from h')
  | str _=>exact nomatch (show V.ref a=_ from h')
  | lst es=>
   obtain⟨b,ys,e2,h3,h4⟩:=h'
   cases e2
   exact(I.notBoth h3 h1).elim
  | tup es=>
   obtain⟨b,ys,e2,h3,h4⟩:=h'
   cases e2
   have q:=I.tuple_inj h1 h3
   subst q
   rw[I.dtsUniq h2 h4]
theorem Inv.dtsUniq (I:Inv X pins σ H s):∀ {ds es:List Dt}{xs:List V},zbu X.K H ds xs→zbu X.K H es xs→ds=es
 | [],es,_,h,h'=>by
  have h:_=[]:=h
  subst h
  cases es with
  | nil=>rfl
  | cons e es=>obtain⟨_,_,q,_⟩:=h';cases q
 | d::ds,es,_,h,h'=>by
  obtain⟨y,ys,e1,h1,h2⟩:=h
  subst e1
  cases es with
  | nil=>exact nomatch (show y::ys=[] from h')
  | cons e es=>
   obtain⟨z,zs,q,h3,h4⟩:=h'
   cases q
   rw[I.dtUniq h1 h3,I.dtsUniq h2 h4]
end
def zfq (ds es:List Dt) (j:Nat):Bool:=eqD (ds.getD j .non) (es.getD j .non)
theorem zdf:∀ ds es:List Dt,((List.range (min ds.length es.length)).all (zfq ds es) && ds.length == es.length)=zgf ds es
 | [],[]=>rfl
 | [],_::_=>by simp[zgf]
 | _::_,[]=>by simp[zgf]
 | d::ds,e::es=>by
  have ih:=zdf ds es
  have e1:min (d::ds).length (e::es).length=min ds.length es.length + 1:=by simp only[List.length_cons];omega
  have e2:((d::ds).length == (e::es).length)=(ds.length == es.length):=by simp
  have e3:(List.range (min ds.length es.length + 1)).all (zfq (d::ds) (e::es))=(eqD d e && (List.range (min ds.length es.length)).all (zfq ds es)):=by
   rw[List.range_succ_eq_map,List.all_cons,List.all_map]
   rfl
  rw[e1,e2,e3,zgf,← ih,Bool.and_assoc]
theorem zhp {ds es:List Dt} (h:ds.length=es.length):(List.range ds.length).all (zfq ds es)=zgf ds es:=by
 have:=zdf ds es
 rw[← h,Nat.min_self] at this
 simpa using this
theorem ze7 {ds es:List Dt} (h:ds.length≠es.length):zgf ds es=false:=by
 rw[← zdf ds es]
 simp[h]
end
section
variable {X:Cx}{pins:List (Addr×Obj)}{σ:St}{H:Hp}{s:Shared}
theorem Inv.isL (I:Inv X pins σ H s){a:Addr}{xs:List V} (h:SqL X.K H a xs):∃ its:List Value,zaX xs its∧s.heap.IsList a its.toArray:=
 let ⟨its,r,pl,_⟩:=I.list h
 ⟨its,r,pl.isList⟩
theorem Inv.isT (I:Inv X pins σ H s){a:Addr}{xs:List V} (h:SqT X.K H a xs):∃ its:List Value,zaX xs its∧s.heap.IsTuple a its.toArray:=
 let ⟨its,r,pt,_⟩:=I.tuple h
 ⟨its,r,pt⟩
theorem zew {ds es:List Dt}{j:Nat}{d e:Dt} (h1:ds[j]?=some d) (h2:es[j]?=some e):zfq ds es j=eqD d e:=by
 unfold zfq
 rw[List.getD_eq_getElem?_getD,List.getD_eq_getElem?_getD,h1,h2]
 rfl
theorem zb9 {α:Type}{l:List α}{j:Nat} (h:j<l.length):∃ x,l[j]?=some x:=⟨l[j],by simp[h]⟩
mutual
theorem Inv.eqAt (I:Inv X pins σ H s):∀ {d e:Dt}{x y:V}{u v:Value}{n:Nat}{A:Around},DtV X.K H d x→DtV X.K H e y→za8 x u→za8 y v→zcB n d→A.units + n<cLine→EqAt A s u v (eqD d e)
 | .non,e,x,y,u,v,n,A,h,h',rx,ry,_,hu=>by
  have hu:A.units<cLine:=Nat.lt_of_le_of_lt (Nat.le_add_right _ _) hu
  have h:x=V.non:=h
  subst h
  cases e with
  | non=>
   have h':y=V.non:=h'
   subst h'
   exact zbF rx ry rfl rfl
  | bl c=>
   have h':y=V.bl c:=h'
   subst h'
   exact zbF rx ry rfl rfl
  | int c=>
   have h':y=V.int c:=h'
   subst h'
   exact zbF rx ry rfl rfl
  | str c=>
   have h':y=V.str c:=h'
   subst h'
   exact zbF rx ry rfl rfl
  | lst es=>
   obtain⟨a,ys,rfl,h1,_⟩:=h'
   obtain rfl:v=Value.ref a:=ry
   obtain⟨its,_,hl⟩:=I.isL h1
   obtain rfl:u=Value.none:=rx
   exact EqAt.none_list hl hu
  | tup es=>
   obtain⟨a,ys,rfl,h1,_⟩:=h'
   obtain rfl:v=Value.ref a:=ry
   obtain⟨its,_,hl⟩:=I.isT h1
   obtain rfl:u=Value.none:=rx
   exact EqAt.none_tuple hl hu
 | .bl b,e,x,y,u,v,n,A,h,h',rx,ry,_,hu=>by
  have hu:A.units<cLine:=Nat.lt_of_le_of_lt (Nat.le_add_right _ _) hu
  have h:x=V.bl b:=h
  subst h
  cases e with
  | non=>
   have h':y=V.non:=h'
   subst h'
   exact zbF rx ry rfl rfl
  | bl c=>
   have h':y=V.bl c:=h'
   subst h'
   exact zbF rx ry rfl rfl
  | int c=>
   have h':y=V.int c:=h'
   subst h'
   exact zbF rx ry rfl rfl
  | str c=>
   have h':y=V.str c:=h'
   subst h'
   exact zbF rx ry rfl rfl
  | lst es=>
   obtain⟨a,ys,rfl,h1,_⟩:=h'
   obtain rfl:v=Value.ref a:=ry
   obtain⟨its,_,hl⟩:=I.isL h1
   obtain rfl:u=Value.bool b:=rx
   exact EqAt.bool_list b hl hu
  | tup es=>
   obtain⟨a,ys,rfl,h1,_⟩:=h'
   obtain rfl:v=Value.ref a:=ry
   obtain⟨its,_,hl⟩:=I.isT h1
   obtain rfl:u=Value.bool b:=rx
   exact EqAt.bool_tuple b hl hu
 | .int b,e,x,y,u,v,n,A,h,h',rx,ry,_,hu=>by
  have hu:A.units<cLine:=Nat.lt_of_le_of_lt (Nat.le_add_right _ _) hu
  have h:x=V.int b:=h
  subst h
  cases e with
  | non=>
   have h':y=V.non:=h'
   subst h'
   exact zbF rx ry rfl rfl
  | bl c=>
   have h':y=V.bl c:=h'
   subst h'
   exact zbF rx ry rfl rfl
  | int c=>
   have h':y=V.int c:=h'
   subst h'
   exact zbF rx ry rfl rfl
  | str c=>
   have h':y=V.str c:=h'
   subst h'
   exact zbF rx ry rfl rfl
  | lst es=>
   obtain⟨a,ys,rfl,h1,_⟩:=h'
   obtain rfl:v=Value.ref a:=ry
   obtain⟨its,_,hl⟩:=I.isL h1
   obtain⟨t,rfl⟩:=rx
   exact EqAt.int_list b t hl hu
  | tup es=>
   obtain⟨a,ys,rfl,h1,_⟩:=h'
   obtain rfl:v=Value.ref a:=ry
   obtain⟨its,_,hl⟩:=I.isT h1
   obtain⟨t,rfl⟩:=rx
   exact EqAt.int_tuple b t hl hu
 | .str b,e,x,y,u,v,n,A,h,h',rx,ry,_,hu=>by
  have hu:A.units<cLine:=Nat.lt_of_le_of_lt (Nat.le_add_right _ _) hu
  have h:x=V.str b:=h
  subst h
  cases e with
  | non=>
   have h':y=V.non:=h'
   subst h'
   exact zbF rx ry rfl rfl
  | bl c=>
   have h':y=V.bl c:=h'
   subst h'
   exact zbF rx ry rfl rfl
  | int c=>
   have h':y=V.int c:=h'
   subst h'
   exact zbF rx ry rfl rfl
  | str c=>
   have h':y=V.str c:=h'
   subst h'
   exact zbF rx ry rfl rfl
  | lst es=>
   obtain⟨a,ys,rfl,h1,_⟩:=h'
   obtain rfl:v=Value.ref a:=ry
   obtain⟨its,_,hl⟩:=I.isL h1
   obtain⟨t,rfl⟩:=rx
   exact EqAt.str_list b t hl hu
  | tup es=>
   obtain⟨a,ys,rfl,h1,_⟩:=h'
   obtain rfl:v=Value.ref a:=ry
   obtain⟨its,_,hl⟩:=I.isT h1
   obtain⟨t,rfl⟩:=rx
   exact EqAt.str_tuple b t hl hu
 | .lst ds,e,x,y,u,v,n,A,h,h',rx,ry,hd,hu=>by
  obtain⟨a,xs,rfl,g1,g2⟩:=h
  obtain rfl:u=Value.ref a:=rx
  obtain⟨its,rv,hl⟩:=I.isL g1
  cases n with
  | zero=>exact False.elim hd
  | succ n=>
  have hu0:A.units<cLine:=Nat.lt_of_le_of_lt (Nat.le_add_right _ _) hu
  cases e with
  | non=>
   have h':y=V.non:=h'
   subst h'
   obtain rfl:v=Value.none:=ry
   exact EqAt.list_none hl hu0
  | bl c=>
   have h':y=V.bl c:=h'
   subst h'
   obtain rfl:v=Value.bool c:=ry
   exact EqAt.list_bool c hl hu0
  | int c=>
   have h':y=V.int c:=h'
   subst h'
   obtain⟨t,rfl⟩:=ry
   exact EqAt.list_int c t hl hu0
  | str c=>
   have h':y=V.str c:=h'
   subst h'
   obtain⟨t,rfl⟩:=ry
   exact EqAt.list_str c t hl hu0
  | tup es=>
   obtain⟨b,ys,rfl,h1,_⟩:=h'
   obtain rfl:v=Value.ref b:=ry
   obtain⟨its',_,hl'⟩:=I.isT h1
   exact EqAt.list_tuple hl hl' hu0
  | lst es=>
   obtain⟨b,ys,rfl,h1,h2⟩:=h'
   obtain rfl:v=Value.ref b:=ry
   obtain⟨its',rv',hl'⟩:=I.isL h1
   show EqAt A s (.ref a) (.ref b) (zgf ds es)
   by_cases hab:a=b
   ·subst hab
    have e:Dt.lst ds=Dt.lst es:=I.dtUniq ⟨a,xs,rfl,g1,g2⟩ ⟨a,ys,rfl,h1,h2⟩
    injection e with e
    subst e
    rw[zcC]
    exact EqAt.same _
   ·have n1:ds.length=its.length:=g2.length.trans rv.length
    have n2:es.length=its'.length:=h2.length.trans rv'.length
    have items:∀ j (h1:j<its.toArray.size) (h2:j<its'.toArray.size),EqAt A.in1 s its.toArray[j] its'.toArray[j] (zfq ds es j):=fun j j1 j2=>by
     have j1:j<its.length:=by simpa using j1
     have j2:j<its'.length:=by simpa using j2
     obtain⟨d',hd'⟩:=zb9 (l:=ds) (j:=j) (by omega)
     obtain⟨e',he'⟩:=zb9 (l:=es) (j:=j) (by omega)
     obtain⟨x',hx',kx⟩:=g2.get hd'
     obtain⟨y',hy',ky⟩:=h2.get he'
     obtain⟨u',hu',ru⟩:=rv.get hx'
     obtain⟨v',hv',rv2⟩:=rv'.get hy'
     have q1:its.toArray[j]=u':=by
      have:=List.getElem?_eq_some_iff.mp hu'
      simpa using this.2
     have q2:its'.toArray[j]=v':=by
      have:=List.getElem?_eq_some_iff.mp hv'
      simpa using this.2
     rw[q1,q2,zew hd' he']
     exact Inv.eqAtI I ds j hd' kx ky ru rv2 (zbi.get hd hd') (show A.units + 1 + n<cLine by omega)
    by_cases hsz:its.toArray.size=its'.toArray.size
    ·have hsz':ds.length=es.length:=by simpa [n1,n2] using hsz
     rw[← zhp hsz',n1,← List.size_toArray]
     exact EqAt.of_refs hab (RcAt.lists hl hl' hsz hu0 items)
    ·rw[ze7 (by simpa [n1,n2] using hsz)]
     exact EqAt.of_refs hab (RcAt.lists_lengths hl hl' (by simpa using hsz) hu0)
 | .tup ds,e,x,y,u,v,n,A,h,h',rx,ry,hd,hu=>by
  obtain⟨a,xs,rfl,g1,g2⟩:=h
  obtain rfl:u=Value.ref a:=rx
  obtain⟨its,rv,hl⟩:=I.isT g1
  cases n with
  | zero=>exact False.elim hd
  | succ n=>
  have hu0:A.units<cLine:=Nat.lt_of_le_of_lt (Nat.le_add_right _ _) hu
  cases e with
  | non=>
   have h':y=V.non:=h'
   subst h'
   obtain rfl:v=Value.none:=ry
   exact EqAt.tuple_none hl hu0
  | bl c=>
   have h':y=V.bl c:=h'
   subst h'
   obtain rfl:v=Value.bool c:=ry
   exact EqAt.tuple_bool c hl hu0
  | int c=>
   have h':y=V.int c:=h'
   subst h'
   obtain⟨t,rfl⟩:=ry
   exact EqAt.tuple_int c t hl hu0
  | str c=>
   have h':y=V.str c:=h'
   subst h'
   obtain⟨t,rfl⟩:=ry
   exact EqAt.tuple_str c t hl hu0
  | lst es=>
   obtain⟨b,ys,rfl,h1,_⟩:=h'
   obtain rfl:v=Value.ref b:=ry
   obtain⟨its',_,hl'⟩:=I.isL h1
   exact EqAt.tuple_list hl hl' hu0
  | tup es=>
   obtain⟨b,ys,rfl,h1,h2⟩:=h'
   obtain rfl:v=Value.ref b:=ry
   obtain⟨its',rv',hl'⟩:=I.isT h1
   show EqAt A s (.ref a) (.ref b) (zgf ds es)
   by_cases hab:a=b
   ·subst hab
    have e:Dt.tup ds=Dt.tup es:=I.dtUniq ⟨a,xs,rfl,g1,g2⟩ ⟨a,ys,rfl,h1,h2⟩
    injection e with e
    subst e
    rw[zcC]
    exact EqAt.same _
   ·have n1:ds.length=its.length:=g2.length.trans rv.length
    have n2:es.length=its'.length:=h2.length.trans rv'.length
    have items:∀ j (h1:j<its.toArray.size) (h2:j<its'.toArray.size),EqAt A.in1 s its.toArray[j] its'.toArray[j] (zfq ds es j):=fun j j1 j2=>by
     have j1:j<its.length:=by simpa using j1
     have j2:j<its'.length:=by simpa using j2
     obtain⟨d',hd'⟩:=zb9 (l:=ds) (j:=j) (by omega)
     obtain⟨e',he'⟩:=zb9 (l:=es) (j:=j) (by omega)
     obtain⟨x',hx',kx⟩:=g2.get hd'
     obtain⟨y',hy',ky⟩:=h2.get he'
     obtain⟨u',hu',ru⟩:=rv.get hx'
     obtain⟨v',hv',rv2⟩:=rv'.get hy'
     have q1:its.toArray[j]=u':=by
      have:=List.getElem?_eq_some_iff.mp hu'
      simpa using this.2
     have q2:its'.toArray[j]=v':=by
      have:=List.getElem?_eq_some_iff.mp hv'
      simpa using this.2
     rw[q1,q2,zew hd' he']
     exact Inv.eqAtI I ds j hd' kx ky ru rv2 (zbi.get hd hd') (show A.units + 1 + n<cLine by omega)
    have q:=EqAt.of_refs hab (RcAt.tuples hl hl' hu0 items)
    rw[← zdf ds es,n1,n2]
    simpa using q
theorem Inv.eqAtI (I:Inv X pins σ H s):∀ (ds:List Dt) (j:Nat){d e:Dt}{x y:V}{u v:Value}{n:Nat}{A:Around},ds[j]?=some d→DtV X.K H d x→DtV X.K H e y→za8 x u→za8 y v→zcB n d→A.units + n<cLine→EqAt A s u v (eqD d e)
 | [],j,_,_,_,_,_,_,_,_,h,_,_,_,_,_,_=>by simp at h
 | c::_,0,d,e,x,y,u,v,n,A,h,hx,hy,ru,rv,hd,hu=>by
  simp at h
  subst h
  exact Inv.eqAt I hx hy ru rv hd hu
 | _::cs,j + 1,d,e,x,y,u,v,n,A,h,hx,hy,ru,rv,hd,hu=>Inv.eqAtI I cs j (by simpa using h) hx hy ru rv hd hu
end
theorem Inv.items (I:Inv X pins σ H s){ds es:List Dt}{xs ys:List V}{its its':List Value}{n:Nat}{A:Around} (g2:zbu X.K H ds xs) (h2:zbu X.K H es ys) (rv:zaX xs its) (rv':zaX ys its') (hd:zbi n ds)
  (hu:A.units + 1 + n<cLine):∀ j (h1:j<its.toArray.size) (h2:j<its'.toArray.size),EqAt A.in1 s its.toArray[j] its'.toArray[j] (zfq ds es j):=fun j j1 j2=>by
 have n1:ds.length=its.length:=g2.length.trans rv.length
 have n2:es.length=its'.length:=h2.length.trans rv'.length
 have j1:j<its.length:=by simpa using j1
 have j2:j<its'.length:=by simpa using j2
 obtain⟨d',hd'⟩:=zb9 (l:=ds) (j:=j) (by omega)
 obtain⟨e',he'⟩:=zb9 (l:=es) (j:=j) (by omega)
 obtain⟨x',hx',kx⟩:=g2.get hd'
 obtain⟨y',hy',ky⟩:=h2.get he'
 obtain⟨u',hu',ru⟩:=rv.get hx'
 obtain⟨v',hv',rv2⟩:=rv'.get hy'
 have q1:its.toArray[j]=u':=by
  have:=List.getElem?_eq_some_iff.mp hu'
  simpa using this.2
 have q2:its'.toArray[j]=v':=by
  have:=List.getElem?_eq_some_iff.mp hv'
  simpa using this.2
 rw[q1,q2,zew hd' he']
 exact I.eqAt kx ky ru rv2 (zbi.get hd hd') hu
def zj7:Dt→Bool
 | .lst _=>true
 | .tup _=>true
 | _=>false
theorem Inv.rcAt (I:Inv X pins σ H s){d e:Dt}{x y:V}{u v:Value}{n:Nat}{A:Around} (bd:zj7 d=true) (be:zj7 e=true) (h:DtV X.K H d x) (h':DtV X.K H e y) (rx:za8 x u) (ry:za8 y v) (hd:zcB n d) (hu:A.units + n<cLine) :
  RcAt A s u v (eqD d e)∧RcNeAt A s u v (!eqD d e):=by
 cases n with
 | zero=>cases d <;> first | exact False.elim hd | cases bd
 | succ n=>
 have hu0:A.units<cLine:=Nat.lt_of_le_of_lt (Nat.le_add_right _ _) hu
 have hu1:A.units + 1 + n<cLine:=by omega
 cases d with
 | lst ds=>
  obtain⟨a,xs,rfl,g1,g2⟩:=h
  obtain rfl:u=Value.ref a:=rx
  obtain⟨its,rv,hl⟩:=I.isL g1
  cases e with
  | lst es=>
   obtain⟨b,ys,rfl,h1,h2⟩:=h'
   obtain rfl:v=Value.ref b:=ry
   obtain⟨its',rv',hl'⟩:=I.isL h1
   have n1:ds.length=its.length:=g2.length.trans rv.length
   have n2:es.length=its'.length:=h2.length.trans rv'.length
   show RcAt A s (.ref a) (.ref b) (zgf ds es)∧RcNeAt A s (.ref a) (.ref b) (!zgf ds es)
   by_cases hsz:its.toArray.size=its'.toArray.size
   ·have hsz':ds.length=es.length:=by simpa [n1,n2] using hsz
    rw[← zhp hsz',n1,← List.size_toArray]
    exact⟨RcAt.lists hl hl' hsz hu0 (I.items g2 h2 rv rv' hd hu1),RcNeAt.lists hl hl' hsz hu0 (I.items g2 h2 rv rv' hd hu1)⟩
   ·rw[ze7 (by simpa [n1,n2] using hsz)]
    exact⟨RcAt.lists_lengths hl hl' (by simpa using hsz) hu0,RcNeAt.lists_lengths hl hl' (by simpa using hsz) hu0⟩
  | tup es=>
   obtain⟨b,ys,rfl,h1,_⟩:=h'
   obtain rfl:v=Value.ref b:=ry
   obtain⟨its',_,hl'⟩:=I.isT h1
   exact⟨RcAt.list_tuple hl hl' hu0,RcNeAt.list_tuple hl hl' hu0⟩
  | _=>cases be
 | tup ds=>
  obtain⟨a,xs,rfl,g1,g2⟩:=h
  obtain rfl:u=Value.ref a:=rx
  obtain⟨its,rv,hl⟩:=I.isT g1
  cases e with
  | tup es=>
   obtain⟨b,ys,rfl,h1,h2⟩:=h'
   obtain rfl:v=Value.ref b:=ry
   obtain⟨its',rv',hl'⟩:=I.isT h1
   have n1:ds.length=its.length:=g2.length.trans rv.length
   have n2:es.length=its'.length:=h2.length.trans rv'.length
   have q:=RcAt.tuples hl hl' hu0 (I.items g2 h2 rv rv' hd hu1)
   have q':=RcNeAt.tuples hl hl' hu0 (I.items g2 h2 rv rv' hd hu1)
   show RcAt A s (.ref a) (.ref b) (zgf ds es)∧RcNeAt A s (.ref a) (.ref b) (!zgf ds es)
   rw[← zdf ds es,n1,n2]
   exact⟨by simpa using q,by simpa using q'⟩
  | lst es=>
   obtain⟨b,ys,rfl,h1,_⟩:=h'
   obtain rfl:v=Value.ref b:=ry
   obtain⟨its',_,hl'⟩:=I.isL h1
   exact⟨RcAt.tuple_list hl hl' hu0,RcNeAt.tuple_list hl hl' hu0⟩
  | _=>cases be
 | _=>cases bd
def rEqD (K:PySem.W.Frag) (neg:Bool):R2:=fun x y H Q=>∃ d e,zj7 d=true∧zj7 e=true∧DtV K H d x∧DtV K H e y∧zcB 60 d∧Q (.bl (if neg then !eqD d e else eqD d e)) H
theorem ziN (hu:X.A.units + 64<cLine):OpR X (compareOp .Eq) (rEqD X.K false):=by
 intro pins s σ H x y v u Q I rx ry h
 obtain⟨d,e,bd,be,h1,h2,hd,q⟩:=h
 exact(I.rcAt bd be h1 h2 rx ry hd (by omega)).1 X.prog X.w _ _ ⟨.bl _,H,I,rfl,q⟩
theorem zgg (hu:X.A.units + 64<cLine):OpR X (compareOp .NotEq) (rEqD X.K true):=by
 intro pins s σ H x y v u Q I rx ry h
 obtain⟨d,e,bd,be,h1,h2,hd,q⟩:=h
 exact(I.rcAt bd be h1 h2 rx ry hd (by omega)).2 X.prog X.w _ _ ⟨.bl _,H,I,rfl,q⟩
end
end L2
namespace L2
open PySem PySem.Spec PyProof.Rows
section
variable {X:Cx}
theorem zkI {x:Str}{a:Addr}{pos:Pos} (hg:Gl X x) (hm:X.mg x=some (.ref a)) (hd:(x == ("__debug__":Str))=false:=by decide):PE X (.Name x pos) (tC (.ref a)):=zgM hg hm rfl hd
def clsOf:V→Option Value
 | .ref a=>some (.ref a)
 | .ty n=>some (.type n)
 | _=>none
theorem ziO {c:V}{u k:Value} (r:za8 c u) (e:clsOf c=some k):u=k:=by
 cases c with
 | ref a=>
  cases e
  exact r
 | ty n=>
  cases e
  exact r
 | _=>cases e
theorem zci:zdx X (.builtin "isinstance") (fun xs H Q=>∃ x c k t b,xs=[x,c]∧clsOf c=some k∧zhO X.K H x t∧PySem.W.kitOne X.K t k=some b∧Q (.bl b) H):=by
 intro pins s σ H xs us Q I r h
 obtain⟨x,c,k,t,b,rfl,ec,ty,eb,q⟩:=h
 obtain⟨u,v,rfl,rx,rc⟩:=vals2 r
 have e:=ziO rc ec
 subst e
 exact ziz I rx ty eb fun tk=>⟨.bl b,H,I.tok tk,rfl,q⟩
theorem zhV {ys:List Str}:∀ {us:List Value},zaX (ys.map V.str) us→StrsAre us ys:=by
 induction ys with
 | nil=>
  intro us r
  cases r
  exact .nil
 | cons y ys ih=>
  intro us r
  cases r with
  | cons r1 r2=>
   obtain⟨t,rfl⟩:=r1
   exact .cons _ _ (ih r2)
def rJoin (K:PySem.W.Frag):V→List V→Hp→VK→Prop:=fun x vs H Q=>∃ z a ys,x=.str z∧vs=[.ref a]∧SqL K H a (ys.map V.str)∧(ys.map (·.length)).sum + ys.length * z.length≤16777216∧Q (.str (Txt.join z ys)) H
theorem zdD:MtR X "str.join" (rJoin X.K):=by
 intro pins s σ H x xs v us Q I rx r h
 obtain⟨z,a,ys,rfl,rfl,hl,hz,q⟩:=h
 obtain⟨t,rfl⟩:=rx
 obtain⟨u,rfl,ru⟩:=zda r
 obtain rfl:u=Value.ref a:=ru
 obtain⟨its,rv,pl,_⟩:=I.list hl
 exact join_list pl.isList (by simpa using zhV rv) hz fun t' k=>⟨.str _,H,I.tok _,⟨_,rfl⟩,q⟩
end
end L2
namespace L2
open PySem PySem.Spec PyProof.Rows
structure ExcAt (H:Hp) (h:Heap) (a:Addr) (c:Value) (dd:Option Addr) (tb:Option (Addr×Value)):Prop where
 ob:∃ o vs,h.get? a=some o∧o.cls=c∧o.dict=dd∧o.data=.fields vs∧vs.size=6∧(∃ cs,zij H cs∧vs[2]?=some (nxt cs 0))∧vs[1]?=some (match tb with|none=>.none|some p=>.ref p.1)
 tr:∀ p,tb=some p→p.1≠a∧∃ oT ts,h.get? p.1=some oT∧oT.data=.fields ts∧ts[3]?=some p.2
structure Exc (X:Cx) (pins:List (Addr×Obj)) (H:Hp) (h:Heap) (a:Addr) (c:Value) (dd:Option Addr) (tb:Option (Addr×Value)):Prop where
 fp:zef X pins H a
 fpT:∀ p,tb=some p→zef X pins H p.1
 at_:ExcAt H h a c dd tb
theorem zeW (o:Obj) (f:Array Value→Array Value):(o.mapFields f).dict=o.dict:=by
 obtain⟨c,d,dt,sl⟩:=o
 cases dt <;> rfl
section
variable {X:Cx}{pins:List (Addr×Obj)}{σ:St}{H:Hp}{s:Shared}{a:Addr}{c:Value}{dd:Option Addr}
theorem Inv.slot0 {h':Heap}{ch:List Addr}{tk:Nat} (I:Inv X pins σ H s) (hch:∀ b∈ch,zef X pins H b) (keep:∀ b o,b∉frs X.stack→b∉ch→s.heap.get? b=some o→h'.get? b=some o)
  (slot:∀ b o,b∈frs X.stack→s.heap.get? b=some o→∃ sl,h'.get? b=some { o with slots:=sl }):Inv X pins σ H { s with heap:=h',toks:=tk }:=by
 have any:∀ b o,b∉ch→s.heap.get? b=some o→∃ sl,h'.get? b=some { o with slots:=sl }:=fun b o hc e=>by
  by_cases hb:b∈frs X.stack
  ·exact slot b o hb e
  ·exact⟨o.slots,keep b o hb hc e⟩
 have sub:∀ b,b∈frs X.stack→b=X.env.locals∨b∈X.fs:=fun b hb=>List.mem_cons.mp (I.stkSub b hb)
 refine I.step (g':=s.gens) (d':=s.drawn) (ch:=ch) (fun b hb=>?_) (fun b o hL hf hc e _=>keep b o (fun z=>(sub b z).elim hL hf) hc e) (fun b o _ _ hc e _=>any b o hc e) (fun _ _ _ _ n=>n) (fun b o hc e=>?_)
  (fun _ _ e=>e) (fun _ _ _ e=>e) (fun _ _ _ e=>e) (fun m hm=>?_) (fun b u e=>?_) I.bare
 ·obtain⟨_,f1,_,f3,f4,f5⟩:=hch b hb
  exact⟨f3,f1,f4,f5⟩
 ·obtain⟨sl,q⟩:=any b o hc e
  exact⟨_,q⟩
 ·obtain⟨o,es,ep,ho,r⟩:=hm
  obtain⟨sl,q⟩:=any _ o (fun z=>(hch _ z).2.1 rfl) ho
  exact⟨_,es,ep,q,r⟩
 ·have nf:∀ d v,H d=some v→d∉frs X.stack∧d∉ch:=fun d v q=>⟨fun z=>(by rw[I.stkFree d z] at q;cases q),fun z=>(by rw[(hch d z).1] at q;cases q)⟩
  refine(I.hok b u e).stay (fun d v hd q=>?_) (fun _ q=>q) fun _ _ q=>q
  rcases hd with z|z
  ·subst z
   exact keep d v (nf d _ e).1 (nf d _ e).2 q
  ·exact keep d v (nf d _ z).1 (nf d _ z).2 q
theorem Inv.slots {h':Heap}{ch:List Addr}{tk:Nat} (I:Inv X pins σ H s) (hch:∀ b∈ch,zef X pins H b) (keep:∀ b o,b∉frs X.stack→b∉ch→s.heap.get? b=some o→h'.get? b=some o)
  (slot:∀ b o,b∈frs X.stack→s.heap.get? b=some o→∃ sl,h'.get? b=some { o with slots:=sl }) (_:∀ b∈ch,∀ o,s.heap.get? b=some o→∃ o',h'.get? b=some o'):Inv X pins σ H { s with heap:=h',toks:=tk }:=I.slot0 hch keep slot
def Body (X:Cx):Prop:=X.stack=X.env::X.outer∧X.env.frame=some X.env.locals
theorem ze8 {M:Model}{E:Value→Shared→Prop}{Q:Unit→Shared→Prop}{o:Obj}{vs:Array Value}{head:Value}{hadNext:Bool} (B:Body X) (I:Inv X pins σ H s) (fp:zef X pins H a) (he:s.heap.get? a=some o) (hd:o.data=.fields vs) (hz:vs.size=6)
  (hQ:∀ s' T,Inv X pins σ H s'→s.heap.objs.size≤T→zef X pins H T→T≠a→s'.heap.get? a=some (o.mapFields (·.setIfInBounds 1 (.ref T)))→(∃ oT ts,s'.heap.get? T=some oT∧oT.data=.fields ts∧ts[3]?=some (rawInt X.env.locals))→Q () s') :
  wpAny M X.A (do let f ← frameOf X.env;let pl ← entryPlaceOf X.env.locals hadNext;let b ← EntryCells.newEntry head f .none (rawInt X.env.locals) .none pl;setField (.ref a) 1 b) Q E s:=by
 have hl:=I.stack
 rw[B.1] at hl
 have hfr:X.A.frames=some (X.env::X.outer):=by rw[I.ok.frames,B.1]
 have nfr:∀ b,zef X pins H b→b∉frs X.stack:=fun b f z=>(List.mem_cons.mp (I.stkSub b z)).elim f.2.1 f.2.2.1
 refine wpAny_bind (wpAny_frameOf_fun hfr hl B.2 fun h₁ hs₁=>?_)
 rw[← B.1] at hs₁
 refine wpAny_bind (wpAny_entryPlaceOf fun pl hpl=>?_)
 simp only[EntryCells.newEntry,newFields]
 refine wpAny_bind (wpAny_newObj_type ?_ (hpl.sizeOk5 _ _ _ _ _))
 generalize hoT:({ cls:=.type "traceback",dict:=none,data:=.fields ([head,.ref X.env.locals,.none,rawInt X.env.locals,.none]++(if pl.isEmpty then List.replicate 6 Value.none else pl)).toArray }:Obj)=oT
 have e1:h₁.get? a=some o:=(hs₁.2.1 a (nfr a fp)).trans he
 have e2:(h₁.push oT).get? a=some o:=Heap.get?_push_of_some _ e1
 have hsz:s.heap.objs.size=h₁.objs.size:=hs₁.1.symm
 have hTa:h₁.objs.size≠a:=Nat.ne_of_gt (Heap.lt_size e1)
 have hd3:=Obj.data_mapFields hd (·.setIfInBounds 1 (Value.ref h₁.objs.size))
 have e3:=Heap.get?_update_self (Obj.mapFields (·.setIfInBounds 1 (Value.ref h₁.objs.size))) e2 (Obj.isFreed_of_fields hd3)
 have eT:((h₁.push oT).update a (Obj.mapFields (·.setIfInBounds 1 (Value.ref h₁.objs.size)))).get? h₁.objs.size=some oT:=
  (Heap.get?_update_other _ _ (Ne.symm hTa)).trans (Heap.get?_push_size h₁ (by rw[← hoT];rfl))
 have kp:∀ b q,b≠a→h₁.get? b=some q→((h₁.push oT).update a (Obj.mapFields (·.setIfInBounds 1 (Value.ref h₁.objs.size)))).get? b=some q:=fun b q hb e=>
  (Heap.get?_update_other _ _ (Ne.symm hb)).trans (Heap.get?_push_of_some _ e)
 refine wpAny_setField e2 hd (by rw[hz];decide) ?_
 refine hQ _ h₁.objs.size (I.slots (ch:=[a]) (tk:=s.toks) (fun b hb=>?_) (fun b q hb hc e=>?_) (fun b q hb e=>?_) (fun b hb q e=>?_)) (Nat.le_of_eq hsz) (I.fpOk (Nat.le_of_eq hsz) (I.hok.fresh (Nat.le_of_eq hsz))) hTa e3 ⟨oT,_,eT,by rw[← hoT],?_⟩
 ·rw[List.mem_singleton.mp hb];exact fp
 ·exact kp b q (fun z=>hc (by simp[z])) ((hs₁.2.1 b hb).trans e)
 ·obtain⟨sl,q'⟩:=hs₁.2.2 b q e
  refine⟨sl,kp b _ (fun z=>?_) q'⟩
  subst z
  exact nfr b fp hb
 ·rw[List.mem_singleton.mp hb];exact⟨_,e3⟩
 ·first|(simp;done)|(rcases hpl with rfl|⟨_,_,_,_,_,_,_,rfl⟩ <;> simp)
theorem vs_set {vs:Array Value}{v:Value}{H:Hp} (hz:vs.size=6) (h2:∃ cs,zij H cs∧vs[2]?=some (nxt cs 0)):(vs.setIfInBounds 1 v).size=6∧(∃ cs,zij H cs∧(vs.setIfInBounds 1 v)[2]?=some (nxt cs 0))∧(vs.setIfInBounds 1 v)[1]?=some v:=by
 refine⟨by simpa using hz,?_,?_⟩
 ·obtain⟨cs,hc,h2⟩:=h2
  exact⟨cs,hc,by rw[Array.getElem?_setIfInBounds_ne (by decide)];exact h2⟩
 ·simp[hz]
theorem Inv.note {M:Model}{E:Value→Shared→Prop}{Q:Unit→Shared→Prop}{tb:Option (Addr×Value)} (B:Body X) (I:Inv X pins σ H s) (x:Exc X pins H s.heap a c dd tb) (hfl:∀ p,tb=some p→p.2=.none∨p.2=rawInt X.env.locals)
  (hQ:∀ s' T,Inv X pins σ H s'→Exc X pins H s'.heap a c dd (some (T,rawInt X.env.locals))→Q () s'):wpAny M X.A (noteFrame (.ref a) X.env) Q E s:=by
 obtain⟨o,vs,h1,hc,hdd,hd,hz,h2,hv1⟩:=x.at_.ob
 have fin:∀ s' T,Inv X pins σ H s'→zef X pins H T→T≠a→s'.heap.get? a=some (o.mapFields (·.setIfInBounds 1 (.ref T)))→(∃ oT ts,s'.heap.get? T=some oT∧oT.data=.fields ts∧ts[3]?=some (rawInt X.env.locals))→Q () s':=fun s' T I' fT ne e' tr=>by
  obtain⟨z1,z2,z3⟩:=vs_set (v:=.ref T) hz h2
  refine hQ s' T I' ⟨x.fp,fun p q=>?_,⟨_,_,e',(Obj.cls_mapFields _ _).trans hc,(zeW _ _).trans hdd,Obj.data_mapFields hd _,z1,z2,z3⟩,fun p q=>?_⟩
  ·cases q;exact fT
  ·cases q;exact⟨ne,tr⟩
 unfold noteFrame
 simp only[B.2]
 cases tb with
 | none=>
  refine wpAny_bind (wpAny_field h1 hd hv1 ?_)
  rw[if_neg (by decide)]
  exact ze8 B I x.fp h1 hd hz fun s' T I' _ fT ne e' tr=>fin s' T I' fT ne e' tr
 | some p=>
  obtain⟨T,fl⟩:=p
  obtain⟨ne,oT,ts,hT,hdT,h3⟩:=x.at_.tr _ rfl
  refine wpAny_bind (wpAny_field h1 hd hv1 ?_)
  rw[if_pos (show(Value.ref T != Value.none)=true from by simp)]
  refine wpAny_bind (wpAny_field hT hdT h3 ?_)
  rcases hfl _ rfl with z|z
  ·have z:fl=.none:=z
   subst z
   rw[if_neg (show ¬ ((Value.none == rawInt X.env.locals)=true) from by simp[rawInt])]
   refine wpAny_bind (wpAny_setField hT hdT (Array.getElem?_eq_some_iff.mp h3).1 ?_)
   have other:∀ b,b≠T→(s.heap.update T (Obj.mapFields (·.setIfInBounds 3 Value.none))).get? b=s.heap.get? b:=fun b hb=>Heap.get?_update_other _ _ (Ne.symm hb)
   have nfr:T∉frs X.stack:=fun z=>(List.mem_cons.mp (I.stkSub T z)).elim (x.fpT _ rfl).2.1 (x.fpT _ rfl).2.2.1
   have I1:Inv X pins σ H { s with heap:=s.heap.update T (Obj.mapFields (·.setIfInBounds 3 Value.none)) }:=I.slots (ch:=[T]) (tk:=s.toks) (fun b hb=>by rw[List.mem_singleton.mp hb];exact x.fpT _ rfl)
    (fun b q _ hc e=>(other b fun z=>hc (by simp[z])).trans e) (fun b q hb e=>⟨q.slots,(other b fun z=>nfr (z ▸ hb)).trans e⟩)
    (fun b hb q e=>(by obtain rfl:=List.mem_singleton.mp hb;exact⟨_,Heap.get?_update_self _ hT (Obj.isFreed_of_fields (Obj.data_mapFields hdT _))⟩))
   exact ze8 B I1 x.fp ((other a (Ne.symm ne)).trans h1) hd hz fun s' T' I' _ fT' ne' e' tr=>fin s' T' I' fT' ne' e' tr
  ·have z:fl=rawInt X.env.locals:=z
   subst z
   rw[if_pos (show(rawInt X.env.locals == rawInt X.env.locals)=true from beq_self_eq_true _)]
   exact wpAny_pure (hQ s T I x)
theorem Inv.land {M:Model}{E:Value→Shared→Prop}{Q:Unit→Shared→Prop}{T:Addr}{fl:Value}{A:Around} (I:Inv X pins σ H s) (x:Exc X pins H s.heap a c dd (some (T,fl)))
  (hQ:∀ s',Inv X pins σ H s'→Exc X pins H s'.heap a c dd (some (T,.none))→Q () s'):wpAny M A (setFlight (.ref a) none) Q E s:=by
 obtain⟨o,vs,h1,hc,hdd,hd,hz,h2,hv1⟩:=x.at_.ob
 obtain⟨ne,oT,ts,hT,hdT,h3⟩:=x.at_.tr _ rfl
 have h33:3<ts.size:=(Array.getElem?_eq_some_iff.mp h3).1
 unfold setFlight
 refine wpAny_bind (wpAny_field h1 hd hv1 ?_)
 rw[if_pos (show(Value.ref T != Value.none)=true from by simp)]
 refine wpAny_setField hT hdT h33 ?_
 have other:∀ b,b≠T→(s.heap.update T (Obj.mapFields (·.setIfInBounds 3 ((none:Option Addr).elim Value.none fun f=>rawInt f)))).get? b=s.heap.get? b:=fun b hb=>Heap.get?_update_other _ _ (Ne.symm hb)
 have self:=Heap.get?_update_self (Obj.mapFields (·.setIfInBounds 3 ((none:Option Addr).elim Value.none fun f=>rawInt f))) hT (Obj.isFreed_of_fields (Obj.data_mapFields hdT _))
 have nfr:T∉frs X.stack:=fun z=>(List.mem_cons.mp (I.stkSub T z)).elim (x.fpT _ rfl).2.1 (x.fpT _ rfl).2.2.1
 refine hQ _ (I.slots (ch:=[T]) (tk:=s.toks) (fun b hb=>by rw[List.mem_singleton.mp hb];exact x.fpT _ rfl) (fun b q _ hc e=>(other b fun z=>hc (by simp[z])).trans e)
  (fun b q hb e=>⟨q.slots,(other b fun z=>nfr (z ▸ hb)).trans e⟩) (fun b hb q e=>(by obtain rfl:=List.mem_singleton.mp hb;exact⟨_,self⟩))) ⟨x.fp,fun p q=>?_,⟨o,vs,(other a (Ne.symm ne)).trans h1,hc,hdd,hd,hz,h2,hv1⟩,fun p q=>?_⟩
 ·cases q;exact x.fpT (T,fl) rfl
 ·cases q;exact⟨ne,_,_,self,Obj.data_mapFields hdT _,by simp[h33]⟩
end
def CXe (P:Program) (w:World):CXT:=fun outer H s E e s'=>∃ a c dd T H',e=.ref a∧s'.os=s.os∧AllBare s'.gens∧Un (frs outer) [] H H' s.heap s'.heap∧HOk P w H' s'.heap ∧
 (s.heap.objs.size≤a∧H' a=none)∧(s.heap.objs.size≤T∧H' T=none)∧ExcAt H' s'.heap a c dd (some (T,.none))∧E c dd H'
abbrev RK:=St→XK
def PX (X:Cx) (R:RK):Prop:=∀ (pins:List (Addr×Obj)) (σ:St) (H:Hp) (s:Shared) (a:Addr) (c:Value) (dd:Option Addr) (tb:Option Addr),Inv X pins σ H s→Exc X pins H s.heap a c dd (tb.map fun T=>(T,Value.none))→R σ c dd H→X.xe (.ref a) s
theorem zkJ {tb:Option Addr}{v:Value}:∀ p,(tb.map fun T=>(T,Value.none))=some p→p.2=Value.none∨p.2=v:=fun p e=>by
 cases tb with
 | none=>cases e
 | some T=>cases e;exact .inl rfl
theorem zaJ {P:Program}{w:World}{K:PySem.W.Frag}{mg:Str→Option Value}{base:Heap}{N:List Str}{qual:Str}{scope:Scope}{f:Addr}{cd:Value}{A:Around}{outer:List Env}{s:Shared}{H:Hp}{E:XK} :
  PX (zjR (CXe P w) P w K mg base N qual scope f cd A outer s H E) (fun _=>E):=by
 intro pins σ H' s1 a c dd tb I x hE
 have B:Body (zjR (CXe P w) P w K mg base N qual scope f cd A outer s H E):=⟨rfl,rfl⟩
 show wpAny _ _ (leaving _ (.ref a)) _ _ s1
 unfold leaving
 refine wpAny_bind (I.note B x zkJ fun s2 T I2 x2=>?_)
 refine I2.land x2 fun s3 I3 x3=>?_
 have sz:∀ b,zef (zjR (CXe P w) P w K mg base N qual scope f cd A outer s H E) pins H' b→s.heap.objs.size≤b∧H' b=none:=fun b fb=>by
  refine⟨?_,fb.1⟩
  rcases fb.2.2.2.1 with z|z
  ·exact absurd (show b∈([]:List Addr) from z) (by simp)
  ·exact z
 exact⟨a,c,dd,T,H',rfl,I3.os,I3.bare,I3.base,I3.hok,sz a x3.fp,sz T (x3.fpT _ rfl),x3.at_,hE⟩
theorem zli {X:Cx}{R:RK} (hp:PX X R):∀ (pins:List (Addr×Obj)) (σ:St) (H:Hp) (s:Shared) (e:Value) (s':Shared),Inv X pins σ H s→CXe X.prog X.w X.stack H s (R σ) e s'→X.xe e s':=by
 intro pins σ H s e s' I h
 obtain⟨a,c,dd,T,H',rfl,os,bare,un,hok,ha,hT,x,hE⟩:=h
 have I':Inv X pins σ H' s':=I.call' os un hok bare fun b z=>absurd z (by simp)
 refine hp pins σ H' s' a c dd (some T) I' ⟨I.fpOk ha.1 ha.2,fun p q=>?_,x⟩ hE
 cases q
 exact I.fpOk hT.1 hT.2
end L2
namespace L2
open PySem PySem.Spec PyProof.Rows
section
variable {prog:Program}{w:World}{A:Around}{E:Value→Shared→Prop}{h:Heap}{g:Array GenState}{d:Drawn}{t:Nat}{os:OsState}
variable {nm q:Str}{C N:Addr}{bs bm bmB:List Value}{hdct:Bool}{sn:List Str}{sub:List Value}{ab:Bool}{col:Option Bool}{dd:Option Addr}{k0 k1 k2 k3 k5:Option Value}{B newId initId:String}
abbrev zdg (C t:Addr):Obj:={ cls:=.ref C,data:=.fields #[.ref t,.none,.none,.none,.bool false,.none] }
abbrev zdQ (zbx:List Value):Obj:={ cls:=.type "tuple",data:=.seq zbx.toArray }
theorem ziP (F:ExcBaseFacts B newId initId bmB) (T:OwnTail h bmB bm){zbx:List Value}{Q:Value→Shared→Prop}
  (oC:h.get? C=some (excClassObj nm q C N bs bm hdct sn sub ab col dd k0 k1 k2 k3 k5 newId)) (lk:PySem.W.Looks (model prog w) h (typeLookup (.ref C) "__init__") (some (.builtin initId))) (few:zbx.length≤sizeLine)
  (fin:∀ h',(∀ b o,h.get? b=some o→h'.get? b=some o)→h'.get? (h.objs.size + 1)=some (zdg C (h.objs.size + 2))→Q (.ref (h.objs.size + 1)) ⟨h',g,d,t,os⟩) :
  wpAny (model prog w) A (call (.ref C) zbx) Q E ⟨h,g,d,t,os⟩:=by
 have l1:=tc_lookup
 have l2:=tc_bind (.ref C)
 have tyC:(⟨h,g,d,t,os⟩:Shared).TypeIs (.ref C) "type":=⟨_,oC,rfl⟩
 refine wpAny_call (codeAny_of_tree ?_)
 show wpAny _ _ (callAny (.ref C) _) _ _ _
 repeat (any_goals (first|assumption|(with_reducible refine wpAny_loadPart_at oC ?_)|wp_step))
 refine⟨rfl,codeAny_call_builtin_at (Code.quiet_builtin _ (by decide +kernel)) entry_typeCall (wpAny_check_type_call_sub oC ?_)⟩
 show wpAny _ (A.under (.builtin "type.__call__" ⟨.ref C::zbx,[]⟩)) (Builtin.«type.__call__» ⟨.ref C::zbx,[]⟩) _ _ _
 repeat (first|(with_reducible refine wpAny_loadPart_at oC ?_)|(with_reducible refine wpAny_madeBy_exc oC ?_)|wp_step)
 refine codeAny_call_builtin_code (Code.quiet_builtin _ F.quiet) (wpAny_check_new_subT F T oC (codeAny_exc_new_subT F T oC ?_ few))
 show wpAny _ _ _ _ _ _
 have kk:∀ b o,h.get? b=some o→((h.push (zdQ zbx)).push (zdg C h.objs.size)).get? b=some o:=fun b o e=>Heap.get?_push_of_some _ (Heap.get?_push_of_some _ e)
 have oC1:=kk _ _ oC
 have oX:((h.push (zdQ zbx)).push (zdg C h.objs.size)).get? (h.objs.size + 1)=some { cls:=.ref C,data:=.fields #[.ref h.objs.size,.none,.none,.none,.bool false,.none] }:=by heap_get
 have isC:(Value.ref C::bm).contains (.ref C)=true:=by simp
 have T1:=T.keeps kk
 unfold isInstance
 repeat (first|(with_reducible refine wpAny_loadPart_at oX ?_)|(with_reducible refine wpAny_isSubtype_exc oC1 ?_;rw[isC])|wp_step)
 show wpAny _ _ (typeLookup (.ref C) _) _ _ _
 refine lk _ _ _ _ kk ?_
 refine wpAny_holding (wpAny_bind (wpAny_of_eq (F.init.bind _) (wpAny_bind (wpAny_call (codeAny_call_builtin F.init.plain F.initEntry (wpAny_check_init_subT F T1 oC1 oX rfl ?_))))))
 wp_walk
 refine fin _ (fun b o hb=>?_) ?_
 ·rw[Heap.get?_update_other _ _ (Nat.ne_of_gt (Nat.lt_succ_of_lt (Heap.lt_size hb)))]
  exact Heap.get?_push_of_some _ (kk b o hb)
 ·rw[Heap.get?_update_self _ (Heap.get?_push_of_some _ oX) rfl]
  simp only[Heap.size_push];rfl
theorem ziQ (F:ExcBaseFacts B newId initId bmB) (T:OwnTail h bmB bm){zbx:List Value}{fI:Addr}{oI:Obj}{Q:Value→Shared→Prop}
  (oC:h.get? C=some (excClassObj nm q C N bs bm hdct sn sub ab col dd k0 k1 k2 k3 k5 newId)) (lk:PySem.W.Looks (model prog w) h (typeLookup (.ref C) "__init__") (some (.ref fI))) (oF:h.get? fI=some oI) (fF:oI.cls=.type "function") (few:zbx.length≤sizeLine)
  (fin:wpAny (model prog w) (A.under (.builtin "type.__call__" ⟨.ref C::zbx,[]⟩)) (call (.ref fI) (.ref (h.objs.size + 1)::zbx)) (fun r s'=>r=.none∧Q (.ref (h.objs.size + 1)) s') E ⟨(h.push (zdQ zbx)).push (zdg C h.objs.size),g,d,t,os⟩) :
  wpAny (model prog w) A (call (.ref C) zbx) Q E ⟨h,g,d,t,os⟩:=by
 have l1:=tc_lookup
 have l2:=tc_bind (.ref C)
 have tyC:(⟨h,g,d,t,os⟩:Shared).TypeIs (.ref C) "type":=⟨_,oC,rfl⟩
 refine wpAny_call (codeAny_of_tree ?_)
 show wpAny _ _ (callAny (.ref C) _) _ _ _
 repeat (any_goals (first|assumption|(with_reducible refine wpAny_loadPart_at oC ?_)|wp_step))
 refine⟨rfl,codeAny_call_builtin_at (Code.quiet_builtin _ (by decide +kernel)) entry_typeCall (wpAny_check_type_call_sub oC ?_)⟩
 show wpAny _ (A.under (.builtin "type.__call__" ⟨.ref C::zbx,[]⟩)) (Builtin.«type.__call__» ⟨.ref C::zbx,[]⟩) _ _ _
 repeat (first|(with_reducible refine wpAny_loadPart_at oC ?_)|(with_reducible refine wpAny_madeBy_exc oC ?_)|wp_step)
 refine codeAny_call_builtin_code (Code.quiet_builtin _ F.quiet) (wpAny_check_new_subT F T oC (codeAny_exc_new_subT F T oC ?_ few))
 show wpAny _ _ _ _ _ _
 have kk:∀ b o,h.get? b=some o→((h.push (zdQ zbx)).push (zdg C h.objs.size)).get? b=some o:=fun b o e=>Heap.get?_push_of_some _ (Heap.get?_push_of_some _ e)
 have oC1:=kk _ _ oC
 have oF1:=kk _ _ oF
 have oX:((h.push (zdQ zbx)).push (zdg C h.objs.size)).get? (h.objs.size + 1)=some { cls:=.ref C,data:=.fields #[.ref h.objs.size,.none,.none,.none,.bool false,.none] }:=by heap_get
 have isC:(Value.ref C::bm).contains (.ref C)=true:=by simp
 unfold isInstance
 repeat (first|(with_reducible refine wpAny_loadPart_at oX ?_)|(with_reducible refine wpAny_isSubtype_exc oC1 ?_;rw[isC])|wp_step)
 show wpAny _ _ (typeLookup (.ref C) _) _ _ _
 refine lk _ _ _ _ kk ?_
 refine wpAny_holding (wpAny_bind ?_)
 unfold bindSpecial
 refine wpAny_bind (wpAny_typeOf (T:="function") ⟨_,oF1,fF⟩ ?_)
 rw[if_pos (by decide)]
 refine wpAny_pure (wpAny_bind (wpAny_mono fin (fun r s' z=>?_) fun _ _ x=>x))
 obtain⟨rfl,z⟩:=z
 wp_walk
 exact z
theorem zhW {M:Model}{env:Env}{s:Shared}{x:Sem Value}{Q:Flow→Shared→Prop} (hb:bm.contains (.type "BaseException")=true)
  (hx:wpAny M A x (fun v s₁=>∃ e t dx,v=.ref e∧s₁.heap.get? C=some (excClassObj nm q C N bs bm hdct sn sub ab col dd k0 k1 k2 k3 k5 newId)∧s₁.heap.get? e=some { cls:=.ref C,dict:=dx,data:=.fields #[.ref t,.none,.none,.none,.bool false,.none] }∧wpAny M A (raiseNew (.ref e):Sem Flow) Q E s₁) E s) :
  wpAny M A (raiseStmt env (some x) none) Q E s:=by
 have isB:(Value.ref C::bm).contains (.type "BaseException")=true:=by rw[List.contains_cons,hb,Bool.or_true]
 unfold raiseStmt
 refine wpAny_bind (wpAny_mono hx (fun v s₁ z=>?_) fun _ _ y=>y)
 obtain⟨e,t,dx,rfl,oC,oe,z⟩:=z
 obtain⟨hp,g,d,tk,os⟩:=s₁
 repeat (first|exact z|(with_reducible refine wpAny_loadPart_at oe ?_)|(with_reducible refine wpAny_loadPart_at oC ?_)|(with_reducible refine wpAny_isSubtype_exc oC ?_;rw[isB])|wp_step)
end
def ziR (K:PySem.W.Frag) (C:Addr) (bmB:List Value) (newId:String):Bool:=match K.lookup C with
 | some ⟨.type "type",_,.cls cd,sl⟩=>(match cd.mro,sl.toList with
  | .ref C1::bm,[_,_,_,_,some (.builtin n),_]=>C1 == C && n == newId && !cd.hasDel && PySem.W.tailIn K bmB bm
  | _,_=>false)
 | _=>false
structure XCls (h:Heap) (C:Addr) (bmB bm:List Value) (newId:String):Prop where
 obj:∃ nm q N bs hdct sn sub ab col dd k0 k1 k2 k3 k5,h.get? C=some (excClassObj nm q C N bs bm hdct sn sub ab col dd k0 k1 k2 k3 k5 newId)
 tail:OwnTail h bmB bm
theorem zdh {K:PySem.W.Frag}{h:Heap}{C:Addr}{bmB:List Value}{newId:String} (X:K.In h) (e:ziR K C bmB newId=true):∃ bm,XCls h C bmB bm newId:=by
 unfold ziR at e
 split at e
 ·rename_i d1 c1 s1 at1
  split at e
  ·rename_i C1 bm j0 j1 j2 j3 n1 j5 m1 z1
   simp only[Bool.and_eq_true,beq_iff_eq,Bool.not_eq_true'] at e
   obtain⟨⟨⟨rfl,rfl⟩,nd⟩,tl⟩:=e
   obtain⟨f1,f2,f3,f4,f5,f6,f7,f8,f9,f10,f11⟩:=c1
   dsimp only at m1 nd
   subst m1 nd
   obtain rfl:s1=#[j0,j1,j2,j3,some (.builtin n1),j5]:=by
    obtain⟨l1⟩:=s1
    simp only at z1
    rw[z1]
   exact⟨bm,⟨f1,f5,f4,f2,f6,f7,f8,f9,f10,d1,j0,j1,j2,j3,j5,X _ _ at1⟩,PySem.W.tail_of_in X tl⟩
  ·cases e
 ·cases e
end L2
namespace L2
open PySem PySem.Spec PyProof.Rows PySem.Builtin.ObjectAttr
abbrev bmV:List Value:=[.type "ValueError",.type "Exception",.type "BaseException",.type "object"]
theorem passV (self:Value):refuseLoop self "__setattr__" bmV=pure ():=by kernel_rfl
def zlV:List Value→Bool
 | .ref _::r=>zlV r
 | l=>l == bmV
theorem zgh (self:Value):∀ {l:List Value},zlV l=true→refuseLoop self "__setattr__" l=pure ()
 | .ref c::r,e=>by rw[refuseLoop_ref];exact zgh self (l:=r) (by simpa [zlV] using e)
 | [],e=>by cases e
 | .type n::r,e=>by rw[beq_iff_eq.mp (show((Value.type n::r) == bmV)=true from e)];exact passV self
 | .none::r,e=>by cases e
 | .bool _::r,e=>by cases e
 | .int _ _::r,e=>by cases e
 | .str _ _::r,e=>by cases e
 | .bytes _ _::r,e=>by cases e
 | .float _ _::r,e=>by cases e
 | .builtin _::r,e=>by cases e
 | .notImplemented::r,e=>by cases e
 | .ellipsis::r,e=>by cases e
theorem zhq:∀ {l:List Value},zlV l=true→l.contains (.type "object")=true
 | .ref c::r,e=>by rw[List.contains_cons,zhq (l:=r) (by simpa [zlV] using e),Bool.or_true]
 | [],e=>by cases e
 | .type n::r,e=>by rw[beq_iff_eq.mp (show((Value.type n::r) == bmV)=true from e)];rfl
 | .none::r,e=>by cases e
 | .bool _::r,e=>by cases e
 | .int _ _::r,e=>by cases e
 | .str _ _::r,e=>by cases e
 | .bytes _ _::r,e=>by cases e
 | .float _ _::r,e=>by cases e
 | .builtin _::r,e=>by cases e
 | .notImplemented::r,e=>by cases e
 | .ellipsis::r,e=>by cases e
def ownVIn (K:PySem.W.Frag) (C:Addr):Bool:=(PySem.W.clsIn K C).any fun cd=>zlV cd.mro
structure XSet (K:PySem.W.Frag) (C:Addr) (f:Str):Prop where
 sa:PySem.W.findIn K (.ref C) "__setattr__"=some (some (.builtin "object.__setattr__"))
 ov:ownVIn K C=true
 tk:PySem.W.takerIn K C f=some none
 hd:PySem.W.hasDictIn K C=true
section
variable {prog:Program}{w:World}{A:Around}{E:Value→Shared→Prop}{s:Shared}{K:PySem.W.Frag}{C x:Addr}{name:Str}{v:Value}{vs:Array Value}
theorem zlj {Q:Unit→Shared→Prop} (X:K.In s.heap) (hx:s.heap.get? x=some { cls:=.ref C,data:=.fields vs }) (Z:XSet K C name)
  (fin:∀ h',(∀ b o,b≠x→s.heap.get? b=some o→h'.get? b=some o)→h'.get? x=some { cls:=.ref C,dict:=some s.heap.objs.size,data:=.fields vs } →
   h'.Ns1 s.heap.objs.size (fun y=>if y=name then some v else none)→Q () { s with heap:=h',toks:=s.toks + 2 }):wpAny (model prog w) A (setAttr (.ref x) name v) Q E s:=by
 have J:PySem.W.InstAt s.heap x { cls:=.ref C,data:=.fields vs } C none:=⟨hx,rfl,rfl,True.intro⟩
 refine PySem.W.set_plain X J Z.sa ?_
 have SF:=PySem.F.store_object
 obtain⟨cd,hc,ho⟩:=PySem.W.any_some Z.ov
 have ne:cd.mro.isEmpty=false:=by cases q:cd.mro with|nil=>rw[q] at ho;cases ho|cons _ _=>rfl
 have isO:PySem.W.Looks (model prog w) s.heap (isInstance (.ref x) (.type "object")) true:=J.type.andThen (PySem.W.looks_mroIn X (by unfold PySem.W.mroIn;rw[hc,Option.bind_some,if_neg (by rw[ne];decide),zhq ho]))
 refine codeAny_call_builtin SF.slot.plain SF.entry (@PySem.W.check_slot (model prog w) _ _ { s with toks:=s.toks + 1 } "object.__setattr__" "object" "__setattr__" (.ref x) [.str name s.toks,v] [] _ SF.kind SF.split isO (SF.args (.ref x) (.str name s.toks) v) ?_)
 obtain⟨attr,ha,hr⟩:=Option.bind_eq_some_iff.mp Z.tk
 have mr:PySem.W.Looks (model prog w) s.heap (mroOf (.ref C)) cd.mro:=(PySem.W.looks_clsIn X hc).andThen .now
 have tk:PySem.W.Looks (model prog w) s.heap (storeTaker? attr) none:=by
  cases attr with
  | none=>cases hr;exact .now
  | some a=>
   obtain⟨b,hb,z⟩:=Option.map_eq_some_iff.mp hr
   refine(PySem.W.looks_takesIn X hb).andThen ?_
   cases b with
   | true=>cases z
   | false=>exact .now
 rw[PySem.W.osa_eq,refuse_eq]
 refine wpAny_bind (wpAny_bind (PySem.W.Looks.here (s:={ s with toks:=s.toks + 1 }) J.type (wpAny_bind (PySem.W.Looks.here (s:={ s with toks:=s.toks + 1 }) mr ?_))))
 rw[zgh _ ho]
 refine wpAny_pure (wpAny_bind (PySem.W.Looks.here (s:={ s with toks:=s.toks + 1 }) J.type (wpAny_bind (PySem.W.Looks.here (s:={ s with toks:=s.toks + 1 }) (PySem.W.looks_findIn X ha) (wpAny_bind (PySem.W.Looks.here (s:={ s with toks:=s.toks + 1 }) tk ?_))))))
 obtain⟨cd',hc',hd'⟩:=PySem.W.any_some Z.hd
 refine wpAny_bind (wpAny_pure (wpAny_bind (wpAny_bind (wpAny_loadPart hx (wpAny_bind (PySem.W.Looks.here (s:={ s with toks:=s.toks + 1 }) (PySem.W.looks_clsIn X hc') ?_))))))
 rw[hd']
 have lt:=Heap.lt_size hx
 have xs:x≠s.heap.objs.size:=Nat.ne_of_lt lt
 have hx1:(s.heap.push { cls:=.type "dict",data:=.dict #[] }).get? x=some { cls:=.ref C,data:=.fields vs }:=Heap.get?_push_of_some _ hx
 refine wpAny_bind (wpAny_alloc' (wpAny_bind (wpAny_update' hx1 (wpAny_pure (wpAny_bind (wpAny_pure (wpAny_bind ?_)))))))
 generalize hG:(s.heap.push { cls:=.type "dict",data:=.dict #[] }).update x (fun o=>{ cls:=o.cls,dict:=some s.heap.objs.size,data:=o.data,slots:=o.slots })=G
 have oth:∀ b,b≠x→G.get? b=(s.heap.push { cls:=.type "dict",data:=.dict #[] }).get? b:=fun b hb=>by rw[← hG];exact Heap.get?_update_other _ _ (Ne.symm hb)
 have gd:G.get? s.heap.objs.size=some { cls:=.type "dict",data:=.dict #[] }:=(oth _ (Ne.symm xs)).trans (Heap.get?_push_size _ rfl)
 have gx:G.get? x=some { cls:=.ref C,dict:=some s.heap.objs.size,data:=.fields vs }:=by rw[← hG,Heap.get?_update_self _ hx1 rfl]
 have n0:G.Ns s.heap.objs.size (fun _=>none):=⟨_,#[],_,gd,rfl,fun e he=>absurd he (by simp),fun _=>rfl⟩
 refine wpAny_nsSet1 (s:=⟨G,s.gens,s.drawn,s.toks + 1,s.os⟩) (Heap.Ns1.of_empty n0) fun h' hn2 hs2=>?_
 obtain⟨oD,esD,epD,hoD,hdD,hcD⟩:=hn2.count (ns:=[name]) (fun y hy=>by
  split at hy
  ·rename_i z;simp[z]
  ·exact absurd rfl hy)
 refine wpAny_bind (wpAny_lookBehind hoD (by rw[hdD];exact pastItsLine_dict (Nat.le_trans hcD (by simp[sizeLine_eq]))) ?_)
 refine wpAny_pure (fin h' (fun b o hb q=>?_) ((hs2.2 _ xs).trans gx) hn2)
 exact(hs2.2 b (Nat.ne_of_lt (Heap.lt_size q))).trans ((oth b hb).trans (Heap.get?_push_of_some _ q))
end
structure XGet (K:PySem.W.Frag) (C:Addr) (f:Str):Prop where
 ga:PySem.W.findIn K (.ref C) "__getattribute__"=some (some (.builtin "BaseException.__getattribute__"))
 gt:PySem.W.findIn K (.ref C) "__getattr__"=some none
 ba:PySem.W.mroIn K C (.type "BaseException")=some true
 na:PySem.W.findIn K (.ref C) f=some none
 hd:PySem.W.hasDictIn K C=true
section
variable {prog:Program}{w:World}{A:Around}{E:Value→Shared→Prop}{s:Shared}{K:PySem.W.Frag}{C x dx:Addr}{name:Str}{v:Value}{o:Obj}{mA:Str→Option Value}
end
end L2
namespace L2
open PySem PySem.Spec PyProof.Rows
def del (H:Hp) (a:Addr):Hp:=fun b=>if b=a then none else H b
theorem zhr {H:Hp}{a:Addr}:del H a a=none:=by unfold del;rw[if_pos rfl]
theorem zex {H:Hp}{a b:Addr} (h:b≠a):del H a b=H b:=by unfold del;rw[if_neg h]
def zid (C t a:Addr) (dx:Option Addr):HO:=.ext fun h=>h.get? a=some { cls:=.ref C,dict:=dx,data:=.fields #[.ref t,.none,.none,.none,.bool false,.none] }
section
variable {X:Cx}{pins:List (Addr×Obj)}{σ:St}{H:Hp}{s:Shared}
theorem Inv.del {a:Addr}{φ:Heap→Prop} (I:Inv X pins σ H s) (e:H a=some (.ext φ)):Inv X pins σ (del H a) s:=by
 have ne:∀ b u,H b=some u→(∀ ψ,u≠.ext ψ)→b≠a:=fun b u q n z=>by rw[z,e] at q;cases q;exact n _ rfl
 have un:Un X.fs X.ex X.H₀ (L2.del H a) X.s₀.heap s.heap:=by
  obtain⟨b1,b2,b3,b4,b5,b6,b7⟩:=I.base
  refine⟨b1,b2,fun b o q n x=>?_,b4,fun b xs q=>?_,fun b o u q=>?_,fun b pp pq q=>?_⟩
  ·unfold L2.del;split
   ·rfl
   ·exact b3 b o q n x
  ·have:=b5 b xs q
   rw[zex (ne b _ this (by intro ψ z;cases z))];exact this
  ·have:=b6 b o u q
   rw[zex (ne b _ this (by intro ψ z;cases z))];exact this
  ·have:=b7 b pp pq q
   rw[zex (ne b _ this (by intro ψ z;cases z))];exact this
 have none_of:∀ b,H b=none→L2.del H a b=none:=fun b q=>by unfold L2.del;split <;> first|rfl|exact q
 refine { I with base:=un,free:=none_of _ I.free,freeC:=fun x c q=>none_of _ (I.freeC x c q),pin:=fun p hp=>?_,hok:=fun b o q=>?_ }
 ·obtain⟨p1,p2,p3⟩:=I.pin p hp
  exact⟨p1,none_of _ p2,p3⟩
 ·by_cases hb:b=a
  ·subst hb;rw[zhr] at q;cases q
  ·rw[zex hb] at q
   refine(I.hok b o q).stay (fun c u _ r=>r) (fun c r=>?_) (fun c xs r=>?_) fun c ob r=>?_
   ·rw[zex (ne c _ r (by intro ψ z;cases z))];exact r
   ·rw[zex (ne c _ r (by intro ψ z;cases z))];exact r
   ·rw[zex (ne c _ r (by intro ψ z;cases z))];exact r
theorem zgi {R:RK}{C t a:Addr}{dx:Option Addr}{Q:Flow→Shared→Prop} (hp:PX X R) (I:Inv X pins σ H s) (fp:zef X pins H a)
  (he:s.heap.get? a=some { cls:=.ref C,dict:=dx,data:=.fields #[.ref t,.none,.none,.none,.bool false,.none] }) (hR:R σ (.ref C) dx H):wpAny (model X.prog X.w) X.A (raiseNew (.ref a):Sem Flow) Q X.xe s:=by
 obtain⟨f0,f1,f2,f3,f4,f5⟩:=id fp
 refine zhm (s:=s) ?_ he rfl (by simp) fun h' o' vs' k1 k2 k3 k4 k5 k6 k7 k8=>?_
 ·rcases I.hdAt with z|⟨b,cs,z,c⟩
  ·exact .inl z
  ·exact .inr ⟨b,cs,z,c.chn I.hok,c.not_mem f0⟩
 ·have I':Inv X pins σ H { s with heap:=h' }:=I.turned (t':=s.toks) k1 f0 f1 f3 f4 f5
  refine hp pins σ H _ a (.ref C) dx none I' ⟨fp,fun p q=>(by cases q),⟨⟨o',vs',k2,k3,k4,k5,k6,?_,?_⟩,fun p q=>(by cases q)⟩⟩ hR
  ·rcases I.hdAt with z|⟨b,cs,z,c⟩
   ·rw[z] at k8
    exact⟨[],⟨List.nodup_nil,fun j a q=>by simp at q⟩,k8⟩
   ·rw[z] at k8
    exact⟨b::cs,c,k8⟩
  ·exact k7
end
structure XC0 (K:PySem.W.Frag) (C:Addr):Prop where
 at_:ziR K C bmV "ValueError.__new__"=true
 kp:PySem.W.keepIn K (.ref C)=true
 init:PySem.W.findIn K (.ref C) "__init__"=some (some (.builtin "ValueError.__init__"))
structure XCI (K:PySem.W.Frag) (C f:Addr):Prop where
 at_:ziR K C bmV "ValueError.__new__"=true
 kp:PySem.W.keepIn K (.ref C)=true
 init:PySem.W.findIn K (.ref C) "__init__"=some (some (.ref f))
 fn:PySem.W.isFn K (.ref f)=true
def zlk (C:Addr) (R:RK) (t:TA):TS:=fun _ σ H=>t σ H fun vs H1=>vs.length≤sizeLine∧R σ (.ref C) none H1
def ziS (C:Addr) (sp:Sp) (dvs:List V) (R:RK) (t:TA):TS:=fun _ σ H=>t σ H fun vs H1=>vs.length≤sizeLine∧∀ a t',H1 a=none →
 sp (.ref a::(vs++dvs)) (upd H1 a (zid C t' a none)) (fun v H2=>v=.non∧∃ dx,H2 a=some (zid C t' a dx)∧R σ (.ref C) dx (del H2 a)) (R σ)
section
variable {X:Cx}{R:RK}{C:Addr}{x:Str}{np cpos pos:Pos}{e:Expr}{es:List Expr}{t:TA}
theorem zhs {a:List Expr}{s:Shared}{bm:List Value}{Q:Flow→Shared→Prop} (hx:XCls s.heap C bmV bm "ValueError.__new__")
  (h:wpAny (model X.prog X.w) X.A (eval (.Call (.Name x np) a [] cpos) X.env) (fun v s₁=>∃ b t dx,v=.ref b∧(∀ o,s.heap.get? C=some o→s₁.heap.get? C=some o)∧s₁.heap.get? b=some { cls:=.ref C,dict:=dx,data:=.fields #[.ref t,.none,.none,.none,.bool false,.none] }∧wpAny (model X.prog X.w) X.A (raiseNew (.ref b):Sem Flow) Q X.xe s₁) X.xe s) :
  wpAny (model X.prog X.w) X.A (exec (.Raise (some (.Call (.Name x np) a [] cpos)) none pos) X.env) Q X.xe s:=by
 obtain⟨⟨nm,q,N,bs,hdct,sn,sub,ab,col,dd,k0,k1,k2,k3,k5,oC⟩,T⟩:=hx
 rw[arm_exec_Raise]
 refine wpAny_bind (wpAny_standAt (zhW (C:=C) (nm:=nm) (q:=q) (N:=N) (bs:=bs) (bm:=bm) (hdct:=hdct) (sn:=sn) (sub:=sub) (ab:=ab) (col:=col) (dd:=dd) (k0:=k0) (k1:=k1) (k2:=k2) (k3:=k3) (k5:=k5) (newId:="ValueError.__new__") (T.hasType rfl) (wpAny_bind (wpAny_mono h (fun v s1 z=>wpAny_bind (wpAny_standAt (wpAny_pure ?_))) fun _ _ y=>y))))
 obtain⟨b,t,dx,z1,z2,z3,z4⟩:=z
 exact⟨b,t,dx,z1,z2 _ oC,z3,z4⟩
theorem zhX {pins:List (Addr×Obj)}{σ:St}{H:Hp}{s0 s:Shared}{us:List Value}{Q:Flow→Shared→Prop} (hp:PX X R) (c:XC0 X.K C) (I:Inv X pins σ H s) (hz:us.length≤sizeLine) (hs:∀ o,s0.heap.get? C=some o→s.heap.get? C=some o) (hR:R σ (.ref C) none H) :
  wpAny (model X.prog X.w) X.A (call (.ref C) us) (fun v s₁=>∃ b t dx,v=.ref b∧(∀ o,s0.heap.get? C=some o→s₁.heap.get? C=some o)∧s₁.heap.get? b=some { cls:=.ref C,dict:=dx,data:=.fields #[.ref t,.none,.none,.none,.bool false,.none] }∧wpAny (model X.prog X.w) X.A (raiseNew (.ref b):Sem Flow) Q X.xe s₁) X.xe s:=by
 obtain⟨bm,⟨nm,q,N,bs,hdct,sn,sub,ab,col,dd,k0,k1,k2,k3,k5,oC⟩,T⟩:=zdh I.kIn c.at_
 have I0:=I
 obtain⟨h,g,d,tk,os⟩:=s
 refine ziP PySem.F.excBase_ValueError T oC (PySem.W.looks_findIn I.kIn c.init) hz fun h' k' e'=>?_
 have I':Inv X pins σ H ⟨h',g,d,tk,os⟩:=I0.kept (t':=tk) k'
 refine⟨_,_,none,rfl,fun o q=>k' _ _ (hs o q),e',zgi hp I' ?_ e' hR⟩
 exact I0.fpOk (s:=⟨h,g,d,tk,os⟩) (Nat.le_succ _) (I0.hok.fresh (Nat.le_succ _))
theorem zbe (hp:PX X R) (c:XC0 X.K C) (hg:Gl X x) (hm:X.mg x=some (.ref C)) (hdb:(x == ("__debug__":Str))=false:=by decide):PS X (.Raise (some (.Call (.Name x np) [] [] cpos)) none pos) (zlk C R zlT):=by
 intro pins s σ H D I h
 obtain⟨bm,xc⟩:=zdh I.kIn c.at_
 refine zhs xc (wpAny_Call_Name_kw (zdw I hg hm ?_ hdb))
 exact PySem.W.callWith_K0 I.kIn c.kp (zhX hp c I h.1 (fun _ q=>q) h.2)
variable {CX:CXT}{k:Nat}{f:Addr}{fd:FuncData}{ps:List Str}{sp:Sp}{dvs:List V}{ds:List Value}
theorem ziT (hp:PX X R) (c:XCI X.K C f) (F:zdN X.prog X.w X.K X.mg X.base CX k f fd ps sp) (hr:zcJ (k + 1) X.A) (hb:zce X.K fd ps ds) (hd:zaX dvs ds) (hxx:∀ σ,zdO CX X (R σ)) (hg:Gl X x) (hm:X.mg x=some (.ref C)) (ha:PA X (e::es) t)
  (hdb:(x == ("__debug__":Str))=false:=by decide) (he:starEach (e::es) X.env=(false,eval e X.env)::starEach es X.env:=by rfl) (hpl:(backTo cpos (starEach es X.env)).any (·.1)=false:=by rfl) :
  PS X (.Raise (some (.Call (.Name x np) (e::es) [] cpos)) none pos) (ziS C sp dvs R t):=by
 intro pins s σ H D I h
 obtain⟨bm0,xc⟩:=zdh I.kIn c.at_
 refine zhs xc (wpAny_Call_Name_kw (zdw I hg hm ?_ hdb))
 refine PySem.W.callWith_K (h₀:=X.base) I.ok.mod.kin c.kp (thn (ha cpos pins s σ H _ I h) fun us s1 ⟨vs,H1,I1,r,z,q⟩=>⟨I1.kIn,?_⟩) he hpl
 obtain⟨bm2,⟨nm2,q2,N2,bs2,hdct2,sn2,sub2,ab2,col2,dd2,l0,l1,l2,l3,l5,oC2⟩,_⟩:=zdh I.ok.mod.kin c.at_
 have C0:∀ o,s.heap.get? C=some o→X.base.get? C=some o:=fun o q=>by rw[I.bk _ _ oC2] at q;rw[← q];exact oC2
 obtain⟨bm,⟨nm,qn,N,bs,hdct,sn,sub,ab,col,dd,k0,k1,k2,k3,k5,oC⟩,T⟩:=zdh I1.kIn c.at_
 have fnC:(X.K.lookup f).map (·.cls)=some (.type "function"):=beq_iff_eq.mp c.fn
 obtain⟨oF,hF,hFc⟩:∃ oF,X.K.lookup f=some oF∧oF.cls=.type "function":=by
  cases hk:X.K.lookup f with
  | none=>rw[hk] at fnC;cases fnC
  | some oF=>rw[hk] at fnC;exact⟨oF,rfl,Option.some.inj fnC⟩
 have hz:us.length≤sizeLine:=by rw[← r.length];exact z
 have J:=I1
 obtain⟨hp1,g,d,tk,os⟩:=s1
 refine ziQ PySem.F.excBase_ValueError T oC (PySem.W.looks_findIn I1.kIn c.init) (I1.kIn _ _ hF) hFc hz ?_
 have kk:∀ b o,hp1.get? b=some o→((hp1.push (zdQ us)).push (zdg C hp1.objs.size)).get? b=some o:=fun b o e=>Heap.get?_push_of_some _ (Heap.get?_push_of_some _ e)
 have oX:((hp1.push (zdQ us)).push (zdg C hp1.objs.size)).get? (hp1.objs.size + 1)=some { cls:=.ref C,data:=.fields #[.ref hp1.objs.size,.none,.none,.none,.bool false,.none] }:=by heap_get
 have fr:H1 (hp1.objs.size + 1)=none:=J.hok.fresh (Nat.le_succ _)
 have I2:Inv X pins σ (upd H1 (hp1.objs.size + 1) (zid C hp1.objs.size (hp1.objs.size + 1) none)) ⟨(hp1.push (zdQ us)).push (zdg C hp1.objs.size),g,d,tk,os⟩:=
  J.laid (t':=tk) kk (Nat.le_succ _) ⟨oX,⟨_,oX⟩,fun h1 h2 p1 p2=>p2 _ p1⟩
 have q':=q (hp1.objs.size + 1) hp1.objs.size fr
 have r2:zaX (V.ref (hp1.objs.size + 1)::(vs++dvs)) (Value.ref (hp1.objs.size + 1)::(us++ds)):=.cons rfl (r.append hd)
 have hl:(Value.ref (hp1.objs.size + 1)::us++ds).length=ps.length:=by
  have e:=r2.length
  rw[F.len _ _ _ _ q'] at e
  exact e.symm
 refine wpAny_call (codeAny_mono (F.run _ X.stack _ _ ⟨Value.ref (hp1.objs.size + 1)::us,[]⟩ (Value.ref (hp1.objs.size + 1)::(us++ds)) _ _ (R σ) (hr.make C us []) (I2.env0.make C us []) (hb _ (Value.ref (hp1.objs.size + 1)::us) I2.kIn hl) r2 q') fun rr s' hq'=>?_)
 cases rr with
 | error e=>exact hxx σ pins σ _ _ e s' I2 hq'
 | ok fl=>
  cases fl with
  | ret u=>
   obtain⟨v,H',I3,rv,ev,dx,e3,q3⟩:=I2.after hq'
   subst ev
   refine⟨rv,_,hp1.objs.size,dx,rfl,fun o q=>I3.bk _ _ (C0 o q),(I3.hok _ _ e3).1,?_⟩
   refine zgi hp (I3.del e3) ?_ (I3.hok _ _ e3).1 q3
   exact J.fpOk (s:=⟨hp1,g,d,tk,os⟩) (Nat.le_succ _) zhr
  | next=>exact False.elim hq'
  | brk=>exact False.elim hq'
  | cont=>exact False.elim hq'
def sFldX (K:PySem.W.Frag) (ta tv:TE) (f:Str):TS:=fun D σ H=>tv σ H fun y H1=>ta σ H1 fun x H2=>∃ a C t,x=.ref a∧H2 a=some (zid C t a none)∧XSet K C f ∧
 ∀ dx,H2 dx=none→D.nx σ (upd (upd H2 dx (.xd [(f,y)])) a (zid C t a (some dx)))
theorem zgY {o value:Expr}{ta tv:TE}{f:Str}{pos':Pos} (ha:PE X o ta) (hv:PE X value tv) (hs:swapsWith value (some (.Attribute o f pos')) pos.line X.env=pure false):PS X (.Assign [.Attribute o f pos'] value pos) (sFldX X.K ta tv f):=by
 intro pins s σ H D I h
 refine plainObj_wpAny_Assign_Attribute (thn (hv pins s σ H _ I h) fun v s1=>L2.ex5 fun y H1 I1 ry q1=>thn (ha pins s1 σ H1 _ I1 q1) fun u s2=>L2.ex5 fun x H2 I2 rx q2=>?_) hs
 obtain⟨a,C,t,rfl,e2,Z,q2⟩:=q2
 obtain rfl:u=Value.ref a:=rx
 have oa:=(I2.hok _ _ e2).1
 refine zlj I2.kIn oa Z fun h' k1 k2 k3=>?_
 have dn:H2 s2.heap.objs.size=none:=I2.hok.fresh (Nat.le_refl _)
 have da:s2.heap.objs.size≠a:=(zae e2 dn).symm
 have old:∀ b o,s2.heap.get? b=some o→b≠s2.heap.objs.size:=fun b o q=>Nat.ne_of_lt (Heap.lt_size q)
 have na:∀ b u,H2 b=some u→(∀ ψ,u≠.ext ψ)→b≠a:=fun b u q n z=>by rw[z,e2] at q;cases q;exact n _ rfl
 have nd:∀ b u,H2 b=some u→b≠s2.heap.objs.size:=fun b u q=>zae q dn
 have keepH:∀ b u,H2 b=some u→(∀ ψ,u≠.ext ψ)→upd (upd H2 s2.heap.objs.size (.xd [(f,y)])) a (zid C t a (some s2.heap.objs.size)) b=some u:=fun b u q n=>by rw[zaf (na b u q n),zaf (nd b u q)];exact q
 refine⟨σ,_,I2.un (t':=s2.toks + 2) ⟨fun b o q n _ _=>k1 b o (fun z=>?_) q,fun b o q n _ _=>⟨o.slots,k1 b o (fun z=>?_) q⟩,fun b o q n _=>?_,fun b o q _=>?_,fun b xs q=>?_,fun b o u q=>?_,fun b pp pq q=>?_⟩ (fun b o q=>?_),q2 _ dn⟩
 ·rw[z,e2] at n;cases n
 ·rw[z,e2] at n;cases n
 ·rw[zaf (fun z=>by rw[z,e2] at n;cases n),zaf (old b o q)];exact n
 ·by_cases z:b=a
  ·subst z;exact⟨_,k2⟩
  ·exact⟨o,k1 b o z q⟩
 ·exact keepH b _ q (by intro ψ z;cases z)
 ·exact keepH b _ q (by intro ψ z;cases z)
 ·exact keepH b _ q (by intro ψ z;cases z)
 ·by_cases z:b=a
  ·subst z
   rw[zab] at q;cases q
   exact⟨k2,⟨_,k2⟩,fun h1 h2 p1 p2=>p2 _ p1⟩
  ·rw[zaf z] at q
   by_cases z2:b=s2.heap.objs.size
   ·subst z2
    rw[zab] at q;cases q
    refine⟨_,k3,fun g=>?_⟩
    by_cases hg:g=f
    ·subst hg;simpa [zfh] using ry
    ·have e0:([(f,y)]:List (Str×V)).lookup g=none:=by rw[List.lookup_cons,show(g == f)=false from by simpa using hg];rfl
     rw[e0,if_neg hg];exact True.intro
   ·rw[zaf z2] at q
    refine(I2.hok b o q).stay (fun c u hc r=>k1 c u ?_ r) (fun c r=>keepH c _ r (by intro ψ z;cases z)) (fun c xs r=>keepH c _ r (by intro ψ z;cases z)) fun c ob r=>keepH c _ r (by intro ψ z;cases z)
    rcases hc with hc|hc
    ·rw[hc];exact z
    ·exact na c _ hc (by intro ψ z;cases z)
end
end L2
namespace L2
open PySem PySem.Spec PyProof.Rows PySem.Builtin.ObjectAttr
structure XIs (K:PySem.W.Frag) (C:Addr):Prop where
 ga:PySem.W.findIn K (.ref C) "__getattribute__"=some (some (.builtin "BaseException.__getattribute__"))
 gt:PySem.W.findIn K (.ref C) "__getattr__"=some none
 ba:PySem.W.mroIn K C (.type "BaseException")=some true
 ob:PySem.W.mroIn K C (.type "object")=some true
 cl:PySem.W.findIn K (.ref C) "__class__"=some (some (.builtin "object.__class__"))
 gs:PySem.W.specialIn K (.builtin "object.__class__") "__get__"=some (some (.builtin "getset_descriptor.__get__"))
 tk:PySem.W.takesIn K (.builtin "object.__class__")=some true
 hd:PySem.W.hasDictIn K C=true
section
variable {prog:Program}{w:World}{A:Around}{E:Value→Shared→Prop}{s:Shared}{K:PySem.W.Frag}{C x:Addr}{ox:Obj}{od:Option Obj}
end
structure IsX (H:Hp) (a C:Addr) (dd:Option Addr):Prop where
 at_:∃ o u,H a=some (.frz o u)∧o.cls=.ref C∧o.dict=dd∧∃ vs,o.data=.fields vs
section
variable {X:Cx}
end
end L2
namespace L2
open PySem PySem.Spec PyProof.Rows
abbrev Cx.tr (X:Cx) (pn:List (Addr×Obj)) (E:Value→Shared→Prop):Cx:={ X with pn:=pn,xe:=E }
abbrev Cx.hnd (X:Cx) (a:Addr) (H₀:Hp):Cx:={ X with A:=X.A.mark (some (.ref a)),H₀:=H₀,xe:=fun _ _=>False }
def zfr (H H₀:Hp):Hp:=fun b=>match H b with|some (.frz o u)=>some (.frz o u)|_=>H₀ b
theorem zfs {H H₀:Hp}{b:Addr}{o:Obj}{u:HO} (e:H b=some (.frz o u)):zfr H H₀ b=some (.frz o u):=by unfold zfr;rw[e]
theorem zd6 {H H₀:Hp}{b:Addr} (n:∀ o u,H b≠some (.frz o u)):zfr H H₀ b=H₀ b:=by
 unfold zfr
 split
 ·rename_i o u e;exact absurd e (n o u)
 ·rfl
section
variable {X:Cx}{pins:List (Addr×Obj)}{σ:St}{H:Hp}{s:Shared}{a:Addr}{c:Value}{dd:Option Addr}{tb:Option (Addr×Value)}
theorem Inv.enter (hex:X.ex=[]) (I:Inv X pins σ H s) (x:Exc X pins H s.heap a c dd tb):∃ o,o.cls=c∧o.dict=dd∧(∃ vs,o.data=.fields vs)∧Inv (X.hnd a (zfr (upd H a (.frz o (.own a))) X.H₀)) pins σ (upd H a (.frz o (.own a))) s:=by
 obtain⟨o,vs,h1,hc,hdd,hd,hz,⟨cs,ch,h2⟩,hv1⟩:=x.at_.ob
 obtain⟨f0,f1,f2,f3,f4,f5⟩:=x.fp
 have f3':X.s₀.heap.objs.size≤a:=by
  rcases f3 with z|z
  ·rw[hex] at z;cases z
  ·exact z
 refine⟨o,hc,hdd,⟨vs,hd⟩,?_⟩
 have na:∀ b u,H b=some u→b≠a:=fun b u q=>zae q f0
 have old:∀ b ob,X.s₀.heap.get? b=some ob→b≠a:=fun b ob q=>Nat.ne_of_lt (Nat.lt_of_lt_of_le (Heap.lt_size q) f3')
 have keepH:∀ b u,H b=some u→upd H a (.frz o (.own a)) b=some u:=fun b u q=>by rw[zaf (na b u q)];exact q
 have noneH:∀ b,b≠a→H b=none→upd H a (.frz o (.own a)) b=none:=fun b z q=>by rw[zaf z];exact q
 have noneO:∀ b,b≠a→H b=none→zfr (upd H a (.frz o (.own a))) X.H₀ b=X.H₀ b:=fun b z q=>zd6 fun o' u' q'=>by rw[noneH b z q] at q';cases q'
 have K:=I.ok
 refine { I with ok:=?_,base:=?_,free:=noneH _ (Ne.symm f1) I.free,freeC:=fun y cl q=>noneH _ (f4 y cl q) (I.freeC y cl q),pin:=fun p hp=>?_,hok:=fun b u q=>?_ }
 ·refine { mod:=K.mod,kind:=K.kind,glob:=K.glob,blt:=K.blt,above:=K.above,inj:=K.inj,has:=K.has,cab:=K.cab,hd:=?_,frames:=K.frames,stk:=K.stk,exf:=K.exf,bs:=fun b ob q=>?_,bsz:=K.bsz,noex:=K.noex,exfs:=K.exfs,funs:=K.funs,frf:=fun b hb=>?_ }
  ·refine .inr ⟨a,cs,rfl,List.nodup_cons.mpr ⟨ch.not_mem f0,ch.1⟩,fun j b hj=>?_⟩
   cases j with
   | zero=>
    obtain rfl:a=b:=by simpa using hj
    exact⟨o,.own a,vs,zfs zab,hd,h2⟩
   | succ j=>
    have hj':cs[j]?=some b:=by simpa using hj
    obtain⟨o',u',vs',q1,q2,q3⟩:=ch.2 j b hj'
    exact⟨o',u',vs',zfs (keepH _ _ q1),q2,q3⟩
  ·obtain⟨q1,q2⟩:=K.bs b ob q
   obtain⟨_,q3⟩:=I.bs b ob q
   exact⟨q1,(noneO b (old b ob q1) q3).trans q2⟩
  ·have hb':b∈X.fs:=hb
   have:=K.frf b hb'
   have hbn:b≠a:=fun z=>f2 (z ▸ hb')
   have h3:H b=none:=I.stkFree b (by
    rcases K.stk with z|⟨z,y⟩
    ·rw[z];exact hb'
    ·rw[z];unfold frs;rw[List.filterMap_cons,y];exact List.mem_cons_of_mem _ hb')
   exact(noneO b hbn h3).trans this
 ·obtain⟨b1,b2,b3,b4,b5,b6,b7⟩:=I.base
  have back:∀ b ob,X.s₀.heap.get? b=some ob→zfr (upd H a (.frz o (.own a))) X.H₀ b=none→X.H₀ b=none:=fun b ob q n=>by
   unfold zfr at n
   split at n
   ·cases n
   ·exact n
  refine⟨fun b ob q n=>b1 b ob q (back b ob q n),fun b ob q n=>b2 b ob q (back b ob q n),fun b ob q n z=>noneH b (old b ob q) (b3 b ob q (back b ob q n) z),b4,fun b xs q=>?_,fun b ob u q=>?_,fun b pp pq q=>?_⟩
  ·replace q:zfr (upd H a (.frz o (.own a))) X.H₀ b=_:=q
   unfold zfr at q
   split at q
   ·cases q
   ·exact keepH _ _ (b5 b xs q)
  ·replace q:zfr (upd H a (.frz o (.own a))) X.H₀ b=_:=q
   unfold zfr at q
   split at q
   ·rename_i e;rw[← q];exact e
   ·exact keepH _ _ (b6 b ob u q)
  ·replace q:zfr (upd H a (.frz o (.own a))) X.H₀ b=_:=q
   unfold zfr at q
   split at q
   ·cases q
   ·exact keepH _ _ (b7 b pp pq q)
 ·obtain⟨p1,p2,p3⟩:=I.pin p hp
  exact⟨p1,noneH _ (f5 p hp) p2,p3⟩
 ·by_cases z:b=a
  ·subst z
   rw[zab] at q;cases q
   exact⟨h1,⟨_,h1⟩⟩
  ·rw[zaf z] at q
   exact(I.hok b u q).stay (fun c' u' _ r=>r) (fun c' r=>keepH _ _ r) (fun c' xs r=>keepH _ _ r) fun c' ob r=>keepH _ _ r
theorem Inv.leave {σ':St}{H':Hp}{s':Shared}{o:Obj} (hex:X.ex=[]) (I:Inv X pins σ H s) (fp:zef X pins H a) (J:Inv (X.hnd a (zfr (upd H a (.frz o (.own a))) X.H₀)) pins σ' H' s'):Inv X pins σ' H' s':=by
 obtain⟨f0,f1,f2,f3,f4,f5⟩:=fp
 have f3':X.s₀.heap.objs.size≤a:=by
  rcases f3 with z|z
  ·rw[hex] at z;cases z
  ·exact z
 have na:∀ b u,H b=some u→b≠a:=fun b u q=>zae q f0
 have old:∀ b ob,X.s₀.heap.get? b=some ob→b≠a:=fun b ob q=>Nat.ne_of_lt (Nat.lt_of_lt_of_le (Heap.lt_size q) f3')
 have e1:∀ b ob,X.s₀.heap.get? b=some ob→X.H₀ b=none→zfr (upd H a (.frz o (.own a))) X.H₀ b=none:=fun b ob q n=>by
  have hb:H b=none:=I.base.free b ob q n (by rw[hex];simp)
  rw[zd6 fun o' u' q'=>by rw[zaf (old b ob q),hb] at q';cases q'];exact n
 obtain⟨b1,b2,b3,b4,b5,b6,b7⟩:=J.base
 refine { J with ok:=I.ok,base:=⟨fun b ob q n=>b1 b ob q (e1 b ob q n),fun b ob q n=>b2 b ob q (e1 b ob q n),fun b ob q n=>b3 b ob q (e1 b ob q n),b4,fun b xs q=>b5 b xs ?_,fun b ob u q=>b6 b ob u ?_,fun b pp pq q=>b7 b pp pq ?_⟩ }
 ·have h:=I.base.tups b xs q
  show zfr _ _ _=_
  rw[zd6 fun o' u' q'=>by rw[zaf (na _ _ h),h] at q';cases q'];exact q
 ·have h:=I.base.frzs b ob u q
  exact zfs (by rw[zaf (na _ _ h)];exact h)
 ·have h:=I.base.tbls b pp pq q
  show zfr _ _ _=_
  rw[zd6 fun o' u' q'=>by rw[zaf (na _ _ h),h] at q';cases q'];exact q
theorem ze9 {M:Model}{A:Around}{E:Value→Shared→Prop}{Q:Bool→Shared→Prop}{K:PySem.W.Frag}{e C D:Addr}{oe:Obj}{b:Bool} (X:K.In s.heap) (he:s.heap.get? e=some oe) (hc:oe.cls=.ref C) (hb:PySem.W.mroIn K C (.ref D)=some b)
  (hB:PySem.W.mroIn K D (.type "BaseException")=some true) (hT:PySem.W.typeIn K (.ref D)=some (.type "type")) (fin:Q b s):wpAny M A (excMatches (.ref e) (.ref D)) Q E s:=by
 have L1:=PySem.W.looks_typeIn (M:=M) X hT
 have L2:=PySem.W.looks_mroIn (M:=M) X hB
 have L3:=PySem.W.looks_mroIn (M:=M) X hb
 have L4:PySem.W.Looks M s.heap (isType (.ref D)) true:=by
  obtain⟨cd,h1,_⟩:=Option.bind_eq_some_iff.mp hB
  unfold PySem.W.clsIn at h1
  split at h1
  ·rename_i c1 d1 e1 s1 at1
   intro A' Q' E' s' k q
   unfold isType loadHead
   exact wpAny_bind (wpAny_loadPart (k _ _ (X _ _ at1)) (wpAny_pure q))
  ·cases h1
 have L5:PySem.W.Looks M s.heap (isInstance (.ref D) (.type "tuple")) false:=L1.andThen (PySem.W.Looks.of_pure tc_notTuple)
 have L6:PySem.W.Looks M s.heap (typeOf (.ref e)) (.ref C):=(PySem.W.Looks.ld he).andThen (by rw[hc];exact .now)
 have L7:PySem.W.Looks M s.heap (isExcClass (.ref D)) true:=L4.andThen L2
 unfold excMatches
 refine wpAny_bind (L5.here ?_)
 simp only[Bool.false_eq_true,if_false]
 refine wpAny_bind (wpAny_pure (wpAny_bind ?_))
 simp only[List.forIn_cons,List.forIn_nil]
 refine wpAny_bind (wpAny_bind (L7.here ?_))
 simp only[Bool.not_true,Bool.false_eq_true,if_false]
 refine wpAny_pure (wpAny_pure (wpAny_bind (L6.here (wpAny_bind (wpAny_bind (wpAny_bind (L3.here ?_)))))))
 cases b with
 | true=>
  simp only[if_true]
  exact wpAny_pure (wpAny_pure (wpAny_pure fin))
 | false=>
  simp only[Bool.false_eq_true,if_false]
  exact wpAny_pure (wpAny_pure (wpAny_pure fin))
theorem zdi {M:Model}{A:Around}{E:Value→Shared→Prop}{i:Nat}{n:Str}{pos:Pos}{Q:Unit→Shared→Prop} (I:Inv X pins σ H s) (hN:X.N.Nodup) (hi:X.N[i]?=some n) (hk:X.env.kindOf n=some .local)
  (fin:∀ s',Inv X pins (σ.set i none) H s'→Q () s'):wpAny M A (do bindName X.env n .none;unbindBehindTheSuite X.env n pos) Q E s:=by
 obtain⟨m,hn,hl⟩:=id I.loc
 have hcls:(X.env.scope.kind == .class || (X.env.scope.kind == .module && X.env.locals != X.env.globals))=false:=by rw[I.ok.kind];rfl
 obtain⟨oL,_,_,hoL,_⟩:=id hn
 refine wpAny_nameGoes_keeps hk hn hcls fun h' v hn' hs=>fin _ ?_
 have lo:∀ b o,X.s₀.heap.get? b=some o→b≠X.env.locals:=fun b o e=>Nat.ne_of_lt (Nat.lt_of_lt_of_le (Heap.lt_size e) I.ok.above)
 refine { ok:=I.ok,os:=I.os,bare:=I.bare,base:=⟨fun b o e n hb hx=>(hs.2 b (lo b o e)).trans (I.base.keep b o e n hb hx),fun b o e n hb hx=>?_,I.base.free,fun b o e hx=>?_,I.base.tups,I.base.frzs,I.base.tbls⟩,loc:=⟨_,hn',fun j y v' e1 e2 e3=>?_⟩,cell:=fun y c e=>?_,free:=I.free,freeC:=I.freeC,pin:=fun p hp=>?_,hok:=fun b ob e=>?_,len:=by simpa using I.len }
 ·obtain⟨sl,e1⟩:=I.base.slot b o e n hb hx
  exact⟨sl,(hs.2 b (lo b o e)).trans e1⟩
 ·obtain⟨o',e1⟩:=I.base.there b o e hx
  exact⟨o',(hs.2 b (lo b o e)).trans e1⟩
 ·have hj:j≠i:=fun z=>by
   subst z
   have hiσ:j<σ.length:=by rw[I.len];exact(List.getElem?_eq_some_iff.mp hi).1
   rw[List.getElem?_set_self hiσ] at e2
   cases e2
  rw[List.getElem?_set_ne (Ne.symm hj)] at e2
  obtain⟨u',r',q⟩:=hl j y v' e1 e2 e3
  refine⟨u',r',?_⟩
  rcases q with⟨k,e⟩|⟨k,c,e,z⟩
  ·refine .inl ⟨k,?_⟩
   have:y≠n:=fun e=>hj (zfj hN e1 (e ▸ hi))
   simp[this,e]
  ·exact .inr ⟨k,c,e,z.sameBut hs (I.cne y c e)⟩
 ·obtain⟨w',z⟩:=I.cell y c e
  exact⟨w',z.sameBut hs (I.cne y c e)⟩
 ·obtain⟨e,n,ne,nf,d⟩:=I.pin p hp
  exact⟨(hs.2 p.1 ne).trans e,n,ne,nf,d⟩
 ·refine(I.hok b ob e).stay (fun c w' hc q=>(hs.2 c ?_).trans q) (fun _ q=>q) fun _ _ q=>q
  rintro rfl
  rcases hc with hc|hc
  ·rw[← hc,I.free] at e;cases e
  ·rw[I.free] at hc;cases hc
end
abbrev Hd1:=Addr×Option Nat×TS
def zgL.as (D:zgL) (i:Nat):zgL:=⟨fun σ H=>D.nx (σ.set i none) H,D.rt,fun σ H=>D.bk (σ.set i none) H,fun σ H=>D.ct (σ.set i none) H⟩
def zj8 (K:PySem.W.Frag):List Hd1→zgL→RK
 | [],_,_,_,_,_=>False
 | (D,i,t)::r,En,σ,c,dd,H=>∃ C b,c=.ref C∧PySem.W.mroIn K C (.ref D)=some b∧if b=true then ∀ a o,H a=none→o.cls=c→o.dict=dd→(∃ vs,o.data=.fields vs) →
   (match i with|none=>t En σ (upd H a (.frz o (.own a)))|some i=>t (En.as i) (σ.set i (some (.ref a))) (upd H a (.frz o (.own a)))) else zj8 K r En σ c dd H
inductive PHs (X:Cx):List ExceptHandler→List Hd1→Prop where
 | nil:PHs X [] []
 | one {x:Str}{np pos:Pos}{b₀:Stmt}{su:List Stmt}{D:Addr}{t:TS}{hs:List ExceptHandler}{ts:List Hd1} (hg:Gl X x) (hm:X.mg x=some (.ref D)) (hB:PySem.W.mroIn X.K D (.type "BaseException")=some true) (hT:PySem.W.typeIn X.K (.ref D)=some (.type "type"))
   (hdb:(x == ("__debug__":Str))=false) (hb:∀ a H₀,PSs (X.hnd a H₀) (b₀::su) t) (r:PHs X hs ts):PHs X (.ExceptHandler (some (.Name x np)) none (b₀::su) pos::hs) ((D,none,t)::ts)
 | as_ {x n:Str}{i:Nat}{np pos:Pos}{b₀:Stmt}{su:List Stmt}{D:Addr}{t:TS}{hs:List ExceptHandler}{ts:List Hd1} (hg:Gl X x) (hm:X.mg x=some (.ref D)) (hB:PySem.W.mroIn X.K D (.type "BaseException")=some true) (hT:PySem.W.typeIn X.K (.ref D)=some (.type "type"))
   (hdb:(x == ("__debug__":Str))=false) (hN:X.N.Nodup) (hi:X.N[i]?=some n) (hk:X.env.kindOf n=some .local) (hb:∀ a H₀,PSs (X.hnd a H₀) (b₀::su) t) (r:PHs X hs ts):PHs X (.ExceptHandler (some (.Name x np)) (some n) (b₀::su) pos::hs) ((D,some i,t)::ts)
section
variable {X:Cx}
theorem zht {A:Around}{E:Value→Shared→Prop}{pins:List (Addr×Obj)}{s:Shared}{σ:St}{H:Hp}{x:Str}{u:Value}{pos:Pos}{Q:Value→Shared→Prop} (I:Inv X pins σ H s) (hg:Gl X x) (hm:X.mg x=some u) (h:Q u s)
  (hd:(x == ("__debug__":Str))=false):wpAny (model X.prog X.w) A (eval (.Name x pos) X.env) Q E s:=
 Calls.Name_function_global I.ok.kind hg (Calls.loadGlobal_global (by rw[I.ok.glob];exact I.mod.glob.keeps I.bk) hm h) hd
theorem SP.leave {pins:List (Addr×Obj)}{σ:St}{H:Hp}{s s':Shared}{a:Addr}{o:Obj}{D:zgL}{f:Flow} (hex:X.ex=[]) (I:Inv X pins σ H s) (fp:zef X pins H a) (h:SP (X.hnd a (zfr (upd H a (.frz o (.own a))) X.H₀)) pins D f s'):SP X pins D f s':=by
 cases f with
 | next=>obtain⟨σ',H',J,q⟩:=h;exact⟨σ',H',I.leave hex fp J,q⟩
 | brk=>obtain⟨σ',H',J,q⟩:=h;exact⟨σ',H',I.leave hex fp J,q⟩
 | cont=>obtain⟨σ',H',J,q⟩:=h;exact⟨σ',H',I.leave hex fp J,q⟩
 | ret u=>obtain⟨v,σ',H',J,q⟩:=h;exact⟨v,σ',H',I.leave hex fp J,q⟩
theorem SP.as_ {A:Around}{E:Value→Shared→Prop}{pins:List (Addr×Obj)}{s:Shared}{i:Nat}{n:Str}{pos:Pos}{D:zgL}{f:Flow} (hN:X.N.Nodup) (hi:X.N[i]?=some n) (hk:X.env.kindOf n=some .local) (h:SP X pins (D.as i) f s) :
  wpAny (model X.prog X.w) A (do bindName X.env n .none;unbindBehindTheSuite X.env n pos) (fun _ s'=>SP X pins D f s') E s:=by
 cases f with
 | next=>obtain⟨σ',H',J,q⟩:=h;exact zdi J hN hi hk fun s' J'=>⟨_,H',J',q⟩
 | brk=>obtain⟨σ',H',J,q⟩:=h;exact zdi J hN hi hk fun s' J'=>⟨_,H',J',q⟩
 | cont=>obtain⟨σ',H',J,q⟩:=h;exact zdi J hN hi hk fun s' J'=>⟨_,H',J',q⟩
 | ret u=>obtain⟨v,σ',H',J,q⟩:=h;exact zdi J hN hi hk fun s' J'=>⟨v,_,H',J',q⟩
theorem ziU {hs:List ExceptHandler}{ts:List Hd1} (hex:X.ex=[]) (P:PHs X hs ts):∀ {pins:List (Addr×Obj)}{σ:St}{H:Hp}{s:Shared}{a:Addr}{c:Value}{dd:Option Addr}{T:Addr}{D:zgL},Inv X pins σ H s→Exc X pins H s.heap a c dd (some (T,.none))→zj8 X.K ts D σ c dd H →
  wpAny (model X.prog X.w) X.A (handleBy (.ref a) X.env hs) (SP X pins D) X.xe s:=by
 induction P with
 | nil=>intro pins σ H s a c dd T D I x h;exact h.elim
 | @one x np pos b₀ su Dc t hs ts hg hm hB hT hdb hb r ih=>
  intro pins σ H s a c dd T D I x h
  obtain⟨C,b,rfl,hmro,h⟩:=h
  obtain⟨o,vs,h1,hc,_⟩:=x.at_.ob
  refine wpAny_handleBy_cons (codeAny_handlers_test (zht I hg hm (ze9 I.kIn h1 hc hmro hB hT ?_) hdb)) (by intro q;cases q)
  cases b with
  | false=>exact ih I x (by simpa using h)
  | true=>
   refine codeAny_handlers_suite (I.land x fun s1 I1 x1=>?_)
   obtain⟨o1,g1,g2,g3,J⟩:=I1.enter hex x1
   rw[if_pos rfl] at h
   refine wpAny_mono (hb a _ pins s1 σ _ D J (h a o1 x1.fp.1 g1 g2 g3)) (fun f s2 z=>z.leave hex I1 x1.fp) fun _ _ z=>z.elim
 | @as_ x n i np pos b₀ su Dc t hs ts hg hm hB hT hdb hN hi hk hb r ih=>
  intro pins σ H s a c dd T D I x h
  obtain⟨C,b,rfl,hmro,h⟩:=h
  obtain⟨o,vs,h1,hc,_⟩:=x.at_.ob
  refine wpAny_handleBy_cons (codeAny_handlers_test (zht I hg hm (ze9 I.kIn h1 hc hmro hB hT ?_) hdb)) (by intro q;cases q)
  cases b with
  | false=>exact ih I x (by simpa using h)
  | true=>
   refine codeAny_handlers_suite_as (I.land x fun s1 I1 x1=>?_)
   obtain⟨o1,g1,g2,g3,J⟩:=I1.enter hex x1
   rw[if_pos rfl] at h
   refine zfk (X:=X.hnd a _) J hN hi (.inl hk) (v:=.ref a) rfl (fun s2 J2=>?_) (.inr hk)
   exact wpAny_mono (hb a _ pins s2 _ _ (D.as i) J2 (h a o1 x1.fp.1 g1 g2 g3)) (fun f s3 z=>(z.leave hex I1 x1.fp).as_ hN hi hk) fun _ _ z=>z.elim
def tTry (K:PySem.W.Frag) (ts:List Hd1) (tb:RK→TS) (te:TS):TS:=fun D σ H=>tb (zj8 K ts D) { D with nx:=fun σ H=>te D σ H } σ H
theorem ps_try {body orelse:List Stmt}{h₀:ExceptHandler}{hs:List ExceptHandler}{pos:Pos}{ts:List Hd1}{tb:RK→TS}{te:TS} (B:Body X) (hex:X.ex=[]) (P:PHs X (h₀::hs) ts)
  (hb:∀ (pn:List (Addr×Obj)) (E:Value→Shared→Prop) (R:RK),PX (X.tr pn E) R→PassesOwn (model X.prog X.w) X.A X.env E→PSs (X.tr pn E) body (tb R)) (he:PSs X orelse te):PS X (.Try body (h₀::hs) orelse [] pos) (tTry X.K ts tb te):=by
 intro pins s σ H D I h
 refine wpAny_Try_except ?_
 have to:∀ {pins' σ' H' s'},Inv X pins σ' H' s'→Inv (X.tr (X.pn++pins) pins') [] σ' H' s':=fun {pins' σ' H' s'} J=>{ J with pin:=fun p hp=>J.pin p (by simpa using hp),ok:={ J.ok with } }
 have fro:∀ {E' pins' σ' H' s'},Inv (X.tr (X.pn++pins) E') pins' σ' H' s'→Inv X pins σ' H' s':=fun {E' pins' σ' H' s'} J=>{ J with pin:=fun p hp=>J.pin p (List.mem_append_left _ hp),ok:={ J.ok with } }
 refine wpAny_mono (hb (X.pn++pins) (fun e s₁=>wpAny (model X.prog X.w) X.A (noteFrame e X.env) (fun _ s₂=>wpAny (model X.prog X.w) X.A (setFlight e none) (fun _ s₃=>wpAny (model X.prog X.w) X.A (handleBy e X.env (h₀::hs)) (SP X pins D) X.xe s₃) X.xe s₂) X.xe s₁)
  (zj8 X.K ts D) ?_ PassesOwn.looking [] s σ H _ (to I) h) (fun f s1 z=>?_) fun _ _ z=>z
 ·intro pins' σ' H' s' a c dd tb J x hR
  have J':=fro J
  have x':Exc X pins H' s'.heap a c dd (tb.map fun T=>(T,Value.none)):=⟨⟨x.fp.1,x.fp.2.1,x.fp.2.2.1,x.fp.2.2.2.1,x.fp.2.2.2.2.1,fun p hp=>x.fp.2.2.2.2.2 p (List.mem_append_left _ hp)⟩,fun p q=>by
   have y:=x.fpT p q
   exact⟨y.1,y.2.1,y.2.2.1,y.2.2.2.1,y.2.2.2.2.1,fun p hp=>y.2.2.2.2.2 p (List.mem_append_left _ hp)⟩,x.at_⟩
  refine J'.note B x' zkJ fun s2 T I2 x2=>?_
  exact I2.land x2 fun s3 I3 x3=>ziU hex P I3 x3 hR
 ·cases f with
  | next=>obtain⟨σ',H',J,q⟩:=z;exact he pins s1 σ' H' D (fro J) q
  | brk=>obtain⟨σ',H',J,q⟩:=z;exact⟨σ',H',fro J,q⟩
  | cont=>obtain⟨σ',H',J,q⟩:=z;exact⟨σ',H',fro J,q⟩
  | ret u=>obtain⟨v,σ',H',J,q⟩:=z;exact⟨v,σ',H',fro J,q⟩
end
end L2
namespace L2
open PySem PySem.Spec PyProof.Rows
structure zgG (K:PySem.W.Frag) (x qual:Str) (st:Stmt) (f:Addr) (fd:FuncData):Prop where
 ex:∃ (oc:Value) (od:Option Addr) (dV kV doc pm:Value) (an:Option Addr) (cdv ct:Value) (osl:Array (Option Value)),
  fd=PySem.W.fnOf x qual (zc0 st) (zch st) (zah st) dV kV doc pm an cdv ct∧K.lookup f=some ⟨oc,od,.func fd,osl⟩∧PySem.W.codeIn K cdv qual=true
theorem zdE {K:PySem.W.Frag}{x qual:Str}{st:Stmt}{f:Addr}{oc:Value}{od an:Option Addr}{osl:Array (Option Value)}{dV kV doc pm cdv ct:Value} (l:K.lookup f=some ⟨oc,od,.func (PySem.W.fnOf x qual (zc0 st) (zch st) (zah st) dV kV doc pm an cdv ct),osl⟩)
  (c:PySem.W.codeIn K cdv qual=true):zgG K x qual st f (PySem.W.fnOf x qual (zc0 st) (zch st) (zah st) dV kV doc pm an cdv ct):=⟨⟨oc,od,dV,kV,doc,pm,an,cdv,ct,osl,rfl,l,c⟩⟩
section
variable {P:Program}{w:World}{K:PySem.W.Frag}{mg:Str→Option Value}{base:Heap}
theorem zgG.ok {x qual:Str}{st:Stmt}{f:Addr}{fd:FuncData}{N ps:List Str}{k:Nat}{sp:Sp} (F:zgG K x qual st f fd) (S:zas N ps (zah st)) (len:∀ vs H Q E,sp vs H Q E→vs.length=ps.length)
  (hbody:∀ (cdv:Value) (A:Around) (outer:List Env) (s:Shared) (H:Hp) (vs:List V) (Q:VK) (E:XK),zcJ k (A.deeper (envOfC qual (zah st) s.heap.objs.size f cdv))→sp vs H Q E →
   ∃ t,PSs (zjR CX0 P w K mg base N qual (zah st) f cdv A outer s H E).nox (zch st) t∧t { nx:=fun _ H'=>Q .non H',rt:=Q } (start N vs) H):zdN P w K mg base CX0 (k + 1) f fd ps sp:=by
 obtain⟨oc,od,dV,kV,doc,pm,an,cdv,ct,osl,rfl,lk,hcd⟩:=F.ex
 refine fn_of lk hcd S len fun A outer s H vs Q E hr hsp=>?_
 obtain⟨t,h,q⟩:=hbody cdv A outer s H vs Q E hr hsp
 exact⟨t,h.nox,q⟩
theorem zgG.okX {x qual:Str}{st:Stmt}{f:Addr}{fd:FuncData}{N ps:List Str}{k:Nat}{sp:Sp} (F:zgG K x qual st f fd) (S:zas N ps (zah st)) (len:∀ vs H Q E,sp vs H Q E→vs.length=ps.length)
  (hbody:∀ (cdv:Value) (A:Around) (outer:List Env) (s:Shared) (H:Hp) (vs:List V) (Q:VK) (E:XK),zcJ k (A.deeper (envOfC qual (zah st) s.heap.objs.size f cdv))→sp vs H Q E →
   ∃ t,PSs (zjR (CXe P w) P w K mg base N qual (zah st) f cdv A outer s H E) (zch st) t∧t { nx:=fun _ H'=>Q .non H',rt:=Q } (start N vs) H):zdN P w K mg base (CXe P w) (k + 1) f fd ps sp:=by
 obtain⟨oc,od,dV,kV,doc,pm,an,cdv,ct,osl,rfl,lk,hcd⟩:=F.ex
 exact fn_of lk hcd S len fun A outer s H vs Q E hr hsp=>hbody cdv A outer s H vs Q E hr hsp
end
structure Def (K:PySem.W.Frag) (mg:Str→Option Value) (x:Str) (st:Stmt) (ps:List Str) (dvs:List V):Prop where
 ex:∃ f fd ds,zgG K x x st f fd∧mg x=some (.ref f)∧PySem.W.keepIn K (.ref f)=true∧zce K fd ps ds∧zaX dvs ds
structure Met (K:PySem.W.Frag) (C:Addr) (m qual:Str) (st:Stmt) (ps:List Str) (dvs:List V):Prop where
 ex:∃ f fd ds,zgG K m qual st f fd∧Meth K C m f∧zce K fd ps ds∧zaX dvs ds
structure Ini (K:PySem.W.Frag) (mg:Str→Option Value) (C:Addr) (x qual:Str) (st:Stmt) (ps:List Str):Prop where
 ex:∃ f fd,zgG K "__init__" qual st f fd∧Mk K C f∧mg x=some (.ref C)∧zce K fd ps []
structure zlW (K:PySem.W.Frag) (mg:Str→Option Value) (C:Addr) (x qual:Str) (st:Stmt) (ps:List Str):Prop where
 ex:∃ f fd,zgG K "__init__" qual st f fd∧XCI K C f∧mg x=some (.ref C)∧zce K fd ps []
structure Cal (P:Program) (w:World) (K:PySem.W.Frag) (mg:Str→Option Value) (base:Heap) (CX:CXT) (k:Nat) (x:Str) (ps:List Str) (dvs:List V) (sp:Sp):Prop where
 ex:∃ f fd ds,zdN P w K mg base CX k f fd ps sp∧mg x=some (.ref f)∧PySem.W.keepIn K (.ref f)=true∧zce K fd ps ds∧zaX dvs ds
structure zgH (P:Program) (w:World) (K:PySem.W.Frag) (mg:Str→Option Value) (base:Heap) (CX:CXT) (k:Nat) (C:Addr) (m:Str) (ps:List Str) (dvs:List V) (sp:Sp):Prop where
 ex:∃ f fd ds,zdN P w K mg base CX k f fd ps sp∧Meth K C m f∧zce K fd ps ds∧zaX dvs ds
structure CalI (P:Program) (w:World) (K:PySem.W.Frag) (mg:Str→Option Value) (base:Heap) (CX:CXT) (k:Nat) (C:Addr) (x:Str) (ps:List Str) (sp:Sp):Prop where
 ex:∃ f fd,zdN P w K mg base CX k f fd ps sp∧Mk K C f∧mg x=some (.ref C)∧zce K fd ps []
structure ziV (P:Program) (w:World) (K:PySem.W.Frag) (mg:Str→Option Value) (base:Heap) (CX:CXT) (k:Nat) (C:Addr) (x:Str) (ps:List Str) (sp:Sp):Prop where
 ex:∃ f fd,zdN P w K mg base CX k f fd ps sp∧XCI K C f∧mg x=some (.ref C)∧zce K fd ps []
section
variable {P:Program}{w:World}{K:PySem.W.Frag}{mg:Str→Option Value}{base:Heap}{CX:CXT}{k:Nat}{C:Addr}{x m qual:Str}{st:Stmt}{ps:List Str}{dvs:List V}{sp:Sp}
theorem Def.cal (D:Def K mg x st ps dvs) (h:∀ f fd,zgG K x x st f fd→zdN P w K mg base CX k f fd ps sp):Cal P w K mg base CX k x ps dvs sp:=
 let ⟨f,fd,ds,F,r⟩:=D.ex;⟨f,fd,ds,h f fd F,r⟩
theorem Met.cal (D:Met K C m qual st ps dvs) (h:∀ f fd,zgG K m qual st f fd→zdN P w K mg base CX k f fd ps sp):zgH P w K mg base CX k C m ps dvs sp:=
 let ⟨f,fd,ds,F,r⟩:=D.ex;⟨f,fd,ds,h f fd F,r⟩
theorem Ini.cal (D:Ini K mg C x qual st ps) (h:∀ f fd,zgG K "__init__" qual st f fd→zdN P w K mg base CX k f fd ps sp):CalI P w K mg base CX k C x ps sp:=
 let ⟨f,fd,F,r⟩:=D.ex;⟨f,fd,h f fd F,r⟩
theorem zlW.cal (D:zlW K mg C x qual st ps) (h:∀ f fd,zgG K "__init__" qual st f fd→zdN P w K mg base CX k f fd ps sp):ziV P w K mg base CX k C x ps sp:=
 let ⟨f,fd,F,r⟩:=D.ex;⟨f,fd,h f fd F,r⟩
end
def tCallR (sp:Sp) (dvs:List V) (R:RK) (t:TA):TE:=fun σ H Q=>t σ H fun vs H1=>sp (vs++dvs) H1 Q (R σ)
def tMethR (C:Addr) (m:Str) (sp:Sp) (dvs:List V) (R:RK) (ta:TE) (t:TA):TE:=fun σ H Q=>ta σ H fun x H1=>∃ a dx fs,x=.ref a∧H1 a=some (.ins C dx fs)∧fs.lookup m=none ∧
 t σ H1 fun vs H2=>sp (x::(vs++dvs)) H2 Q (R σ)
section
variable {X:Cx}{CX:CXT}{k:Nat}{C:Addr}{ps:List Str}{sp:Sp}{dvs:List V}{R:RK}{x m:Str}{p pos apos:Pos}{e o:Expr}{es:List Expr}{ta:TE}{t:TA}
theorem za5:PX X (fun _ _ _ _=>False):=fun _ _ _ _ _ _ _ _ _ _ h=>h.elim
theorem ziW {f:Addr}{fd:FuncData}{ds:List Value}{pins:List (Addr×Obj)}{σ:St}{H:Hp}{s:Shared}{Q:VK}{us:List Value}{vs:List V} (F:zdN X.prog X.w X.K X.mg X.base (CXe X.prog X.w) k f fd ps sp) (hp:PX X R) (hr:zcJ k X.A)
  (hb:zce X.K fd ps ds) (hd:zaX dvs ds) (I:Inv X pins σ H s) (r:zaX vs us) (h:sp (vs++dvs) H Q (R σ)):wpAny (model X.prog X.w) X.A (call (.ref f) us) (EP X pins σ Q) X.xe s:=by
 have r2:zaX (vs++dvs) (us++ds):=r.append hd
 have hl:(us++ds).length=ps.length:=by rw[← r2.length];exact F.len _ _ _ _ h
 refine wpAny_call (codeAny_mono (F.run X.A X.stack s H ⟨us,[]⟩ (us++ds) (vs++dvs) Q (R σ) hr I.env0 (hb s us I.kIn hl) r2 h) fun r s' hq=>?_)
 cases r with
 | error e=>exact zli hp pins σ H s e s' I hq
 | ok fl=>cases fl <;> first | exact I.after hq | exact False.elim hq
theorem zaD (c:Cal X.prog X.w X.K X.mg X.base CX0 k x ps dvs sp) (hr:zcJ k X.A) (hg:Gl X x) (ha:PA X (e::es) t) (hdb:(x == ("__debug__":Str))=false:=by decide)
  (he:starEach (e::es) X.env=(false,eval e X.env)::starEach es X.env:=by rfl) (hpl:(backTo pos (starEach es X.env)).any (·.1)=false:=by rfl):PE X (.Call (.Name x p) (e::es) [] pos) (tCall sp dvs E0 t):=by
 obtain⟨f,fd,ds,F,hm,hk,hb,hd⟩:=c.ex
 exact zk7 F hr hg hm hk hb hd zlf ha hdb he hpl
theorem zdF (c:Cal X.prog X.w X.K X.mg X.base (CXe X.prog X.w) k x ps dvs sp) (hp:PX X R) (hr:zcJ k X.A) (hg:Gl X x) (ha:PA X (e::es) t) (hdb:(x == ("__debug__":Str))=false:=by decide)
  (he:starEach (e::es) X.env=(false,eval e X.env)::starEach es X.env:=by rfl) (hpl:(backTo pos (starEach es X.env)).any (·.1)=false:=by rfl):PE X (.Call (.Name x p) (e::es) [] pos) (tCallR sp dvs R t):=by
 obtain⟨f,fd,ds,F,hm,hk,hb,hd⟩:=c.ex
 intro pins s σ H Q I h
 refine wpAny_Call_Name_kw (zdw I hg hm ?_ hdb)
 refine PySem.W.callWith_K (h₀:=X.base) I.ok.mod.kin hk (thn (ha pos pins s σ H _ I h) fun us s1=>L2.ex5 fun vs H1 I1 r q=>⟨I1.kIn,?_⟩) he hpl
 exact ziW F hp hr hb hd I1 r q
theorem za1 {pl:Sem Bool} (he:PE X o ta) (cl:Cls X.K C) (c:zgH X.prog X.w X.K X.mg X.base CX0 k C m ps dvs sp) (hr:zcJ k X.A)
  (ht:eval (.Call (.Attribute o m apos) [] [] pos) X.env=(do
   let ov ← eval o X.env
   standAt apos.atName
   let (f,first) ← holding [ov] (getMethod ov m pl)
   callWith pos f first (backTo pos (starEach [] X.env)) (backToKw pos (keywordEach [] X.env))):=by rfl) :
  PE X (.Call (.Attribute o m apos) [] [] pos) (zk6 C m sp dvs E0 ta zlT):=by
 obtain⟨f,fd,ds,F,hm,hb,hd⟩:=c.ex
 exact zjY (pl:=pl) he cl hm F hr hb hd zlf ht
theorem zaK {pl:Sem Bool} (he:PE X o ta) (cl:Cls X.K C) (c:zgH X.prog X.w X.K X.mg X.base (CXe X.prog X.w) k C m ps dvs sp) (hp:PX X R) (hr:zcJ k X.A) (ha:PA X (e::es) t)
  (hst:starEach (e::es) X.env=(false,eval e X.env)::starEach es X.env:=by rfl) (hpl:(backTo pos (starEach es X.env)).any (·.1)=false:=by rfl)
  (ht:eval (.Call (.Attribute o m apos) (e::es) [] pos) X.env=(do
   let ov ← eval o X.env
   standAt apos.atName
   let (f,first) ← holding [ov] (getMethod ov m pl)
   callWith pos f first (backTo pos (starEach (e::es) X.env)) (backToKw pos (keywordEach [] X.env))):=by rfl) :
  PE X (.Call (.Attribute o m apos) (e::es) [] pos) (tMethR C m sp dvs R ta t):=by
 obtain⟨f,fd,ds,F,hm,hb,hd⟩:=c.ex
 intro pins s σ H Q I h
 refine PySem.W.methodCall_KW (pl:=pl) (thn (he pins s σ H _ I h) fun u s1=>L2.ex5 fun x H1 I1 rx hq_=>?_) ht
 obtain⟨a,dx,fs,ex,ea,l,q⟩:=hq_
 subst ex
 obtain rfl:u=Value.ref a:=rx
 refine zdy I1 ea cl hm l ?_
 refine PySem.W.callWith_K (first:=[.ref a]) (h₀:=X.base) I.ok.mod.kin hm.kp (thn (ha pos pins s1 σ H1 _ I1 q) fun us s2=>L2.ex5 fun vs H2 I2 r q2=>⟨I2.kIn,?_⟩) hst hpl
 exact ziW (us:=.ref a::us) (vs:=.ref a::vs) F hp hr hb hd I2 (.cons rfl r) q2
theorem zhu (c:CalI X.prog X.w X.K X.mg X.base CX0 k C x ps sp) (hr:zcJ (k + 1) X.A) (hg:Gl X x) (hdb:(x == ("__debug__":Str))=false:=by decide):PE X (.Call (.Name x p) [] [] pos) (tMake C sp [] E0 zlT):=by
 obtain⟨f,fd,F,M,hm,hb⟩:=c.ex
 exact zj0 M F hr hg hm hb .nil zlf hdb
theorem zcD {np cpos:Pos} (hp:PX X R) (c:ziV X.prog X.w X.K X.mg X.base CX0 k C x ps sp) (hr:zcJ (k + 1) X.A) (hg:Gl X x) (ha:PA X (e::es) t)
  (hdb:(x == ("__debug__":Str))=false:=by decide) (he:starEach (e::es) X.env=(false,eval e X.env)::starEach es X.env:=by rfl) (hpl:(backTo cpos (starEach es X.env)).any (·.1)=false:=by rfl) :
  PS X (.Raise (some (.Call (.Name x np) (e::es) [] cpos)) none pos) (ziS C sp [] R t):=by
 obtain⟨f,fd,F,c',hm,hb⟩:=c.ex
 exact ziT hp c' F hr hb .nil (fun _ _ _ _ _ _ _ _ z=>z.elim) hg hm ha hdb he hpl
theorem zb4 {i:Int} (hg:Gl X x) (hm:∃ t,X.mg x=some (.int i t)) (hd:(x == ("__debug__":Str))=false:=by decide):PE X (.Name x pos) (tC (.int i)):=let ⟨t,h⟩:=hm;zgM hg h ⟨t,rfl⟩ hd
theorem ziX {i:Str} (hg:Gl X x) (hm:∃ t,X.mg x=some (.str i t)) (hd:(x == ("__debug__":Str))=false:=by decide):PE X (.Name x pos) (tC (.str i)):=let ⟨t,h⟩:=hm;zgM hg h ⟨t,rfl⟩ hd
theorem zhv {n:String} (hg:Gl X x) (hm:X.mg x=none) (hv:bootBuiltins x=some (.type n)) (hn:x≠"__name__":=by decide) (hd:(x == ("__debug__":Str))=false:=by decide):PE X (.Name x pos) (tC (.ty n)):=zkZ hg hm hv rfl hn hd
end
end L2
namespace L2
open PySem PySem.Spec PyProof.Rows
def HdC (A:Around) (cs:List Addr):Prop:=(A.handled=none∧cs=[])∨∃ a r,cs=a::r∧A.handled=some (.ref a)
theorem Hd.chain {A:Around}{h:Heap} (x:Hd A h):∃ cs,HdC A cs∧Chn h cs:=by
 rcases x with e|⟨a,cs,e,c⟩
 ·exact⟨[],.inl ⟨e,rfl⟩,List.nodup_nil,fun j a z=>by simp at z⟩
 ·exact⟨a::cs,.inr ⟨a,cs,rfl,e⟩,c⟩
theorem HdC.hd {A:Around}{h:Heap}{cs:List Addr} (x:HdC A cs) (c:Chn h cs):Hd A h:=by
 rcases x with⟨e,rfl⟩|⟨a,r,rfl,e⟩
 ·exact .inl e
 ·exact .inr ⟨a,r,e,c⟩
theorem Chn.but {h h':Heap}{cs:List Addr}{it:Addr} (c:Chn h cs) (hI:it∉cs) (k:∀ b o,b≠it→h.get? b=some o→h'.get? b=some o):Chn h' cs:=
 c.mono fun b o hb e=>k b o (fun z=>hI (z ▸ hb)) e
section
variable {prog:Program}{w:World}{A:Around}{E:Value→Shared→Prop}{s:Shared}{cs:List Addr}
theorem zhY (hc:HdC A cs) (I ax:Addr) (hne:ax≠I) (hI:I∉cs) (items:Array Value) :
  Walks prog w A I (I::ax::cs) [I] items.size (fun i v=>items[i]?=some v) (fun i h=>h.IsListIter I ax i∧h.IsList ax items∧Chn h cs) where
 sub:=fun b hb=>by simp at hb;simp[hb]
 frame:=fun _ _ _ st hk=>⟨st.1.at fun o e=>hk I (by simp) o e,st.2.1.at fun o e=>hk ax (by simp) o e,st.2.2.mono fun b o hb e=>hk b (by simp[hb]) o e⟩
 item:=fun i s Q E hi st hQ=>by
  refine wpAny_pyNext_list_item st.1 st.2.1 (x:=items[i]) (by simp[hi]) fun h' hit' hs'=>?_
  exact hQ _ h' s.toks (by simp[hi]) ⟨hit',st.2.1.extBut hs'.extBut hne,st.2.2.but hI hs'.extBut⟩ fun b o hb e=>hs'.extBut b o (fun h=>hb (by simp[h])) e
 done:=fun s Q E st hQ=>zfV (hc.hd st.2.2) st.1 st.2.1 (by simp) fun h' he'=>hQ h' s.toks fun b o hb e=>he' b o (fun h=>hb (by simp[h])) e
 self:=fun _ _ _ _ st hQ=>wpAny_pyIter_listiter st.1 hQ
theorem zhZ {it:Addr}{x:Str}{t:Tok}{i:Nat}{Q:Option Value→Shared→Prop} (hd:Hd A s.heap) (hit:s.heap.IsStrIter it "str_ascii_iterator" x t i) (hx:x.cps[i]?=none)
  (hQ:∀ h',Heap.ExtBut it s.heap h'→Q none { s with heap:=h' }):wpAny (model prog w) A (pyNext (.ref it)) Q E s:=by
 obtain⟨o,ho,hc,hdat⟩:=id hit
 unfold pyNext
 refine wpAny_bind (wpAny_attempt (wpAny_callSpecial?_slot (name:=Str.ofString "__next__") hit.typeIs F.slot_str_ascii_iterator_next (wpAny_call_entry F.slot_str_ascii_iterator_next hit.typeIs F.entry_str_ascii_iterator_next ?_ (F.args_str_ascii_iterator_next_1 _))))
 refine(show wpAny _ _ (field (.ref it) 0 >>= _) _ _ s from wpAny_bind (wpAny_field ho hdat (x:=.str x t) rfl ?_))
 refine(show wpAny _ _ (field (.ref it) 1 >>= _) _ _ s from wpAny_bind (wpAny_field ho hdat (x:=.int i 0) rfl ?_))
 simp only[Int.toNat_natCast,hx]
 refine wpAny_bind (wpAny_rule (wpAny_bind (wpAny_setField ho hdat (by simp) (wpAny_bind (wpAny_letGo ?_)))))
 refine zcw (A:=A.in1) (hd.but ho (fun vs q=>.inl (by rw[hdat] at q;cases q;simp)) (Heap.SameBut.update ..).extBut) fun h' e k' ⟨o',e',c'⟩=>?_
 exact wpAny_bind (wpAny_isInstance (T:="StopIteration") (b:=true) ⟨o',e',c'⟩ isSubtype_stop (wpAny_pure (hQ h' fun b q hb hq=>k' b q ((Heap.SameBut.update ..).extBut b q hb hq))))
theorem ziY {it:Addr}{x:Str}{t:Tok}{i:Nat}{Q:Option Value→Shared→Prop} (hd:Hd A s.heap) (hit:s.heap.IsStrIter it "str_iterator" x t i) (hx:x.cps[i]?=none)
  (hQ:∀ h',Heap.ExtBut it s.heap h'→Q none { s with heap:=h' }):wpAny (model prog w) A (pyNext (.ref it)) Q E s:=by
 obtain⟨o,ho,hc,hdat⟩:=id hit
 unfold pyNext
 refine wpAny_bind (wpAny_attempt (wpAny_callSpecial?_slot (name:=Str.ofString "__next__") hit.typeIs F.slot_str_iterator_next (wpAny_call_entry F.slot_str_iterator_next hit.typeIs F.entry_str_iterator_next ?_ (F.args_str_iterator_next_1 _))))
 refine(show wpAny _ _ (field (.ref it) 0 >>= _) _ _ s from wpAny_bind (wpAny_field ho hdat (x:=.str x t) rfl ?_))
 refine(show wpAny _ _ (field (.ref it) 1 >>= _) _ _ s from wpAny_bind (wpAny_field ho hdat (x:=.int i 0) rfl ?_))
 simp only[Int.toNat_natCast,hx]
 refine wpAny_bind (wpAny_rule (wpAny_bind (wpAny_setField ho hdat (by simp) (wpAny_bind (wpAny_letGo ?_)))))
 refine zcw (A:=A.in1) (hd.but ho (fun vs q=>.inl (by rw[hdat] at q;cases q;simp)) (Heap.SameBut.update ..).extBut) fun h' e k' ⟨o',e',c'⟩=>?_
 exact wpAny_bind (wpAny_isInstance (T:="StopIteration") (b:=true) ⟨o',e',c'⟩ isSubtype_stop (wpAny_pure (hQ h' fun b q hb hq=>k' b q ((Heap.SameBut.update ..).extBut b q hb hq))))
def zgj (h:Heap) (I:Addr) (x:Str) (t:Tok) (i:Nat):Prop:=h.IsStrIter I "str_ascii_iterator" x t i∨h.IsStrIter I "str_iterator" x t i
theorem zgj.keep {h h':Heap}{I:Addr}{x:Str}{t:Tok}{i:Nat} (y:zgj h I x t i) (k:∀ o,h.get? I=some o→h'.get? I=some o):zgj h' I x t i:=by
 rcases y with⟨o,e,r⟩|⟨o,e,r⟩
 ·exact .inl ⟨o,k o e,r⟩
 ·exact .inr ⟨o,k o e,r⟩
theorem ziZ {it:Addr}{x:Str}{t:Tok}{i c:Nat}{Q:Option Value→Shared→Prop} (hit:zgj s.heap it x t i) (hx:x.cps[i]?=some c)
  (hQ:∀ h' u tk,zgj h' it x t (i + 1)→Heap.SameBut it s.heap h'→Q (some (.str ⟨#[c]⟩ u)) { s with heap:=h',toks:=tk }):wpAny (model prog w) A (pyNext (.ref it)) Q E s:=by
 rcases hit with y|y
 ·exact wpAny_pyNext_ascii_item y hx fun h' y' hs=>hQ h' _ _ (.inl y') hs
 ·exact wpAny_pyNext_wide_item y hx fun h' y' hs=>hQ h' _ _ (.inr y') hs
theorem zj9 {it:Addr}{x:Str}{t:Tok}{i:Nat}{Q:Option Value→Shared→Prop} (hd:Hd A s.heap) (hit:zgj s.heap it x t i) (hx:x.cps[i]?=none)
  (hQ:∀ h',Heap.ExtBut it s.heap h'→Q none { s with heap:=h' }):wpAny (model prog w) A (pyNext (.ref it)) Q E s:=by
 rcases hit with y|y
 ·exact zhZ hd y hx hQ
 ·exact ziY hd y hx hQ
theorem zi0 {it l:Addr}{i:Nat} {items}{Q:Value→Shared→Prop} (hd:Hd A s.heap) (hit:s.heap.IsListIter it l i) (hl:s.heap.IsList l items) (hx:items[i]?=none)
  (hE:∀ h' e,Heap.ExtBut it s.heap h'→(∃ o,h'.get? e=some o∧o.cls=.type "StopIteration")→E (.ref e) { s with heap:=h' }):wpAny (model prog w) A (Builtin.SmallTypes.nextOf (.ref it)) Q E s:=by
 obtain⟨o,ho,hc,hdat⟩:=id hit
 obtain⟨ol,hol,_,nl,hdl⟩:=hl
 unfold Builtin.SmallTypes.nextOf
 refine wpAny_bind (wpAny_callSpecial?_slot (name:=Str.ofString "__next__") hit.typeIs slot_listiter_next (wpAny_call_entry slot_listiter_next hit.typeIs entry_listiter_next ?_ (args_listiter_next _)))
 refine(show wpAny _ _ (field (.ref it) 0 >>= _) _ _ s from wpAny_bind (wpAny_field ho hdat (x:=.ref l) rfl ?_))
 refine(show wpAny _ _ (if (Value.ref l == Value.none)=true then _ else _) _ _ s from ?_)
 rw[if_neg (show ¬ ((Value.ref l == Value.none)=true) from Bool.false_ne_true)]
 refine(show wpAny _ _ (field (.ref it) 1 >>= _) _ _ s from wpAny_bind (wpAny_field ho hdat (x:=.int i 0) rfl ?_))
 refine(show wpAny _ _ (seqItems? (.ref l) >>= _) _ _ s from wpAny_bind (wpAny_seqItems hol hdl ?_))
 simp only[Int.toNat_natCast,hx]
 refine wpAny_bind (wpAny_rule (wpAny_bind (wpAny_setField ho hdat (by simp) ?_)))
 refine zcw (A:=A.in1) (hd.but ho (fun vs q=>.inl (by rw[hdat] at q;cases q;simp)) (Heap.SameBut.update ..).extBut) fun h' e k' x=>hE h' e (fun b q hb hq=>k' b q ((Heap.SameBut.update ..).extBut b q hb hq)) x
section
variable {κ:Type} [DecidableEq κ] {knd:KeyKind prog w κ}
theorem zi1 {it d:Addr}{i ep:Nat}{kvs:List (κ×Value)}{Q:Option Value→Shared→Prop} (hd:Hd A s.heap) (hit:s.heap.IsKeyIter it d i kvs.length ep) (hm:s.heap.DictAt knd d kvs ep) (hx:kvs[i]?=none)
  (hQ:∀ h',Heap.ExtBut it s.heap h'→Q none { s with heap:=h' }):wpAny (model prog w) A (pyNext (.ref it)) Q E s:=by
 obtain⟨o,ho,hc,hdat⟩:=id hit
 obtain⟨od,es,hod,hcd,hdd,hk,hp,hn⟩:=id hm
 have hsz:es.size=kvs.length:=by rw[← hp.length];simp
 have hge:es.size≤i:=by rw[hsz];simpa using hx
 have hown:Builtin.Dict_items.ownsTuple "dict_keyiterator"=false:=by decide
 unfold pyNext
 refine wpAny_bind (wpAny_attempt (wpAny_callSpecial?_slot (name:=Str.ofString "__next__") hit.typeIs F.slot_dict_keyiterator_next (wpAny_call_entry F.slot_dict_keyiterator_next hit.typeIs F.entry_dict_keyiterator_next ?_ (F.args_dict_keyiterator_next_1 _))))
 refine wpAny_bind (wpAny_pure (wpAny_bind (wpAny_bind ?_)))
 first|refine wpAny_bind (wpAny_typeNameOfWhole_keyiter hit.typeIs (wpAny_pure (wpAny_bind (wpAny_fieldsOf ho hdat ?_))))|refine wpAny_bind (wpAny_typeNameOf_keyiter hit.typeIs (wpAny_pure (wpAny_bind (wpAny_fieldsOf ho hdat ?_))))
 simp only[hown,Bool.false_eq_true,if_false]
 show wpAny _ _ (if (Value.ref d == Value.none)=true then _ else _) _ _ s
 rw[if_neg (show ¬ ((Value.ref d == Value.none)=true) from Bool.false_ne_true)]
 refine wpAny_bind (wpAny_pure (wpAny_bind (wpAny_dictEntries hod hdd ?_)))
 rw[if_neg (by rw[hsz];simp)]
 refine wpAny_bind (wpAny_pure (wpAny_bind (wpAny_dictEpoch hod hdd ?_)))
 rw[if_neg (by simp)]
 refine wpAny_pure ?_
 simp only[show ¬ ((i:Int)<0) from by omega,if_false,Int.toNat_natCast,Array.getElem?_eq_none hge]
 refine wpAny_bind ?_
 first|refine wpAny_bind (wpAny_typeNameOfWhole_keyiter hit.typeIs (wpAny_pure ?_))|refine wpAny_bind (wpAny_typeNameOf_keyiter hit.typeIs (wpAny_pure ?_))
 refine(show wpAny _ _ (setField (.ref it) 0 .none >>= _) _ _ s from wpAny_bind (wpAny_setField ho hdat (by simp) ?_))
 refine zcw (A:=A.in1) (hd.but ho (fun vs q=>.inr (by rw[hdat] at q;cases q;simp)) (Heap.SameBut.update ..).extBut) fun h' e k' ⟨o',e',c'⟩=>?_
 exact wpAny_bind (wpAny_isInstance (T:="StopIteration") (b:=true) ⟨o',e',c'⟩ isSubtype_stop (wpAny_pure (hQ h' fun b q hb hq=>k' b q ((Heap.SameBut.update ..).extBut b q hb hq))))
theorem zh0 (hc:HdC A cs) (I d:Addr) (hne:d≠I) (hI:I∉cs) (kvs:List (κ×Value)) (ep:Nat) :
  Walks prog w A I (I::d::cs) [I] kvs.length (fun i v=>∃ k x,kvs[i]?=some (k,x)∧knd.is k v=true) (fun i h=>h.IsKeyIter I d i kvs.length ep∧h.DictAt knd d kvs ep∧Chn h cs) where
 sub:=fun b hb=>by simp at hb;simp[hb]
 frame:=fun _ _ _ st hk=>⟨st.1.at fun o e=>hk I (by simp) o e,st.2.1.at' fun o e=>hk d (by simp) o e,st.2.2.mono fun b o hb e=>hk b (by simp[hb]) o e⟩
 item:=fun i s Q E hi st hQ=>by
  obtain⟨⟨k,x⟩,hx⟩:∃ p,kvs[i]?=some p:=⟨kvs[i],by simp[hi]⟩
  refine wpAny_pyNext_dict_item st.1 st.2.1 hx fun key h' hkey hit' hs'=>?_
  exact hQ key h' s.toks ⟨k,x,hx,hkey⟩ ⟨hit',st.2.1.extBut hs'.extBut hne,st.2.2.but hI hs'.extBut⟩ fun b o hb e=>hs'.extBut b o (fun h=>hb (by simp[h])) e
 done:=fun s Q E st hQ=>zi1 (hc.hd st.2.2) st.1 st.2.1 (by simp) fun h' he'=>hQ h' s.toks fun b o hb e=>he' b o (fun h=>hb (by simp[h])) e
 self:=fun _ _ _ _ st hQ=>wpAny_pyIter_keyiter st.1 hQ
theorem zh1 {it d:Addr}{i ep:Nat}{kvs:List (κ×Value)}{ok ov:Value}{Q:Option Value→Shared→Prop} (hc:HdC A cs) (c:Chn s.heap cs) (hI:it∉cs) (hit:IsItemIter s.heap it d i kvs.length ep ok ov) (hm:s.heap.DictAt knd d kvs ep) (hx:kvs[i]?=none)
  (hQ:∀ h',Heap.ExtBut it s.heap h'→Q none { s with heap:=h' }):wpAny (model prog w) A (pyNext (.ref it)) Q E s:=by
 obtain⟨od,es,hod,hcd,hdd,hk,hp,hn⟩:=id hm
 have hT:s.TypeIs (.ref it) "dict_itemiterator":=⟨_,hit,rfl⟩
 have hsz:es.size=kvs.length:=by rw[← hp.length];simp
 have hge:es.size≤i:=by rw[hsz];simpa using hx
 have hown:Builtin.Dict_items.ownsTuple "dict_itemiterator"=true:=by decide
 unfold pyNext
 refine wpAny_bind (wpAny_attempt (wpAny_callSpecial?_slot (name:=Str.ofString "__next__") hT F.slot_dict_itemiterator_next (wpAny_call_entry F.slot_dict_itemiterator_next hT F.entry_dict_itemiterator_next ?_ (F.args_dict_itemiterator_next_1 _))))
 refine wpAny_bind (wpAny_pure (wpAny_bind (wpAny_bind ?_)))
 first|refine wpAny_bind (wpAny_typeNameOfWhole_itemiter hT (wpAny_pure (wpAny_bind (wpAny_fieldsOf hit rfl ?_))))|refine wpAny_bind (wpAny_typeNameOf_itemiter hT (wpAny_pure (wpAny_bind (wpAny_fieldsOf hit rfl ?_))))
 simp only[hown,if_true]
 show wpAny _ _ (if (Value.ref d == Value.none)=true then _ else _) _ _ s
 rw[if_neg (show ¬ ((Value.ref d == Value.none)=true) from Bool.false_ne_true)]
 refine wpAny_bind (wpAny_pure (wpAny_bind (wpAny_dictEntries hod hdd ?_)))
 rw[if_neg (by rw[hsz];simp)]
 refine wpAny_bind (wpAny_pure (wpAny_bind (wpAny_dictEpoch hod hdd ?_)))
 rw[if_neg (by simp)]
 refine wpAny_pure ?_
 simp only[show ¬ ((i:Int)<0) from by omega,if_false,Int.toNat_natCast,Array.getElem?_eq_none hge]
 refine wpAny_bind ?_
 first|refine wpAny_bind (wpAny_typeNameOfWhole_itemiter hT (wpAny_pure ?_))|refine wpAny_bind (wpAny_typeNameOf_itemiter hT (wpAny_pure ?_))
 refine(show wpAny _ _ (setField (.ref it) 2 .none >>= _) _ _ s from wpAny_bind (wpAny_setField hit rfl (by simp) ?_))
 refine zcw (A:=A.in1) (HdC.hd (A:=A.in1) hc (c.but hI (Heap.SameBut.update ..).extBut)) fun h' e k' ⟨o',e',c'⟩=>?_
 exact wpAny_bind (wpAny_isInstance (T:="StopIteration") (b:=true) ⟨o',e',c'⟩ isSubtype_stop (wpAny_pure (hQ h' fun b q hb hq=>k' b q ((Heap.SameBut.update ..).extBut b q hb hq))))
theorem zey:typeLookup (.type "dict") "__len__"=pure (some (.builtin "dict.__len__")):=by rw[typeLookup_type,builtinLookup_eq_fast];kernel_rfl
theorem zez {R:Result→Shared→Prop} (hc:HdC A cs){d S:Addr}{kvs:List (κ×Value)}{ep c₀:Nat}{res:Value} (hd:(d == sysModules)=false) (hm:s.heap.DictAt knd d kvs ep) (c:Chn s.heap cs) (hS:s.heap.get? S=some { cls:=.type "list",data:=.seq #[] c₀ }) (hSd:S≠d) (hSc:S∉cs) (hn:kvs.length≤sizeLine)
  (hR:∀ s' acc c',Moved (S::[s.heap.objs.size]) (fun a b=>b=a) s s'→s'.heap.get? S=some { cls:=.type "list",dict:=none,data:=.seq acc c',slots:=#[] }→ItemsOf (fun i v=>∃ k x,kvs[i]?=some (k,x)∧knd.is k v=true) acc kvs.length→R (.ok (.ret res)) s') :
  wpAny (model prog w) A.in1 (Builtin.List.listExtendWith (.ref S) (.ref d) res) (fun fin s'=>match fin with|.done f=>R (.ok f) s'|.again c'=>c'.quiet=true∧codeAny (model prog w) A c' R s') (fun e s'=>R (.error e) s') s:=by
 have hT:s.TypeIs (.ref d) "dict":=hm.dictOf.typeIs
 have h1:Builtin.List.listSameRef (.ref S) (.ref d)=false:=by simp[Builtin.List.listSameRef,hSd]
 unfold Builtin.List.listExtendWith
 refine wpAny_bind (wpAny_typeOf hT ?_)
 rw[if_neg (by rw[h1];decide)]
 refine wpAny_bind (wpAny_pyIter_dict hd hm ?_)
 have m1:=hm.push { cls:=.type "dict_keyiterator",data:=.fields #[.ref d,.int 0 0,.int kvs.length 0,.int ep 0] }
 have hT1:Shared.TypeIs { s with heap:=s.heap.push { cls:=.type "dict_keyiterator",data:=.fields #[.ref d,.int 0 0,.int kvs.length 0,.int ep 0] } } (.ref d) "dict":=m1.dictOf.typeIs
 refine wpAny_bind (wpAny_holding ?_)
 unfold Builtin.List.listLengthHint
 refine wpAny_bind (wpAny_specialOf hT1 zey ?_)
 generalize hid:("dict.__len__":String)=id0
 wp_delta
 rw[show splitId id0=some ("dict","__len__") from by subst hid;decide +kernel]
 subst hid
 refine wpAny_bind (wpAny_isInstance (b:=true) hT1 (by rw[isSubtype_type];kernel_rfl) ?_)
 simp only[Bool.not_true,Bool.false_eq_true,if_false]
 rw[if_pos (by decide +kernel)]
 refine wpAny_bind (wpAny_typeOf hT1 (wpAny_pure ?_))
 rw[if_pos (by decide +kernel)]
 refine wpAny_bind (wpAny_rule (wpAny_bind ?_))
 have hlt:S<s.heap.objs.size:=Heap.lt_size hS
 have hSI:S≠s.heap.objs.size:=Nat.ne_of_lt hlt
 have hdI:d≠s.heap.objs.size:=Nat.ne_of_lt hm.lt_size
 have hIc:s.heap.objs.size∉cs:=fun z=>Nat.lt_irrefl _ (c.lt _ z)
 have hS1:=Heap.get?_push_of_some { cls:=.type "dict_keyiterator",data:=.fields #[.ref d,.int 0 0,.int kvs.length 0,.int ep 0] } hS
 refine(show wpAny _ A.in1 (updateSeq S (·.push .none) >>= fun _=>updateSeq S (·.pop)) _ _ _ from wpAny_bind (wpAny_updateSeq hS1 rfl ?_))
 have hS2:=Heap.get?_update_self (Obj.mapSeq (·.push Value.none)) hS1 rfl
 refine wpAny_updateSeq (hz:=by seq_fits) hS2 rfl ?_
 have hS3:=Heap.get?_update_self (Obj.mapSeq (·.pop)) hS2 rfl
 generalize hG:((s.heap.push { cls:=.type "dict_keyiterator",data:=.fields #[.ref d,.int 0 0,.int kvs.length 0,.int ep 0] }).update S (Obj.mapSeq (·.push Value.none))).update S (Obj.mapSeq (·.pop))=G at hS3
 have oth:∀ b o,b≠S→(s.heap.push { cls:=.type "dict_keyiterator",data:=.fields #[.ref d,.int 0 0,.int kvs.length 0,.int ep 0] }).get? b=some o→G.get? b=some o:=fun b o hb e=>by
  rw[← hG];exact(Heap.get?_update_other _ _ (Ne.symm hb)).trans ((Heap.get?_update_other _ _ (Ne.symm hb)).trans e)
 have W:=(zh0 (prog:=prog) (w:=w) (knd:=knd) (A:=A.in1) hc s.heap.objs.size d hdI hIc kvs ep).toS
 have it0:G.IsKeyIter s.heap.objs.size d 0 kvs.length ep:=⟨_,oth _ _ (Ne.symm hSI) (Heap.get?_push_size _ rfl),rfl,rfl⟩
 have d0:G.DictAt knd d kvs ep:=m1.at' fun o e=>oth d o (Ne.symm hSd) e
 have c0:Chn G cs:=c.mono fun b o hb e=>oth b o (fun z=>hSc (z ▸ hb)) (Heap.get?_push_of_some _ e)
 have hSf:S∉s.heap.objs.size::d::cs:=by simp[hSI,hSd,hSc]
 refine wpAny_pure ⟨plainId_quiet F.plain_extend_loop _,codeAny_extend_loopS W hn S hSf res kvs.length 0 _ _ _ rfl (Nat.zero_le _) ⟨it0,d0,c0⟩ hS3 (ItemsOf.nil _) fun s' acc' c' hm' hS' hacc=>?_⟩
 have mv0:Moved (S::[s.heap.objs.size]) (fun a b=>b=a) s { s with heap:=G }:=⟨fun b o hb e=>oth b o (fun z=>hb (List.mem_cons.mpr (.inl z))) (Heap.get?_push_of_some _ e),rfl,rfl,rfl,Nat.le_refl _⟩
 exact hR s' acc' c' (Moved.trans (fun _ _ _ h1 h2=>h2.trans h1) mv0 hm') hS' hacc
theorem zeX {Q:Value→Shared→Prop} (hc:HdC A cs){d:Addr}{kvs:List (κ×Value)}{ep:Nat} (hd:(d == sysModules)=false) (hm:s.heap.DictAt knd d kvs ep) (c:Chn s.heap cs) (hn:kvs.length≤sizeLine)
  (hQ:∀ s' acc c',(∀ b o,s.heap.get? b=some o→s'.heap.get? b=some o)→s'.gens=s.gens→s'.drawn=s.drawn→s'.os=s.os→s'.heap.get? s.heap.objs.size=some { cls:=.type "list",dict:=none,data:=.seq acc c',slots:=#[] } →
   ItemsOf (fun i v=>∃ k x,kvs[i]?=some (k,x)∧knd.is k v=true) acc kvs.length→Q (.ref s.heap.objs.size) s'):wpAny (model prog w) A (call (.type "list") [.ref d]) Q E s:=by
 refine callType_codes (Q₁:=fun obj s₁=>obj=.ref s.heap.objs.size∧s₁={ s with heap:=s.heap.push { cls:=.type "list",data:=.seq #[] } }) F.called_list (F.typeCall_list_1 _) F.entry_list_init (code_list_new _ ⟨rfl,rfl⟩) fun obj s₁ h₁=>?_
 obtain⟨rfl,rfl⟩:=h₁
 have hS:(s.heap.push { cls:=.type "list",data:=.seq #[] }).get? s.heap.objs.size=some { cls:=.type "list",data:=.seq #[] }:=Heap.get?_push_size _ rfl
 have hdI:s.heap.objs.size≠d:=Ne.symm (Nat.ne_of_lt hm.lt_size)
 have hIc:s.heap.objs.size∉cs:=fun z=>Nat.lt_irrefl _ (c.lt _ z)
 refine⟨⟨_,hS,rfl⟩,F.args_list_init_2 _ _,?_⟩
 refine(show wpAny _ A.in1.in1 (do let old ← Builtin.List.listItems (.ref s.heap.objs.size);Builtin.List.listUpdate (.ref s.heap.objs.size) (fun _=>#[]);letGo old.toList.reverse;Builtin.List.listExtendWith (.ref s.heap.objs.size) (.ref d) .none) _ _ _ from wpAny_bind ?_)
 unfold Builtin.List.listItems
 refine wpAny_bind (wpAny_seqItems hS rfl (wpAny_pure ?_))
 refine(show wpAny _ A.in1.in1 (updateSeq s.heap.objs.size (fun _=>#[]) >>= fun _=>letGo (#[]:Array Value).toList.reverse >>= fun _=>Builtin.List.listExtendWith (.ref s.heap.objs.size) (.ref d) .none) _ _ _ from wpAny_bind (wpAny_updateSeq hS rfl (wpAny_bind (wpAny_letGo ?_))))
 have hS2:=Heap.get?_update_self (Obj.mapSeq (fun _=>(#[]:Array Value))) hS rfl
 have oth:∀ b o,s.heap.get? b=some o→((s.heap.push { cls:=.type "list",data:=.seq #[] }).update s.heap.objs.size (Obj.mapSeq (fun _=>(#[]:Array Value)))).get? b=some o:=fun b o e=>
  (Heap.get?_update_other _ _ (Ne.symm (Nat.ne_of_lt (Heap.lt_size e)))).trans (Heap.get?_push_of_some _ e)
 have sz:((s.heap.push { cls:=.type "list",data:=.seq #[] }).update s.heap.objs.size (Obj.mapSeq (fun _=>(#[]:Array Value)))).objs.size=s.heap.objs.size + 1:=by rw[Heap.size_update,Heap.size_push]
 refine zez (A:=A.in1) hc hd (hm.at' fun o e=>oth d o e) (c.mono fun b o _ e=>oth b o e) hS2 hdI hIc hn fun s' acc c' mv hS' hacc=>⟨rfl,?_⟩
 refine hQ s' acc c' (fun b o e=>mv.heap b o (fun z=>?_) (oth b o e)) mv.gens mv.drawn mv.os hS' hacc
 have lt:=Heap.lt_size e
 simp only[List.mem_cons,List.not_mem_nil,or_false] at z
 rcases z with z|z
 ·exact absurd lt (by rw[z];exact Nat.lt_irrefl _)
 ·exact absurd lt (by rw[z,sz];exact Nat.not_lt.mpr (Nat.le_succ _))
end
end
end L2
namespace L2
open PySem PySem.Spec PyProof.Rows
def Its (x:Str):It:=⟨fun i _=>i<x.cps.size,fun i H v H'=>H'=H∧∃ c,x.cps[i]?=some c∧v=.str ⟨#[c]⟩,fun i _=>x.cps.size≤i⟩
theorem zka {P:Program}{w:World}{K:PySem.W.Frag}{tg:Expr} (x:Str) (t:Tok) (it:Addr):zk0 P w K tg (Its x) [it] it (fun i h=>zgj h it x t i) where
 mem:=by simp
 obj:=fun i h st b hb=>by
  have e:b=it:=by simpa using hb
  subst e
  rcases st with⟨o,e,c,d⟩|⟨o,e,c,d⟩ <;> exact⟨o,e,fun v z=>by rw[d] at z;cases z⟩
 keep:=fun i h h' st k=>st.keep fun o e=>k it (by simp) o e
 item:=by
  intro X hP hw hK hc i pins s σ H E I hf st hg
  subst hP hw hK
  obtain⟨f0,f1,f2,f3,f4,f5⟩:=hf it (by simp)
  have hg':i<x.cps.size:=hg
  have hx:x.cps[i]?=some x.cps[i]:=by simp[hg']
  refine ziZ st hx fun h' u tk st' sb=>?_
  have I1:Inv X pins σ H { s with heap:=h',toks:=tk }:=I.turned (fun b o hb e=>(sb.2 b hb).trans e) f0 f1 f3 f4 f5
  rcases id st' with⟨o,e,c,d⟩|⟨o,e,c,d⟩
  ·exact⟨_,rfl,zjU (s:={ s with heap:=h',toks:=tk }) e c d (by decide) ⟨.str ⟨#[x.cps[i]]⟩,H,I1,⟨u,rfl⟩,⟨rfl,_,hx,rfl⟩,st',fun b hb=>(hf b hb).1⟩⟩
  ·exact⟨_,rfl,zjU (s:={ s with heap:=h',toks:=tk }) e c d (by decide) ⟨.str ⟨#[x.cps[i]]⟩,H,I1,⟨u,rfl⟩,⟨rfl,_,hx,rfl⟩,st',fun b hb=>(hf b hb).1⟩⟩
 done:=by
  intro X hP hw hK hc i pins s σ H E I hf st hg
  subst hP hw hK
  obtain⟨f0,f1,f2,f3,f4,f5⟩:=hf it (by simp)
  exact zj9 I.hd st (Array.getElem?_eq_none hg) fun h' eb=>⟨rfl,I.turned (t':=s.toks) (fun b o hb e=>eb b o hb e) f0 f1 f3 f4 f5⟩
 self:=fun _ _ _ _ _ st h=>by
  rcases st with y|y
  ·exact wpAny_pyIter_striter_ascii y h
  ·exact wpAny_pyIter_striter_wide y h
def iStr (tl:TE):TI:=fun σ H R=>tl σ H fun x H1=>∃ z,x=.str z∧R (Its z) H1
section
variable {X:Cx}{tg:Expr}
theorem zkK {l:Expr}{tl:TE} (hl:PE X l tl):PI X tg l (iStr tl):=by
 intro pins s σ H R I h
 refine thn (hl pins s σ H _ I h) fun v s1=>L2.ex5 fun x H1 I1 r1 hq_=>?_
 obtain⟨z,e,q⟩:=hq_
 subst e
 obtain⟨t,rfl⟩:=r1
 have fin:∀ ob:Obj,zgj (s1.heap.push ob) s1.heap.objs.size z t 0→PIE X pins σ tg R (.ref s1.heap.objs.size) { s1 with heap:=s1.heap.push ob }:=fun ob st=>
  ⟨s1.heap.objs.size,[s1.heap.objs.size],_,Its z,H1,rfl,I1.kept (t':=s1.toks) fun b o e=>Heap.get?_push_of_some _ e,zka z t _,st,fun b hb=>by
   have e:b=s1.heap.objs.size:=by simpa using hb
   subst e
   exact I1.fpOk (Nat.le_refl _) (I1.hok.fresh (Nat.le_refl _)),q⟩
 cases ha:z.cps.all (·<128)
 ·exact wpAny_pyIter_wide ha (fin _ (.inr ⟨_,Heap.get?_push_size _ rfl,rfl,rfl⟩))
 ·exact wpAny_pyIter_ascii ha (fin _ (.inl ⟨_,Heap.get?_push_size _ rfl,rfl,rfl⟩))
end
section
variable {g:TG}{tt:TT}{te:TE}
theorem zhw {x:Str}{D:Addr}{τ:St}{H:Hp}{Q:VK} (Pv:Nat→St→Hp→Prop) (h0:Pv 0 τ H)
  (hs:∀ i c τ H,x.cps[i]?=some c→Pv i τ H→g (.str ⟨#[c]⟩) τ H fun τ2 H2=>tt τ2 H2 fun b H3=>
   if b=true then te τ2 H3 fun y H4=>∃ ys,H4 D=some (.lst ys)∧ys.length<sizeLine∧Pv (i + 1) τ2 (upd H4 D (.lst (ys++[y]))) else Pv (i + 1) τ2 H3)
  (hd:∀ τ H,Pv x.cps.size τ H→Q (.ref D) H):zgX (Its x) D τ H g tt te Q:=by
 refine⟨fun i m τ H=>m=x.cps.size - i∧i≤x.cps.size∧Pv i τ H,⟨x.cps.size,by simp,Nat.zero_le _,h0⟩,?_⟩
 rintro i m τ H ⟨rfl,hi,p⟩
 by_cases hlt:i<x.cps.size
 ·refine .inr ⟨hlt,Pv (i + 1),fun τ' H' p'=>⟨x.cps.size - (i + 1),by omega,rfl,hlt,p'⟩,fun v H' y=>?_⟩
  obtain⟨e,c,hc,ev⟩:=y
  subst e ev
  exact hs i c τ _ hc p
 ·have e:i=x.cps.size:=by omega
  subst e
  exact .inl ⟨Nat.le_refl _,hd τ H p⟩
end
section
variable {X:Cx}
theorem Inv.freeze {pins:List (Addr×Obj)}{σ:St}{H:Hp}{s:Shared}{d:Addr}{kvs:List (Key×V)}{o:Obj} (I:Inv X pins σ H s) (e:H d=some (.dK kvs)) (ho:s.heap.get? d=some o):Inv X pins σ (upd H d (.frz o (.dK kvs))) s:=by
 have ne:∀ b u,H b=some u→u≠.dK kvs→b≠d:=fun b u q n z=>by rw[z,e] at q;cases q;exact n rfl
 have kp:∀ b u,H b=some u→u≠.dK kvs→upd H d (.frz o (.dK kvs)) b=some u:=fun b u q n=>by rw[zaf (ne b u q n)];exact q
 refine I.un (h':=s.heap) (t':=s.toks) ⟨fun b _ q _ _ _=>q,fun b ob q _ _ _=>⟨ob.slots,q⟩,fun b ob q n _=>?_,fun b ob q _=>⟨ob,q⟩,fun b xs q=>kp b _ q (by intro z;cases z),fun b ob u q=>kp b _ q (by intro z;cases z),fun b pp pq q=>kp b _ q (by intro z;cases z)⟩ fun b u q=>?_
 ·rw[zaf (fun z=>by rw[z,e] at n;cases n)];exact n
 ·by_cases hb:b=d
  ·subst hb
   rw[zab] at q;cases q
   exact⟨ho,(I.hok _ _ e)⟩
  ·rw[zaf hb] at q
   exact(I.hok b u q).stay (fun c v _ r=>r) (fun c r=>kp c _ r (by intro z;cases z)) (fun c xs r=>kp c _ r (by intro z;cases z)) fun c ob r=>kp c _ r (by intro z;cases z)
theorem Inv.thaw {pins:List (Addr×Obj)}{σ:St}{H:Hp}{s:Shared}{d:Addr}{kvs:List (Key×V)}{o:Obj} (I:Inv X pins σ H s) (hX:∀ o u,X.H₀ d≠some (.frz o u)) (e:H d=some (.frz o (.dK kvs))):Inv X pins σ (upd H d (.dK kvs)) s:=by
 have ne:∀ b u,H b=some u→(∀ o v,u≠.frz o v)→b≠d:=fun b u q n z=>by rw[z,e] at q;cases q;exact n _ _ rfl
 have kp:∀ b u,H b=some u→(∀ o v,u≠.frz o v)→upd H d (.dK kvs) b=some u:=fun b u q n=>by rw[zaf (ne b u q n)];exact q
 have nn:∀ b,H b=none→upd H d (.dK kvs) b=none:=fun b q=>by rw[zaf (fun z=>by rw[z,e] at q;cases q)];exact q
 have un:Un X.fs X.ex X.H₀ (upd H d (.dK kvs)) X.s₀.heap s.heap:=by
  obtain⟨b1,b2,b3,b4,b5,b6,b7⟩:=I.base
  refine⟨b1,b2,fun b ob q n x=>nn b (b3 b ob q n x),b4,fun b xs q=>kp b _ (b5 b xs q) (by intro _ _ z;cases z),fun b ob u q=>?_,fun b pp pq q=>?_⟩
  ·rw[zaf (fun z=>hX ob u (by rw[← z];exact q))];exact b6 b ob u q
  ·exact kp b _ (b7 b pp pq q) (by intro _ _ z;cases z)
 refine { I with base:=un,free:=nn _ I.free,freeC:=fun x c q=>nn _ (I.freeC x c q),pin:=fun p hp=>?_,hok:=fun b u q=>?_ }
 ·obtain⟨p1,p2,p3⟩:=I.pin p hp
  exact⟨p1,nn _ p2,p3⟩
 ·by_cases hb:b=d
  ·subst hb
   rw[zab] at q;cases q
   exact(I.hok _ _ e).2
  ·rw[zaf hb] at q
   exact(I.hok b u q).stay (fun c v _ r=>r) (fun c r=>kp c _ r (by intro _ _ z;cases z)) (fun c xs r=>kp c _ r (by intro _ _ z;cases z)) fun c ob r=>by rw[zaf (fun z=>by rw[z,e] at r;cases r)];exact r
theorem Inv.notFrz {pins:List (Addr×Obj)}{σ:St}{H:Hp}{s:Shared}{d:Addr}{kvs:List (Key×V)} (I:Inv X pins σ H s) (e:H d=some (.dK kvs)):∀ o u,X.H₀ d≠some (.frz o u):=fun o u q=>by
 have:=I.base.frzs d o u q
 rw[e] at this;cases this
def tThaw (t:TE):TE:=fun σ H Q=>∃ d kvs,H d=some (.dK kvs)∧t σ H fun v H1=>∃ o,H1 d=some (.frz o (.dK kvs))∧Q v (upd H1 d (.dK kvs))
theorem zll {e:Expr}{t:TE} (h:PE X e t):PE X e (tThaw t):=by
 intro pins s σ H Q I q
 obtain⟨d,kvs,hd,q⟩:=q
 exact thn (h pins s σ H _ I q) fun u s1 ⟨x,H1,I1,r,o,e1,q1⟩=>⟨x,_,I1.thaw (I.notFrz hd) e1,r,q1⟩
def zi2 (v d:Addr):HO:=.ext fun h=>h.IsItemsView v d
def rItems:V→List V→Hp→VK→Prop:=fun x vs H Q=>∃ d kvs,x=.ref d∧vs=[]∧H d=some (.dK kvs)∧∀ v,H v=none→Q (.ref v) (upd H v (zi2 v d))
theorem zkb:MtR X "dict.items" rItems:=by
 intro pins s σ H x xs v us Q I rx r h
 obtain⟨d,kvs,rfl,rfl,e,q⟩:=h
 obtain rfl:v=Value.ref d:=rx
 cases r
 obtain⟨z,hd,vs,rel,dd⟩:=zeV I.hok e
 refine call_meetsIn PySem.F.slot_dict_items dd.typeIs PySem.F.entry_dict_items (PySem.F.args_dict_items_1 _) (meets_dict_items (zaL X.prog X.w) d hd) ⟨⟨vs,dd⟩,?_⟩
 refine⟨.ref s.heap.objs.size,_,I.laid (t':=s.toks) (o:=zi2 s.heap.objs.size d) (fun b ob q=>Heap.get?_push_of_some _ q) (Nat.le_refl _) ?_,rfl,q _ (I.hok.fresh (Nat.le_refl _))⟩
 exact⟨⟨_,Heap.get?_push_size _ rfl,rfl,rfl⟩,⟨_,Heap.get?_push_size _ rfl⟩,fun h1 h2 ⟨o,a,r⟩ k=>⟨o,k o a,r⟩⟩
end
def Iti (d:Addr) (o:Obj) (kvs:List (Key×V)):It:=
 ⟨fun i H=>H d=some (.frz o (.dK kvs))∧i<kvs.length,fun i H v H'=>∃ T k x,v=.ref T∧H T=none∧kvs[i]?=some (k,x)∧H'=upd H T (.tup [kV k,x]),fun i H=>H d=some (.frz o (.dK kvs))∧kvs.length≤i⟩
def ItemIt (h:Heap) (it d:Addr) (o:Obj) (n i:Nat):Prop:=∃ es ep ok ov,o.data=.dict es ep∧IsItemIter h it d i n ep ok ov
theorem kV_of {P:Program}{w:World}{k:Key}{u:Value} (h:(zaL P w).is k u=true):za8 (kV k) u:=by
 rcases zaR (show zfg k u=true from h) with⟨i,t,rfl,rfl⟩|⟨x,t,rfl,rfl⟩
 ·exact⟨t,rfl⟩
 ·exact⟨t,rfl⟩
theorem KV.get {kvs:List (Key×V)}{vs:List (Key×Value)} (r:KV kvs vs):∀ {i:Nat}{k:Key}{x:V},kvs[i]?=some (k,x)→∃ u,vs[i]?=some (k,u)∧za8 x u:=by
 induction r with
 | nil=>intro i k x e;simp at e
 | @cons p q l1 l2 h t ih=>
  intro i k x e
  cases i with
  | zero=>
   simp at e
   subst e
   exact⟨q.2,by simp only[List.getElem?_cons_zero,Option.some.injEq];exact Prod.ext h.1.symm rfl,h.2⟩
  | succ i=>exact ih (by simpa using e)
theorem zc2:entryFor table "dict_itemiterator.__iter__"=some Builtin.«dict_keyiterator.__iter__»:=entryFor_alias (id':="dict_keyiterator.__iter__") (by kernel_rfl) rfl (by decide +kernel) (by kernel_rfl)
theorem zh2 {P:Program}{w:World}{K:PySem.W.Frag}{es:List Expr}{k:Nat}{pos:Pos}{it d:Addr}{o:Obj}{kvs:List (Key×V)}:zk0 P w K (.Tuple es k pos) (Iti d o kvs) [it] it (fun i h=>ItemIt h it d o kvs.length i) where
 mem:=by simp
 obj:=fun i h st b hb=>by
  have e:b=it:=by simpa using hb
  subst e
  obtain⟨_,_,_,_,_,e⟩:=st
  exact⟨_,e,fun v q=>by simp at q⟩
 keep:=fun i h h' st kk=>by
  obtain⟨a,b,c,e,q,y⟩:=st
  exact⟨a,b,c,e,q,kk it (by simp) _ y⟩
 item:=by
  intro X hP hw hK hc i pins s σ H E I hf st hg
  subst hP hw hK
  obtain⟨hd,hlt⟩:=hg
  obtain⟨es',ep,ok,ov,hdat,hit⟩:=st
  obtain⟨f0,f1,f2,f3,f4,f5⟩:=hf it (by simp)
  obtain⟨ho,hdk⟩:=I.hok _ _ hd
  obtain⟨z,hsm,vs,rel,⟨o',es2,ep2,ho2,hx2,hd2,r2⟩⟩:=hdk
  rw[ho] at ho2;cases ho2
  rw[hdat] at hd2;cases hd2
  have dat:s.heap.DictAt (zaL X.prog X.w) d vs ep:=⟨o,es',ho,hx2,hdat,r2⟩
  obtain⟨⟨kk,x⟩,hx⟩:∃ p,kvs[i]?=some p:=⟨kvs[i],by simp[hlt]⟩
  obtain⟨u,hu,ru⟩:=rel.get hx
  have hlen:kvs.length=vs.length:=rel.length
  rw[hlen] at hit
  refine wpAny_pyNext_items_item hit dat hu fun key h' hkey a1 a2 a3 hkp=>⟨_,rfl,?_⟩
  refine wpAny_letOwnedTupleGo_items (s:={ s with heap:=h' }) a1 fun h'' hit' hs'=>?_
  have hTn:H s.heap.objs.size=none:=I.hok.fresh (Nat.le_refl _)
  have nT:s.heap.objs.size≠it:=Ne.symm (Nat.ne_of_lt (Heap.lt_size hit))
  have I1:Inv X pins σ (upd H s.heap.objs.size (.tup [kV kk,x])) { s with heap:=s.heap.push { cls:=.type "tuple",data:=.seq #[key,u] } }:=
   I.laid (t':=s.toks) (fun b o e=>Heap.get?_push_of_some _ e) (Nat.le_refl _) ⟨by show 2≤sizeLine;decide,[key,u],.cons (kV_of hkey) (.cons ru .nil),⟨_,Heap.get?_push_size _ rfl,rfl,_,rfl⟩⟩
  have f0':upd H s.heap.objs.size (.tup [kV kk,x]) it=none:=by rw[zaf (Ne.symm nT)];exact f0
  have I2:Inv X pins σ (upd H s.heap.objs.size (.tup [kV kk,x])) { s with heap:=h'' }:=I1.turned (t':=s.toks) (fun b ob hb e=>by
   rcases Heap.get?_push_cases e with⟨rfl,rfl⟩|e
   ·exact hs'.extBut _ _ hb a2
   ·exact hs'.extBut _ _ hb (hkp b ob hb e)) f0' f1 f3 f4 f5
  refine⟨.ref s.heap.objs.size,_,I2,rfl,⟨_,kk,x,rfl,hTn,hx,rfl⟩,⟨es',ep,key,u,hdat,by rw[hlen];exact hit'⟩,fun b hb=>?_⟩
  have e:b=it:=by simpa using hb
  subst e
  exact f0'
 done:=by
  intro X hP hw hK hc i pins s σ H E I hf st hg
  subst hP hw hK
  obtain⟨hd,hge⟩:=hg
  obtain⟨es',ep,ok,ov,hdat,hit⟩:=st
  obtain⟨f0,f1,f2,f3,f4,f5⟩:=hf it (by simp)
  obtain⟨ho,hdk⟩:=I.hok _ _ hd
  obtain⟨z,hsm,vs,rel,⟨o',es2,ep2,ho2,hx2,hd2,r2⟩⟩:=hdk
  rw[ho] at ho2;cases ho2
  rw[hdat] at hd2;cases hd2
  have dat:s.heap.DictAt (zaL X.prog X.w) d vs ep:=⟨o,es',ho,hx2,hdat,r2⟩
  have hlen:kvs.length=vs.length:=rel.length
  rw[hlen] at hit
  have nc:∃ cs,HdC X.A cs∧Chn s.heap cs∧it∉cs:=by
   rcases I.hdAt with e|⟨b,cs,e,c⟩
   ·exact⟨[],.inl ⟨e,rfl⟩,⟨List.nodup_nil,fun j a q=>by simp at q⟩,by simp⟩
   ·exact⟨b::cs,.inr ⟨b,cs,rfl,e⟩,c.chn I.hok,c.not_mem f0⟩
  obtain⟨cs,hcs,ch,ncs⟩:=nc
  exact zh1 hcs ch ncs hit dat (List.getElem?_eq_none (by rw[← hlen];exact hge)) fun h' eb=>⟨rfl,I.turned (t':=s.toks) (fun b o hb e=>eb b o hb e) f0 f1 f3 f4 f5⟩
 self:=fun A i s Q E st h=>by
  obtain⟨es',ep,ok,ov,hdat,hit⟩:=st
  have hT:s.TypeIs (.ref it) "dict_itemiterator":=⟨_,hit,rfl⟩
  refine wpAny_pyIter_slot hT PySem.F.slot_dict_itemiterator_iter (wpAny_call_entry PySem.F.slot_dict_itemiterator_iter hT zc2 ?_ (PySem.F.args_dict_itemiterator_iter_1 _))
  show wpAny _ _ (ret (.ref it)) _ _ s
  exact wpAny_pure ⟨_,rfl,"dict_itemiterator",_,hT,PySem.F.slot_dict_itemiterator_next.lookup,h⟩
def iView (tl:TE):TI:=fun σ H R=>tl σ H fun x H1=>∃ v d kvs,x=.ref v∧H1 v=some (zi2 v d)∧H1 d=some (.dK kvs)∧∀ o,R (Iti d o kvs) (upd H1 d (.frz o (.dK kvs)))
section
variable {X:Cx}
theorem zlm {es:List Expr}{k:Nat}{tpos:Pos}{l:Expr}{tl:TE} (hl:PE X l tl):PI X (.Tuple es k tpos) l (iView tl):=by
 intro pins s σ H R I h
 refine thn (hl pins s σ H _ I h) fun w s1=>L2.ex5 fun x H1 I1 r1 hq_=>?_
 obtain⟨v,d,kvs,e,hv,hd,q⟩:=hq_
 subst e
 obtain rfl:w=Value.ref v:=r1
 obtain⟨z,hsm,vs,rel,dd⟩:=zeV I1.hok hd
 obtain⟨o,es',ep,ho,hx,hdat,r⟩:=id dd
 have dat:s1.heap.DictAt (zaL X.prog X.w) d vs ep:=⟨o,es',ho,hx,hdat,r⟩
 refine wpAny_pyIter_items (I1.hok _ _ hv).1 dat ?_
 have I2:=(I1.freeze hd ho).kept (t':=s1.toks) (h':=s1.heap.push { cls:=.type "dict_itemiterator",data:=.fields #[.none,.bool false,.ref d,.int 0 0,.int vs.length 0,.int ep 0,.none,.none] }) fun b o e=>Heap.get?_push_of_some _ e
 refine⟨s1.heap.objs.size,[s1.heap.objs.size],_,_,_,rfl,I2,zh2,⟨es',ep,.none,.none,hdat,?_⟩,fun b hb=>?_,q o⟩
 ·rw[rel.length];exact Heap.get?_push_size _ rfl
 ·have e:b=s1.heap.objs.size:=by simpa using hb
  subst e
  refine I1.fpOk (Nat.le_refl _) ?_
  rw[zaf (Ne.symm (Nat.ne_of_lt (Heap.lt_size ho)))]
  exact I1.hok.fresh (Nat.le_refl _)
end
end L2
namespace L2
open PySem PySem.Spec PyProof.Rows
section
variable {g:TG}{tt:TT}{te:TE}
theorem zh3 {d D:Addr}{o:Obj}{kvs:List (Key×V)}{τ:St}{H:Hp}{Q:VK} (Pv:Nat→St→Hp→Prop) (h0:Pv 0 τ H) (hf:∀ i τ H,i≤kvs.length→Pv i τ H→H d=some (.frz o (.dK kvs)))
  (hs:∀ i k x T τ H,kvs[i]?=some (k,x)→H T=none→Pv i τ H→g (.ref T) τ (upd H T (.tup [kV k,x])) fun τ2 H2=>tt τ2 H2 fun b H3=>
   if b=true then te τ2 H3 fun y H4=>∃ ys,H4 D=some (.lst ys)∧ys.length<sizeLine∧Pv (i + 1) τ2 (upd H4 D (.lst (ys++[y]))) else Pv (i + 1) τ2 H3)
  (hd:∀ τ H,Pv kvs.length τ H→Q (.ref D) H):zgX (Iti d o kvs) D τ H g tt te Q:=
 wk_ (n:=kvs.length) Pv h0 (fun i σ H hi p=>⟨fun h=>⟨hf i σ H hi p,h⟩,fun h=>⟨hf i σ H hi p,h⟩⟩) (fun i v σ H H' hi p y=>by
 obtain⟨T,k,x,rfl,hT,hx,rfl⟩:=y
 exact hs i k x T σ H hx hT p) hd
end
end L2
namespace L2
open PySem PySem.Spec PyProof.Rows
theorem zi3:bootBuiltins "int"=some (.type "int"):=by decide +kernel
theorem zcR:bootBuiltins "str"=some (.type "str"):=by decide +kernel
theorem zln:bootBuiltins "bool"=some (.type "bool"):=by decide +kernel
theorem zi4:bootBuiltins "list"=some (.type "list"):=by decide +kernel
theorem zbO:bootBuiltins "isinstance"=some (.builtin "isinstance"):=by decide +kernel
theorem zi5:bootBuiltins "all"=some (.builtin "all"):=by decide +kernel
theorem za6:bootBuiltins "len"=some (.builtin "len"):=by decide +kernel
theorem zdj:bootBuiltins "sorted"=some (.builtin "sorted"):=by decide +kernel
theorem zi6 (bs:List Bool) (d:Bool):(List.range bs.length).all (fun i=>bs.getD i d)=bs.all id:=by
 induction bs with
 | nil=>rfl
 | cons b bs ih=>
  rw[List.length_cons,List.range_succ_eq_map,List.all_cons,List.all_map,List.all_cons,← ih]
  rfl
theorem zi7 {bs:List Bool}{us:List Value} (r:zaX (bs.map V.bl) us){i:Nat}{v:Value} (h:us[i]?=some v):v=.bool (bs.getD i true):=by
 have hl:(bs.map V.bl).length=us.length:=r.length
 have hi:i<bs.length:=by
  have:=(List.getElem?_eq_some_iff.mp h).1
  rw[List.length_map] at hl
  omega
 obtain⟨u,hu,ru⟩:=r.get (i:=i) (x:=.bl bs[i]) (by simp[hi])
 rw[h] at hu;cases hu
 rw[List.getD_eq_getElem?_getD,List.getElem?_eq_getElem hi]
 exact ru
section
variable {X:Cx}
theorem zeA:zdx X (.builtin "all") (fun xs H Q=>∃ p,∃ bs:List Bool,xs=[.ref p]∧SqL X.K H p (bs.map V.bl)∧Q (.bl (bs.all id)) H):=by
 intro pins s σ H xs us Q I r h
 obtain⟨p,bs,rfl,hq,q⟩:=h
 obtain⟨u,rfl,ru⟩:=zda r
 obtain rfl:u=Value.ref p:=ru
 obtain⟨its,rv,pl,_⟩:=I.list hq
 obtain⟨cs,hcs,ch⟩:=I.hd.chain
 have hlt:p<s.heap.objs.size:=by obtain⟨o,e,_⟩:=pl.isList;exact Heap.lt_size e
 have hnc:s.heap.objs.size∉cs:=fun z=>Nat.lt_irrefl _ (ch.lt _ z)
 have hlen:its.length=bs.length:=by rw[← rv.length,List.length_map]
 refine call_all_walk (wpAny_pyIter_list pl.isList ⟨s.heap.objs.size,_,_,_,_,_,fun i=>bs.getD i true,rfl,zhY (A:=X.A.in1) hcs s.heap.objs.size p (Nat.ne_of_lt hlt) hnc its.toArray,⟨⟨_,Heap.get?_push_size _ rfl,rfl,rfl⟩,pl.isList.push _,ch.mono fun b o _ e=>Heap.get?_push_of_some _ e⟩,?_,fun h' tk hk=>?_⟩)
 ·intro i v s' Q' E' hv hQ'
  have hv':its[i]?=some v:=by simpa using hv
  rw[zi7 rv hv']
  exact wpAny_truthy_bool hQ'
 ·have e:(List.range its.toArray.size).all (fun i=>bs.getD i true)=bs.all id:=by rw[List.size_toArray,hlen];exact zi6 bs true
  rw[e]
  exact⟨.bl _,H,I.kept fun b o e=>hk b o (fun z=>by
   have:b=s.heap.objs.size:=by simpa using z
   exact absurd (Heap.lt_size e) (by rw[this];exact Nat.lt_irrefl _)) (Heap.get?_push_of_some _ e),rfl,q⟩
theorem zgk {P:Program}{w:World}:∀ {kvs:List (Key×V)}{vs:List (Key×Value)}{acc:List Value},KV kvs vs→acc.length=vs.length→(∀ (i:Nat) (v:Value),acc[i]?=some v→∃ k x,vs[i]?=some (k,x)∧(zaL P w).is k v=true)→zaX (kvs.map fun kv=>kV kv.1) acc:=by
 intro kvs vs acc r
 induction r generalizing acc with
 | nil=>
  intro hl _
  cases acc with
  | nil=>exact .nil
  | cons _ _=>simp at hl
 | @cons p q ps qs h t ih=>
  intro hl hk
  cases acc with
  | nil=>simp at hl
  | cons v acc=>
   obtain⟨k,x,e,hv⟩:=hk 0 v rfl
   simp at e
   subst e
   refine .cons ?_ (ih (by simpa using hl) fun i v' hv'=>by simpa using hk (i + 1) v' (by simpa using hv'))
   show za8 (kV p.1) v
   rw[h.1]
   exact kV_of hv
theorem zh4:zdx X (.type "list") (fun xs H Q=>∃ d kvs,xs=[.ref d]∧H d=some (.dK kvs)∧∀ l,H l=none→Q (.ref l) (upd H l (.lst (kvs.map fun kv=>kV kv.1)))):=by
 intro pins s σ H xs us Q I r h
 obtain⟨d,kvs,rfl,hd,q⟩:=h
 obtain⟨u,rfl,ru⟩:=zda r
 obtain rfl:u=Value.ref d:=ru
 obtain⟨z,hsm,vs,rel,dd⟩:=zeV I.hok hd
 obtain⟨ep,dat⟩:=dd.dictAt
 obtain⟨cs,hcs,ch⟩:=I.hd.chain
 refine zeX hcs hsm dat ch (by rw[← rel.length];exact z) fun s' acc c' kp g1 g2 g3 hS ha=>?_
 have rv:zaX (kvs.map fun kv=>kV kv.1) acc.toList:=zgk rel (by simpa using ha.1) fun i v hv=>ha.2 i v (by simpa using hv)
 have I':Inv X pins σ (upd H s.heap.objs.size (.lst (kvs.map fun kv=>kV kv.1))) { s with heap:=s'.heap,toks:=s'.toks }:=
  I.laid kp (Nat.le_refl _) ⟨by rw[List.length_map];exact z,acc.toList,c',rv,by simpa using hS⟩
 obtain⟨h',g',d',t',os'⟩:=s'
 dsimp only at g1 g2 g3 I'
 subst g1 g2 g3
 exact⟨.ref s.heap.objs.size,_,I',rfl,q _ (I.hok.fresh (Nat.le_refl _))⟩
theorem zgl {v:Value}{o:Option Int} (p:IsPart v o):∃ l:Option (Int×Tok),v=partValue l∧l.map (·.1)=o:=by
 cases p with
 | none=>exact⟨none,rfl,rfl⟩
 | int i t=>exact⟨some (i,t),rfl,rfl⟩
theorem zkL:SlR X (fun x lo hi H Q=>∃ z,x=.str z∧z.length≤sizeLine∧Q (.str (Txt.slice z lo hi)) H):=by
 intro pins s σ H x v vl vu lo hi sl Q I rx hs pl pu h
 obtain⟨z,rfl,hz,q⟩:=h
 obtain⟨t,rfl⟩:=rx
 obtain⟨l,rfl,rfl⟩:=zgl pl
 obtain⟨u,rfl,rfl⟩:=zgl pu
 refine⟨"str",_,PySem.F.slot_str_getitem.lookup,typeIs_str _ _ _,wpAny_getItem_str_slice (l:=l) (u:=u) (st:=none) hs rfl (post_val_or_str ⟨Nat.le_trans (Txt.slice_le z _ _) hz,fun t' k=>?_⟩)⟩
 exact⟨.str _,H,I.tok _,⟨t',rfl⟩,q⟩
end
end L2
namespace L2
open PySem PySem.Spec PyProof.Rows
section
variable {X:Cx}{K:PySem.W.Frag} (hK:X.K=K)
include hK
theorem zft:IxR X (rIxT K):=hK ▸ zcy
theorem zb5 {es:List Expr}{k:Nat}{pos:Pos}{t:TGs}{n:Nat} (hc:X.calm=true) (h:PGs X es t) (hn:(assignEach es X.env).length=n:=by rfl) (hst:(assignEach es X.env).findIdx? (·.1)=none:=by rfl):PG X (.Tuple es k pos) (gTup K n t):=hK ▸ zbW hc h hn hst
end
end L2
namespace L2
open PySem PySem.Spec PyProof.Rows
section
variable {prog:Program}{w:World}{A:Around}{E:Value→Shared→Prop}{s:Shared}{cs:List Addr}
section
variable {κ:Type} [DecidableEq κ] {knd:KeyKind prog w κ}
theorem zgm {R:List Value→Shared→Prop} (hc:HdC A cs){d:Addr}{kvs:List (κ×Value)}{ep:Nat} (hd:(d == sysModules)=false) (hm:s.heap.DictAt knd d kvs ep) (c:Chn s.heap cs) (hn:kvs.length≤sizeLine)
  (h:∀ s' (acc:Array Value),(∀ b o,s.heap.get? b=some o→s'.heap.get? b=some o)→s'.gens=s.gens→s'.drawn=s.drawn→s'.os=s.os→s.heap.objs.size<s'.heap.objs.size→ItemsOf (fun i v=>∃ k x,kvs[i]?=some (k,x)∧knd.is k v=true) acc kvs.length→R acc.toList s') :
  wpAny (model prog w) A (collect (.ref d)) R E s:=by
 unfold collect
 refine wpAny_bind (wpAny_runValue (codeAny_builtin entry_proto_collect' ?_))
 rw[Around.under_plainId PySem.F.plain_proto_collect _]
 show wpAny _ A.in1 (newList [] >>= fun l=>again (.builtin "list.__iadd__" ⟨[l,.ref d],[]⟩)) _ _ s
 refine wpAny_bind (wpAny_newObj_type ?_)
 refine wpAny_pure ⟨plainId_quiet PySem.F.plain_list_iadd _,codeAny_builtin entry_list_iadd' ?_⟩
 rw[Around.under_plainId PySem.F.plain_list_iadd _]
 have hS₁:(s.heap.push { cls:=.type "list",data:=.seq ([]:List Value).toArray }).get? s.heap.objs.size=some { cls:=.type "list",data:=.seq #[] }:=Heap.get?_push_size _ rfl
 have oth:∀ b o,s.heap.get? b=some o→(s.heap.push { cls:=.type "list",data:=.seq ([]:List Value).toArray }).get? b=some o:=fun b o e=>Heap.get?_push_of_some _ e
 have hdI:s.heap.objs.size≠d:=Ne.symm (Nat.ne_of_lt hm.lt_size)
 have hIc:s.heap.objs.size∉cs:=fun z=>Nat.lt_irrefl _ (c.lt _ z)
 show wpAny _ A.in1 (Builtin.List.listExtendWith (.ref s.heap.objs.size) (.ref d) (.ref s.heap.objs.size)) _ _ _
 have key:=zez (A:=A) (s:={ s with heap:=s.heap.push { cls:=.type "list",data:=.seq ([]:List Value).toArray } }) (res:=.ref s.heap.objs.size)
  (R:=fun(q:Result) (s':Shared)=>∃ (acc':Array Value) (c':Nat),q=.ok (.ret (.ref s.heap.objs.size))∧(∀ b o,s.heap.get? b=some o→s'.heap.get? b=some o)∧s'.gens=s.gens∧s'.drawn=s.drawn∧s'.os=s.os ∧
   s'.heap.get? s.heap.objs.size=some { cls:=.type "list",dict:=none,data:=.seq acc' c',slots:=#[] }∧ItemsOf (fun i v=>∃ k x,kvs[i]?=some (k,x)∧knd.is k v=true) acc' kvs.length)
  hc hd (hm.at' fun o e=>oth d o e) (c.mono fun b o _ e=>oth b o e) hS₁ hdI hIc hn (fun s' acc c' mv hS' hacc=>⟨acc,c',rfl,fun b o e=>mv.heap b o (fun z=>by
   have lt:=Heap.lt_size e
   simp only[List.mem_cons,List.not_mem_nil,or_false] at z
   rcases z with z|z
   ·exact absurd lt (by rw[z];exact Nat.lt_irrefl _)
   ·exact absurd lt (by rw[z];show ¬ (s.heap.push _).objs.size<_;rw[Heap.size_push];exact Nat.not_lt.mpr (Nat.le_succ _))) (oth b o e),mv.gens,mv.drawn,mv.os,hS',hacc⟩)
 refine wpAny_mono key (fun fin s' x=>?_) fun e s' x=>?_
 ·cases fin with
  | done f=>
   obtain⟨acc',c',e,hk,g1,g2,g3,hS',hacc⟩:=x
   cases e
   show wpAny _ A (load s.heap.objs.size >>= _) _ _ _
   refine wpAny_bind (wpAny_load hS' ?_)
   exact wpAny_pure (h s' acc' hk g1 g2 g3 (Heap.lt_size hS') hacc)
  | again c₁=>
   refine⟨x.1,codeAny_mono x.2 fun q s₂ y=>?_⟩
   obtain⟨acc',c',rfl,hk,g1,g2,g3,hS',hacc⟩:=y
   show wpAny _ A (load s.heap.objs.size >>= _) _ _ _
   refine wpAny_bind (wpAny_load hS' ?_)
   exact wpAny_pure (h s₂ acc' hk g1 g2 g3 (Heap.lt_size hS') hacc)
 ·obtain⟨_,_,e',_⟩:=x
  cases e'
set_option maxHeartbeats 1000000 in
theorem zgZ {Q:Value→Shared→Prop} (hc:HdC A cs){d:Addr}{kvs:List (κ×Value)}{ep:Nat} (hd:(d == sysModules)=false) (hm:s.heap.DictAt knd d kvs ep) (c:Chn s.heap cs) (h64:kvs.length<64){ns:List Int}
  (hI:∀ acc:Array Value,ItemsOf (fun i v=>∃ k x,kvs[i]?=some (k,x)∧knd.is k v=true) acc kvs.length→IntsAre acc.toList ns)
  (h:∀ s' D (out:Array Value) (ns':List Int) (e:Nat),(∀ b o,s.heap.get? b=some o→s'.heap.get? b=some o)→s.heap.objs.size≤D→s'.gens=s.gens→s'.drawn=s.drawn→s'.os=s.os→s'.heap.get? D=some (seqObj "list" out e)→IntsAre out.toList ns'→ns'.Perm ns→ns'.Pairwise (·≤·)→Q (.ref D) s') :
  wpAny (model prog w) A (call (.builtin "sorted") [.ref d]) Q E s:=by
 refine Calls.call_function_entry kind_sorted plain_sorted entry_sorted (args_sorted1 _) ?_
 unfold Builtin.«sorted»
 refine wpAny_bind (m:=checkCount "sorted" 1 1 _) (wpAny_pure ?_)
 refine wpAny_bind (zgm (A:=A.in1) hc hd hm c (by rw[sizeLine_eq];omega) fun s' acc hk g1 g2 g3 lt hacc=>?_)
 have hl:acc.toList.length=kvs.length:=by rw[Array.length_toList];exact hacc.1
 refine wpAny_bind (wpAny_newList ?_ (by rw[hl,sizeLine_eq];omega))
 have hoL:(s'.heap.push (seqObj "list" acc.toList.toArray 0)).get? s'.heap.objs.size=some (seqObj "list" acc.toList.toArray 0):=Heap.get?_push_size _ rfl
 show wpAny _ _ _ _ _ { s' with heap:=s'.heap.push (seqObj "list" acc.toList.toArray 0) }
 refine wpAny_bind (wpAny_holding (wpAny_call_entry slot_list_sort ⟨_,hoL,rfl⟩ entry_list_sort (list_sort_tree hoL (hI acc hacc) (by rw[hl];exact h64) fun out ns' a1 a2 a3=>⟨_,rfl,?_⟩) (args_list_sort _)))
 have hlt:s.heap.objs.size≤s'.heap.objs.size:=Nat.le_of_lt lt
 obtain⟨e,he⟩:=sortedHeap_at (out:=out) hoL
 refine wpAny_pure ⟨_,rfl,h _ s'.heap.objs.size out ns' e (fun b o q=>?_) hlt g1 g2 g3 he a1 a2 a3⟩
 have hb:b<s'.heap.objs.size:=Heap.lt_size (hk b o q)
 show(sortedHeap _ _ _ _).get? b=some o
 rw[sortedHeap_old (Nat.ne_of_lt hb) (by rw[size_push'];exact Nat.lt_succ_of_lt hb)]
 exact Heap.get?_push_of_some _ (hk b o q)
end
end
section
variable {X:Cx}
theorem zdR:∀ {ns:List Int}{us:List Value},IntsAre us ns→zaX (ns.map V.int) us
 | _,_,.nil=>.nil
 | _,_,.cons n t r=>.cons ⟨_,rfl⟩ (zdR r)
theorem zbX:zdx X (.builtin "sorted") (fun xs H Q=>∃ d kvs,∃ ns:List Int,xs=[.ref d]∧H d=some (.dK kvs)∧(kvs.map fun kv=>kV kv.1)=ns.map V.int∧ns.length<64 ∧
  ∀ (l:Addr) (ns':List Int),H l=none→ns'.Perm ns→ns'.Pairwise (·≤·)→Q (.ref l) (upd H l (.lst (ns'.map V.int)))):=by
 intro pins s σ H xs us Q I r h
 obtain⟨d,kvs,ns,rfl,hd,hns,h64,q⟩:=h
 obtain⟨u,rfl,ru⟩:=zda r
 obtain rfl:u=Value.ref d:=ru
 obtain⟨z,hsm,vs,rel,dd⟩:=zeV I.hok hd
 obtain⟨ep,dat⟩:=dd.dictAt
 obtain⟨cs,hcs,ch⟩:=I.hd.chain
 have hl:vs.length=ns.length:=by
  have:=congrArg List.length hns
  rw[List.length_map,List.length_map] at this
  rw[← rel.length,this]
 refine zgZ hcs hsm dat ch (by rw[hl];exact h64) (ns:=ns) (fun acc ha=>zhT (by rw[← hns];exact zgk rel (by simpa using ha.1) fun i v hv=>ha.2 i v (by simpa using hv))) fun s' D out ns' e kp le g1 g2 g3 hD a1 a2 a3=>?_
 have hz':ns'.length≤sizeLine:=by rw[a2.length_eq,sizeLine_eq];omega
 have I':Inv X pins σ (upd H D (.lst (ns'.map V.int))) { s with heap:=s'.heap,toks:=s'.toks }:=
  I.laid kp le ⟨by rw[List.length_map];exact hz',out.toList,e,zdR a1,by simpa using hD⟩
 obtain⟨h',g',d',t',os'⟩:=s'
 dsimp only at g1 g2 g3 I'
 subst g1 g2 g3
 exact⟨.ref D,_,I',rfl,q _ _ (I.hok.fresh le) a2 a3⟩
end
end L2
namespace L2
open PySem PySem.Spec PyProof.Rows
section
variable {prog:Program}{w:World}{A:Around}{E:Value→Shared→Prop}{s:Shared}{cs:List Addr}
end
section
variable {X:Cx}
end
end L2
namespace L2
open PySem
theorem len0 {P:List Value→Prop} (h:P []) (us:List Value) (e:us.length=0):P us:=by
 rw[List.length_eq_zero_iff.mp e]
 exact h
theorem zlX {n:Nat}{P:List Value→Prop} (h:∀ a us,us.length=n→P (a::us)) (us:List Value) (e:us.length=n + 1):P us:=by
 cases us with
 | nil=>cases e
 | cons a us=>exact h a us (Nat.succ.inj e)
theorem len1 {P:List Value→Prop} (h:∀ a0,P [a0]):∀ us:List Value,us.length=1→P us:=zlX fun a=>len0 (P:=fun r=>P (a::r)) (h a)
theorem len2 {P:List Value→Prop} (h:∀ a0 a1,P [a0,a1]):∀ us:List Value,us.length=2→P us:=zlX fun a=>len1 (P:=fun r=>P (a::r)) (h a)
theorem len3 {P:List Value→Prop} (h:∀ a0 a1 a2,P [a0,a1,a2]):∀ us:List Value,us.length=3→P us:=zlX fun a=>len2 (P:=fun r=>P (a::r)) (h a)
theorem len4 {P:List Value→Prop} (h:∀ a0 a1 a2 a3,P [a0,a1,a2,a3]):∀ us:List Value,us.length=4→P us:=zlX fun a=>len3 (P:=fun r=>P (a::r)) (h a)
theorem len5 {P:List Value→Prop} (h:∀ a0 a1 a2 a3 a4,P [a0,a1,a2,a3,a4]):∀ us:List Value,us.length=5→P us:=zlX fun a=>len4 (P:=fun r=>P (a::r)) (h a)
theorem len6 {P:List Value→Prop} (h:∀ a0 a1 a2 a3 a4 a5,P [a0,a1,a2,a3,a4,a5]):∀ us:List Value,us.length=6→P us:=zlX fun a=>len5 (P:=fun r=>P (a::r)) (h a)
theorem zb6 {A B:Prop}{b:Bool} (hb:b=false) (h:B):if b=true then A else B:=by
 subst hb
 exact zlg h
theorem zgn {A B:Prop}{b:Bool} (hb:b=true) (h:A):if b=true then A else B:=by
 subst hb
 exact ziK h
theorem zbA {A B:Prop}{b:Bool} (h1:b=true→A) (h2:b=false→B):if b=true then A else B:=by
 cases b with
 | true=>exact ziK (h1 rfl)
 | false=>exact zlg (h2 rfl)
def zlo:HO→Bool
 | .tup _=>true
 | .frz _ (.tup _)=>true
 | _=>false
def Tk (H H':Hp):Prop:=∀ b o,H b=some o→zlo o=true→H' b=some o
theorem Tk.of {H H':Hp} (e:zan H H'):Tk H H':=fun b o h _=>e b o h
theorem Tk.trans {H H1 H2:Hp} (a:Tk H H1) (b:Tk H1 H2):Tk H H2:=fun c o h z=>b c o (a c o h z) z
theorem Tk.upd {H:Hp}{c:Addr}{u o:HO} (h:H c=some u) (n:zlo u=false):Tk H (L2.upd H c o):=fun b w e z=>by
 have:b≠c:=fun q=>by subst q;rw[h] at e;cases e;rw[n] at z;cases z
 rw[zaf this]
 exact e
theorem Tk.sqT {K:PySem.W.Frag}{H H':Hp}{a:Addr}{xs:List V} (e:Tk H H') (h:SqT K H a xs):SqT K H' a xs:=by
 rcases h with(h|⟨o,h⟩)|h
 ·exact .inl (.inl (e _ _ h rfl))
 ·exact .inl (.inr ⟨o,e _ _ h rfl⟩)
 ·exact .inr h
mutual
def zkc:Dt→Bool
 | .lst _=>false
 | .tup ds=>zdS ds
 | _=>true
def zdS:List Dt→Bool
 | []=>true
 | d::ds=>zkc d && zdS ds
end
mutual
theorem Tk.dt {K:PySem.W.Frag}{H H':Hp} (e:Tk H H'):∀ {d:Dt}{x:V},zkc d=true→DtV K H d x→DtV K H' d x
 | .non,_,_,h=>h
 | .bl _,_,_,h=>h
 | .int _,_,_,h=>h
 | .str _,_,_,h=>h
 | .lst ds,_,z,h=>by cases z
 | .tup ds,_,z,h=>by
  obtain⟨a,xs,e1,h1,h2⟩:=h
  exact⟨a,xs,e1,e.sqT h1,e.dts z h2⟩
theorem Tk.dts {K:PySem.W.Frag}{H H':Hp} (e:Tk H H'):∀ {ds:List Dt}{xs:List V},zdS ds=true→zbu K H ds xs→zbu K H' ds xs
 | [],_,_,h=>h
 | d::ds,_,z,h=>by
  obtain⟨y,ys,e1,h1,h2⟩:=h
  have z':=(Bool.and_eq_true _ _).mp z
  exact⟨y,ys,e1,e.dt z'.1 h1,e.dts z'.2 h2⟩
end
theorem zal {α:Type}{f:α→Dt} (h:∀ x,zkc (f x)=true):∀ l:List α,zdS (l.map f)=true
 | []=>rfl
 | x::l=>by
  show(zkc (f x) && zdS (l.map f))=true
  rw[h x,zal h l]
  rfl
theorem zbH {α:Type}{f:α→Dt}{n:Nat} (h:∀ x,zcB n (f x)) (l:List α):zbi n (l.map f):=zbi.of fun d hd=>by
 obtain⟨x,_,rfl⟩:=List.mem_map.mp hd
 exact h x
theorem zbS {K:PySem.W.Frag}{H:Hp}{α:Type}{f:α→Dt}{l:List α}{xs:List V}{i:Nat}{x:V} (h:zbu K H (l.map f) xs) (e:xs[i]?=some x):∃ q,l[i]?=some q∧DtV K H (f q) x:=by
 have hi:i<l.length:=by
  have h1:=h.length
  rw[List.length_map] at h1
  have:=(List.getElem?_eq_some_iff.mp e).1
  omega
 obtain⟨q,hq⟩:=zb9 hi
 obtain⟨y,hy,hd⟩:=h.get (j:=i) (d:=f q) (by rw[List.getElem?_map,hq];rfl)
 rw[e] at hy
 cases hy
 exact⟨q,hq,hd⟩
theorem zaw {α:Type}{l:List α}{i:Nat}{q:α} (h:l[i]?=some q):l.take (i + 1)=l.take i++[q]:=by
 rw[List.take_add_one,h]
 rfl
def Tps (H:Hp) (xs:List V):Prop:=∀ x∈xs,∃ q zs,x=V.ref q∧H q=some (.tup zs)
theorem Tps.tk {H H':Hp}{xs:List V} (h:Tps H xs) (e:Tk H H'):Tps H' xs:=fun x hx=>by
 obtain⟨q,zs,rfl,hq⟩:=h x hx
 exact⟨q,zs,rfl,e _ _ hq rfl⟩
theorem Tps.snoc {H:Hp}{xs:List V}{z:Addr}{zs:List V} (h:Tps H xs) (hz:H z=some (.tup zs)):Tps H (xs++[.ref z]):=fun x hx=>by
 rcases List.mem_append.mp hx with q|q
 ·exact h x q
 ·exact⟨z,zs,List.mem_singleton.mp q,hz⟩
theorem Tps.nil {H:Hp}:Tps H []:=fun x hx=>by simp at hx
theorem at_int {ns:List Int}{k:Int} (h0:0≤k) (h1:k<ns.length):∃ c,atI (ns.map V.int) k=some (.int c):=by
 refine⟨ns.getD k.toNat 0,?_⟩
 unfold atI ixN
 rw[if_pos h0,if_pos (by rw[List.length_map];exact h1)]
 show(ns.map V.int)[k.toNat]?=_
 rw[List.getElem?_map,List.getD_eq_getElem?_getD,List.getElem?_eq_getElem (show k.toNat<ns.length by omega)]
 rfl
theorem join {C I:Hp→Prop}{G:Prop} (h:∀ H,I H→C H) (g:(∀ H,I H→C H)→G):G:=g h
theorem zi8 {α:Type}{f:St→Hp→Prop} (σ:α→St) (I:α→Hp→Prop){G:Prop} (h:∀ x H,I x H→f (σ x) H) (g:(∀ x H,I x H→f (σ x) H)→G):G:=g h
theorem zhx {α:Type}{xs:List α}{k:Int} (h0:0≤k):atI xs k=xs[k.toNat]?:=by
 unfold atI ixN
 rw[if_pos h0]
 by_cases h:k<xs.length
 ·rw[if_pos h];rfl
 ·rw[if_neg h]
  show none=_
  rw[List.getElem?_eq_none (by omega)]
theorem zfu {K:PySem.W.Frag}{H:Hp}:∀ ns:List Int,zbu K H (ns.map Dt.int) (ns.map V.int)
 | []=>rfl
 | _::r=>⟨_,_,rfl,rfl,zfu r⟩
end L2
namespace L2
open PySem PySem.Spec PyProof.Rows
def Ite (K:PySem.W.Frag) (l:Addr):It:=
  ⟨fun i H=>∃ xs x,SqL K H l xs∧xs[i]?=some x,
   fun i H v H'=>∃ T x,v=.ref T∧H T=none∧H'=upd H T (.tup [.int i,x])∧∀ xs,SqL K H l xs→xs[i]?=some x,
   fun i H=>∃ xs,SqL K H l xs∧xs.length≤i⟩
section
variable {prog:Program}{w:World}{A:Around}{E:Value→Shared→Prop}{s:Shared}
theorem zi9 {e it l:Addr}{i:Nat}{items:Array Value}{old:Value}{Q:Option Value→Shared→Prop} (hd:Hd A s.heap)
  (he:IsEnum s.heap e it i old) (hit:s.heap.IsListIter it l i) (hl:s.heap.IsList l items) (hx:items[i]?=none)
  (hQ:∀ h',Heap.ExtBut it s.heap h'→Q none { s with heap:=h' }):wpAny (model prog w) A (pyNext (.ref e)) Q E s:=by
 have ht:s.TypeIs (.ref e) "enumerate":=⟨_,he,rfl⟩
 unfold pyNext
 refine wpAny_bind (wpAny_attempt (wpAny_callSpecial?_slot (name:=Str.ofString "__next__") ht F.slot_enumerate_next (wpAny_call_entry F.slot_enumerate_next ht F.entry_enumerate_next ?_ (F.args_enumerate_next_1 _))))
 refine(show wpAny _ _ (field (.ref e) 2 >>= _) _ _ _ from wpAny_bind (wpAny_field he rfl (x:=.ref it) rfl ?_))
 refine wpAny_bind (zi0 (A:=A.in1) hd hit hl hx fun h' x he' hx'=>?_)
 obtain⟨o,ho,hc⟩:=hx'
 exact wpAny_bind (wpAny_isInstance (T:="StopIteration") (b:=true) ⟨o,ho,hc⟩ isSubtype_stop (wpAny_pure (hQ _ he')))
end
def EnumIt (h:Heap) (e it l:Addr) (i:Nat):Prop:=∃ old,IsEnum h e it (i:Int) old∧h.IsListIter it l i
theorem zja {P:Program}{w:World}{K:PySem.W.Frag}{es:List Expr}{k:Nat}{pos:Pos}{e it l:Addr} (hne:e≠it) :
  zk0 P w K (.Tuple es k pos) (Ite K l) [e,it] e (fun i h=>EnumIt h e it l i) where
 mem:=by simp
 obj:=fun i h st b hb=>by
  obtain⟨old,he,⟨o1,e1,c1,d1⟩⟩:=st
  simp only[List.mem_cons,List.not_mem_nil,or_false] at hb
  rcases hb with rfl|rfl
  ·exact⟨_,he,fun v q=>by simp at q⟩
  ·exact⟨_,e1,fun v q=>by rw[d1] at q;cases q⟩
 keep:=fun i h h' st k=>by
  obtain⟨old,he,h1⟩:=st
  exact⟨old,k e (by simp) _ he,h1.at fun o q=>k it (by simp) o q⟩
 item:=by
  intro X hP hw hK hc i pins s σ H E I hf st hg
  subst hP hw hK
  obtain⟨xs,x,q1,hx⟩:=hg
  obtain⟨old,he,h1⟩:=st
  obtain⟨its,rv,pl,_⟩:=I.list q1
  obtain⟨u,hu,ru⟩:=rv.get hx
  have nf:∀ b∈[e,it],b∉frs X.stack:=fun b hb q=>(List.mem_cons.mp (I.stkSub b q)).elim (hf b hb).2.1 (hf b hb).2.2.1
  refine wpAny_pyNext_enum_item he h1 pl.isList (x:=u) (by simpa using hu) hne fun h' a1 a2 a3 a4 hk=>⟨_,rfl,?_⟩
  refine wpAny_letOwnedTupleGo_enum (s:={ s with heap:=h',toks:=s.toks + 1 }) a1 fun h'' hz' hs'=>?_
  replace hs':Heap.SameBut e h' h'':=hs'
  have hTn:H s.heap.objs.size=none:=I.hok.fresh (Nat.le_refl _)
  have lte:=Heap.lt_size he
  have old':∀ b o,b≠e→b≠it→s.heap.get? b=some o→h''.get? b=some o:=fun b o n1 n2 q=>hs'.extBut b o n1 (hk b o n1 n2 q)
  have I1:Inv X pins σ (upd H s.heap.objs.size (.tup [.int i,x])) { s with heap:=s.heap.push { cls:=.type "tuple",data:=.seq #[.int i s.toks,u] },toks:=s.toks + 1 }:=
   I.laid (t':=s.toks + 1) (fun b o q=>Heap.get?_push_of_some _ q) (Nat.le_refl _) ⟨by show 2≤sizeLine;decide,[.int i s.toks,u],.cons ⟨_,rfl⟩ (.cons ru .nil),⟨_,Heap.get?_push_size _ rfl,rfl,_,rfl⟩⟩
  have fp1:∀ b∈[e,it],zef X pins (upd H s.heap.objs.size (.tup [.int i,x])) b:=fun b hb=>by
   obtain⟨f0,r⟩:=hf b hb
   refine⟨?_,r⟩
   have lt:b<s.heap.objs.size:=by
    simp only[List.mem_cons,List.not_mem_nil,or_false] at hb
    rcases hb with rfl|rfl
    ·exact lte
    ·obtain⟨o,q,_⟩:=h1;exact Heap.lt_size q
   rw[zaf (Nat.ne_of_lt lt)];exact f0
  have I2:Inv X pins σ (upd H s.heap.objs.size (.tup [.int i,x])) { s with heap:=h'',toks:=s.toks + 1 }:=by
   have back:∀ b o,(s.heap.push { cls:=.type "tuple",data:=.seq #[.int i s.toks,u] }).get? b=some o→b≠e→b≠it→h''.get? b=some o:=fun b o q n1 n2=>by
    rcases Heap.get?_push_cases q with⟨rfl,rfl⟩|q
    ·exact hs'.extBut _ _ n1 a3
    ·exact old' b o n1 n2 q
   refine I1.slots (ch:=[e,it]) (tk:=s.toks + 1) fp1 (fun b o _ hc q=>?_) (fun b o hb q=>⟨o.slots,?_⟩) (fun b hb o q=>?_)
   ·simp only[List.mem_cons,List.not_mem_nil,or_false,not_or] at hc
    exact back b o q hc.1 hc.2
   ·exact back b o q (fun z=>nf e (by simp) (z ▸ hb)) (fun z=>nf it (by simp) (z ▸ hb))
   ·simp only[List.mem_cons,List.not_mem_nil,or_false] at hb
    rcases hb with rfl|rfl
    ·exact⟨_,hz'⟩
    ·obtain⟨o,q,_⟩:=a2;exact⟨_,hs'.extBut _ _ hne.symm q⟩
  refine⟨.ref s.heap.objs.size,_,I2,rfl,⟨_,x,rfl,hTn,rfl,fun xs' q=>by rw[I.list_inj q q1];exact hx⟩,?_,fun b hb=>(fp1 b hb).1⟩
  exact⟨u,hz',a2.extBut hs'.extBut hne.symm⟩
 done:=by
  intro X hP hw hK hc i pins s σ H E I hf st hg
  subst hP hw hK
  obtain⟨xs,q1,hlen⟩:=hg
  obtain⟨old,he,h1⟩:=st
  obtain⟨its,rv,pl,_⟩:=I.list q1
  have e1:=rv.length
  have nf:∀ b∈[e,it],b∉frs X.stack:=fun b hb q=>(List.mem_cons.mp (I.stkSub b q)).elim (hf b hb).2.1 (hf b hb).2.2.1
  refine zi9 I.hd he h1 pl.isList (by simp;omega) fun h' hk=>⟨rfl,?_⟩
  refine I.slot0 (ch:=[e,it]) (tk:=s.toks) hf (fun b o _ hc q=>?_) (fun b o hb q=>⟨o.slots,?_⟩)
  ·simp only[List.mem_cons,List.not_mem_nil,or_false,not_or] at hc
   exact hk b o hc.2 q
  ·exact hk b o (fun z=>nf it (by simp) (z ▸ hb)) q
 self:=fun _ _ s _ _ st h=>by
  obtain⟨old,he,_⟩:=st
  exact wpAny_pyIter_enum he h
def iEnum (K:PySem.W.Frag) (ta:TA):TI:=fun σ H R=>ta σ H fun vs H1=>∃ l,vs=[.ref l]∧(∃ xs,SqL K H1 l xs)∧R (Ite K l) H1
section
variable {X:Cx}
theorem zbY {es:List Expr}{k:Nat}{tpos p pos:Pos}{a:Expr}{ta:TA} (hg:Gl X "enumerate") (hm:X.mg "enumerate"=none) (ha:PA X [a] ta) (hs:starEach [a] X.env=[(false,eval a X.env)]:=by rfl) :
  PI X (.Tuple es k tpos) (.Call (.Name "enumerate" p) [a] [] pos) (iEnum X.K ta):=by
 intro pins s σ H R I h
 refine Call_ (zfX I hg hm boot_enumerate (PyProof.Rows.callWith_type1 (thn (ha pos pins s σ H _ I h) fun us s1=>L2.ex5 fun vs H1 I1 r1 hq_=>?_) hs rfl))
 obtain⟨l,e,⟨xs,q1⟩,q⟩:=hq_
 subst e
 obtain⟨u,rfl,ru⟩:=zda r1
 obtain rfl:u=Value.ref l:=ru
 obtain⟨its,rv,pl,_⟩:=I1.list q1
 refine call_enumerate_list pl.isList fun h' b1 b2 b3 hk=>?_
 refine wpAny_pyIter_enum (s:={ s1 with heap:=h' }) b1 ?_
 refine⟨s1.heap.objs.size + 1,[s1.heap.objs.size + 1,s1.heap.objs.size],_,_,H1,rfl,I1.kept (t':=s1.toks) hk,zja (Nat.ne_of_gt (Nat.lt_succ_self _)),⟨_,b1,b2⟩,fun b hb=>?_,q⟩
 have ge:s1.heap.objs.size≤b:=by
  simp only[List.mem_cons,List.not_mem_nil,or_false] at hb
  rcases hb with rfl|rfl
  ·exact Nat.le_add_right _ _
  ·exact Nat.le_refl _
 exact I1.fpOk ge (I1.hok.fresh ge)
theorem zjb {K:PySem.W.Frag}{l D:Addr}{xs:List V}{g:TG}{tt:TT}{te:TE}{τ:St}{H:Hp}{Q:VK} (Pv:Nat→St→Hp→Prop) (h0:Pv 0 τ H) (hl:∀ i τ H,i≤xs.length→Pv i τ H→SqL K H l xs)
  (hs:∀ i x T τ H,xs[i]?=some x→H T=none→Pv i τ H→g (.ref T) τ (upd H T (.tup [.int i,x])) fun τ2 H2=>tt τ2 H2 fun b H3=>
   if b=true then te τ2 H3 fun y H4=>∃ ys,H4 D=some (.lst ys)∧ys.length<sizeLine∧Pv (i + 1) τ2 (upd H4 D (.lst (ys++[y]))) else Pv (i + 1) τ2 H3)
  (hd:∀ τ H,Pv xs.length τ H→Q (.ref D) H):zgX (Ite K l) D τ H g tt te Q:=
 wk_ (n:=xs.length) Pv h0 (fun i σ H hi p=>⟨fun h=>⟨xs,xs[i],hl i σ H hi p,by simp[h]⟩,fun h=>⟨xs,hl i σ H hi p,h⟩⟩) (fun i v σ H H' hi p y=>by
 obtain⟨T,x,rfl,hT,rfl,hx⟩:=y
 exact hs i x T σ H (hx xs (hl i σ H (Nat.le_of_lt hi) p)) hT p) hd
theorem zfv {K:PySem.W.Frag}{l:Addr}{xs:List V}{g:TG}{tb:TS}{D:zgL}{σ:St}{H:Hp} (Pv:Nat→St→Hp→Prop) (h0:Pv 0 σ H) (hl:∀ i σ H,i≤xs.length→Pv i σ H→SqL K H l xs)
  (hs:∀ i x T σ H,xs[i]?=some x→H T=none→Pv i σ H→g (.ref T) σ (upd H T (.tup [.int i,x])) fun σ2 H2=>tb { D with nx:=Pv (i + 1),ct:=Pv (i + 1),bk:=D.nx } σ2 H2) (hd:∀ σ H,Pv xs.length σ H→D.nx σ H):ForW (Ite K l) D g tb σ H:=
 wk_ (n:=xs.length) Pv h0 (fun i σ H hi p=>⟨fun h=>⟨xs,xs[i],hl i σ H hi p,by simp[h]⟩,fun h=>⟨xs,hl i σ H hi p,h⟩⟩) (fun i v σ H H' hi p y=>by
 obtain⟨T,x,rfl,hT,rfl,hx⟩:=y
 exact hs i x T σ H (hx xs (hl i σ H (Nat.le_of_lt hi) p)) hT p) hd
end
end L2
namespace L2
open PySem PySem.Spec PyProof.Rows
section
variable {prog:Program}{w:World}{A:Around}{R:Result→Shared→Prop}{I:Addr}{fp wr:List Addr}{n:Nat}{P:Nat→Value→Prop}{St:Nat→Heap→Prop}
end
section
variable {X:Cx}
end
section
variable {prog:Program}{w:World}{A:Around}{R:Result→Shared→Prop}{I:Addr}{fp wr:List Addr}{n:Nat}{P:Nat→Value→Prop}{St:Nat→Heap→Prop}
end
section
variable {X:Cx}
end
section
variable {X:Cx}
end
end L2
namespace L2
open PySem PySem.Spec PyProof.Rows
section
variable {X:Cx}{pins:List (Addr×Obj)}{σ:St}{H:Hp}{s:Shared}
open Classical in
end
end L2
namespace L2
open PySem PySem.Spec PyProof.Rows
section
variable {prog:Program}{w:World}{A:Around}{E:Value→Shared→Prop}{s:Shared}{cs:List Addr}
end
section
variable {X:Cx}
end
end L2
namespace L2
open PySem PySem.Spec PyProof.Rows
section
variable {prog:Program}{w:World}{A:Around}{E:Value→Shared→Prop}{s:Shared}{cs:List Addr}
end
section
variable {X:Cx}
end
end L2
namespace L2
open PySem PySem.Spec PyProof.Rows
section
variable {X:Cx}
end
end L2
namespace L2
open PySem PySem.Spec PyProof.Rows
section
variable {X:Cx}
end
theorem zjc {H:Hp}{a:Addr}{kvs:List (Key×V)}{k:Key}{v:V} (e:H a=some (.dK kvs)) (h:zco kvs k=some v):zgF H a (kV k) (some v):=h ▸ zgF.k e
theorem zaF {H H':Hp}{d:Addr}{o:HO} (nd:H d=none) (s:zan H H'):zan H (upd H' d o):=fun b u e=>by
 rw[zaf (zae e nd)]
 exact s b u e
end L2
namespace L2
open PySem PySem.Spec PyProof.Rows
section
variable {X:Cx}
end
end L2
namespace L2
open PySem PySem.Spec PyProof.Rows
section
variable {X:Cx}
end
end L2
namespace L2
open PySem PySem.Spec PyProof.Rows
section
variable {X:Cx}
end
end L2
namespace L2
open PySem PySem.Spec PyProof.Rows
end L2
namespace L2
open PySem PySem.Spec PyProof.Rows
section
variable {X:Cx}{K:PySem.W.Frag} (hK:X.K=K)
include hK
end
end L2
namespace L2
open PySem PySem.Spec PyProof.Rows
section
variable {prog:Program}{w:World}{A:Around}{E:Value→Shared→Prop}{s:Shared}{cs:List Addr}
end
end L2
namespace L2
open PySem PySem.Spec PyProof.Rows
section
variable {prog:Program}{w:World}{A:Around}{R:Result→Shared→Prop}{κ:Type} [DecidableEq κ] {knd:KeyKind prog w κ}{I d:Addr}{fp wr:List Addr}{G:Array GenState→Array GenState→Prop}{n:Nat}{P:Nat→Value→Prop}{St:Nat→Shared→Prop}
end
section
variable {prog:Program}{w:World}{A:Around}{E:Value→Shared→Prop}{s:Shared}{cs:List Addr}{κ:Type} [DecidableEq κ] {knd:KeyKind prog w κ}
end
end L2
namespace L2
open PySem PySem.Spec PyProof.Rows
section
variable {X:Cx}{pins:List (Addr×Obj)}{σ:St}{H:Hp}{s:Shared}
end
section
variable {X:Cx}
end
end L2
namespace L2
open PySem PySem.Spec PyProof.Rows
end L2
namespace L2
open PySem PySem.Spec PyProof.Rows PySem.SeqAt
open AutoSeq1 (wpAny_loadPart')
section
variable {prog:Program}{w:World}{A:Around}{s:Shared}
end
section
variable {X:Cx}{pins:List (Addr×Obj)}{σ:St}{H:Hp}{s:Shared}{A:Around}
def FlatK (K:PySem.W.Frag) (H:Hp) (kvs:List (Key×V)):Prop:=∀ p∈kvs,∃ d,DtV K H d p.2∧zcB 20 d
theorem zhy {kvs:List (Key×V)}:(kvs.map (·.1)).Nodup→∀ p∈kvs,zco kvs p.1=some p.2:=by
 induction kvs with
 | nil=>intro _ p hp;cases hp
 | cons q r ih=>
  intro nd p hp
  rw[List.map_cons,List.nodup_cons] at nd
  rcases List.mem_cons.mp hp with rfl|hp
  ·exact zbp rfl
  ·rw[za0 (fun e=>nd.1 (by rw[e];exact List.mem_map_of_mem hp))]
   exact ih nd.2 p hp
theorem Inv.dicHits (I:Inv X pins σ H s){kvs:List (Key×V)}{kb:List (Key×Value)} (rb:KV kvs kb) (nd:(kvs.map (·.1)).Nodup) (f:FlatK X.K H kvs) (hu:A.units + 20<cLine) :
  ∀ {l:List (Key×V)}{ka:List (Key×Value)},KV l ka→(∀ p∈l,p∈kvs)→PySem.W.KeqHits A s kb ka true:=by
 intro l ka r
 induction r with
 | nil=>exact fun _=>.nil
 | @cons p p' l ka r0 r ih=>
  intro m
  obtain⟨k,y⟩:=p
  obtain⟨k',v⟩:=p'
  have e:k=k':=r0.1
  have ry:za8 y v:=r0.2
  subst e
  have hv:=zhy nd (k,y) (m _ List.mem_cons_self)
  have rel:=rb.val k
  dsimp only at hv
  rw[hv] at rel
  cases e:valueAt kb k with
  | none=>rw[e] at rel;exact rel.elim
  | some v'=>
   rw[e] at rel
   obtain⟨d,hd,dd⟩:=f _ (m _ List.mem_cons_self)
   have q:=I.eqAt (A:=A) hd hd ry rel dd hu
   rw[zbz] at q
   exact .hit e q (ih fun p hp=>m p (List.mem_cons_of_mem _ hp))
end
end L2
namespace L2
open PySem PySem.Spec PyProof.Rows
section
variable {X:Cx}
end
end L2
namespace L2
open PySem PySem.Spec PyProof.Rows
section
variable {X:Cx}{pins:List (Addr×Obj)}{σ:St}{H:Hp}{s:Shared}{scope:Scope}{N:List Str}{cap:List (Option Nat)}{fp:List Addr}
end
section
variable {X:Cx}{elt tg iter:Expr}{ifs:List Expr}{scope:Scope}{pos:Pos}{N:List Str}{cap:List (Option Nat)}{wi:TI}{g:TG}{tt:TT}{te:TE}
end
end L2
namespace L2
open PySem PySem.Spec PyProof.Rows
theorem zcS {α β:Type}{f:α→Option β}{g:α→β}:∀ {l:List α},(∀ k∈l,f k=some (g k))→l.filterMap f=l.map g
 | [],_=>rfl
 | x::l,h=>by
  rw[List.filterMap_cons,h x List.mem_cons_self,List.map_cons,zcS fun k hk=>h k (List.mem_cons_of_mem _ hk)]
section
variable {X:Cx}{e st:Expr}{te ts:TE}{pos p2:Pos}
end
end L2
namespace L2
open PySem PySem.Spec PyProof.Rows
end L2
namespace L2
open PySem PySem.Spec PyProof.Rows
open Sem (wp)
section
variable {M:Model}{A:Around}{E:Value→Shared→Prop}{s:Shared}{env:Env}
end
section
variable {prog:Program}{w:World}{A:Around}{E:Value→Shared→Prop}{s:Shared}
end
section
variable {prog:Program}{w:World}{A:Around}{E:Value→Shared→Prop}{s:Shared}
end
section
variable {prog:Program}{w:World}{A:Around}{E:Value→Shared→Prop}{s:Shared}
end
section
variable {prog:Program}{w:World}{A:Around}{E:Value→Shared→Prop}{s:Shared}
end
section
variable {X:Cx}
end
section
end
end L2
namespace L2
open PySem PySem.Spec PyProof.Rows
def alike (c:Int) (l:List Keyed):List Keyed:=l.filter fun p=>numOf p.1 == c
structure Dn (O:List Keyed) (x neq:Nat) (l U B C O1:List Keyed) (b:Int):Prop where
 arr:l=U++B++C
 org:O=O1++B++C
 len:U.length + B.length=x
 lb:B.length=neq + 1
 fil:∀ c,alike c U=(alike c O1).reverse
 eqb:∀ p∈B,numOf p.1=b
 gt:∀ p∈U,b<numOf p.1
 dec:U.Pairwise fun p q=>numOf q.1≤numOf p.1
section
variable {O U B C O1:List Keyed}{x neq:Nat}{b:Int}{xs:Array Keyed}{p:Keyed}
end
section
variable {prog:Program}{w:World}{Ar:Around}{E:Value→Shared→Prop}{s:Shared}{a₀:Array Keyed}{O:List Keyed}
end
end L2
namespace L2
open PySem PySem.Spec PyProof.Rows
section
variable {X:Cx}{pins:List (Addr×Obj)}{σ:St}{H:Hp}{s:Shared}{scope:Scope}{params:Arguments}{body:Expr}{pos:Pos}{c P:Addr}{N:List Str}{cap:List (Option Nat)}
end
end L2
namespace L2
open PySem PySem.Spec PyProof.Rows
section
variable {X:Cx}{pins:List (Addr×Obj)}{σ:St}{H H1:Hp}{s:Shared}
variable {A:Around}{E:Value→Shared→Prop}{P:PySem.Fin→Shared→Prop}{f D kS:Addr}{fo:Obj}{key:V→Int}{xs:List V}{vs:List Value}{e1:Nat}
end
end L2
namespace L2
open PySem PySem.Spec PyProof.Rows
def fdCode (K:PySem.W.Frag) (f:Addr):Option Value:=match K.lookup f with
 | some ⟨_,_,.func fd,_⟩=>some fd.code
 | _=>none
structure LamIn (K:PySem.W.Frag) (f P:Addr):Prop where
 ex:∃ c,fdCode K f=some (.ref c)∧PySem.W.codeHdIn K c P=true
 no:K.lookup P=none
structure LamDef (K:PySem.W.Frag) (mg:Str→Option Value) (x:Str) (P:Addr):Prop where
 ex:∃ f,mg x=some (.ref f)∧LamIn K f P
section
variable {P:Program}{w:World}{K:PySem.W.Frag}{mg:Str→Option Value}{base:Heap}
end
abbrev Tab:=Addr×Pos×Str
def zjd (ts:List Tab) (H:Hp):Prop:=(∀ t∈ts,H t.1=some (.tbl t.2.1 t.2.2))∧∀ b u,H b=some u→(∃ o xs,u=.frz o (.lst xs))∨∃ t∈ts,b=t.1∧u=.tbl t.2.1 t.2.2
def zlp:List Tab→Hp→Hp
 | [],H=>H
 | t::ts,H=>upd (zlp ts H) t.1 (.tbl t.2.1 t.2.2)
theorem zg0:∀ {ts:List Tab}{H:Hp},(ts.map (·.1)).Nodup→∀ t∈ts,zlp ts H t.1=some (.tbl t.2.1 t.2.2)
 | [],_,_,t,h=>by simp at h
 | q::ts,H,nd,t,h=>by
  rcases List.mem_cons.mp h with z|z
  ·rw[z];exact zab
  ·have n:t.1≠q.1:=fun y=>(List.nodup_cons.mp (show(q.1::ts.map (·.1)).Nodup from nd)).1 (List.mem_map.mpr ⟨t,z,y⟩)
   show upd _ _ _ _=_
   rw[zaf n]
   exact zg0 (List.nodup_cons.mp nd).2 t z
theorem zfw:∀ {ts:List Tab}{H:Hp}{b:Addr}{u:HO},zlp ts H b=some u→H b=some u∨∃ t∈ts,b=t.1∧u=.tbl t.2.1 t.2.2
 | [],_,_,_,h=>.inl h
 | q::ts,H,b,u,h=>by
  have h:upd (zlp ts H) q.1 (.tbl q.2.1 q.2.2) b=some u:=h
  by_cases z:b=q.1
  ·rw[z,zab] at h
   exact .inr ⟨q,List.mem_cons_self,z,(Option.some.inj h).symm⟩
  ·rw[zaf z] at h
   rcases zfw h with y|⟨t,h1,h2⟩
   ·exact .inl y
   ·exact .inr ⟨t,List.mem_cons_of_mem _ h1,h2⟩
theorem zje:∀ {ts:List Tab}{H:Hp}{b:Addr},(∀ t∈ts,b≠t.1)→zlp ts H b=H b
 | [],_,_,_=>rfl
 | q::ts,H,b,h=>by
  show upd _ _ _ _=_
  rw[zaf (h q List.mem_cons_self)]
  exact zje fun t ht=>h t (List.mem_cons_of_mem _ ht)
theorem zjf {P:Program}{w:World}{K:PySem.W.Frag}{mg mb:Str→Option Value}{CX:CXT}{k:Nat}{fa a:Addr}{fd:FuncData}{x:Str}{sp:Sp}{s₁:Shared}{vs:List Value}{ns:List Int}{ts:List Tab}
  (KX:K.In s₁.heap) (hns:s₁.heap.Ns mainGlobals mg) (hb:s₁.heap.Ns builtinsNs mb) (hbb:∀ x:Str,x≠"__name__"→mb x=bootBuiltins x) (hlim:s₁.heap.NoLimit)
  (hbm:∃ bm ob,mg "__builtins__"=some (.ref bm)∧bm≠builtinsNs∧s₁.heap.get? bm=some ob∧ob.cls=.type "module"∧ob.dict=some builtinsNs∧ob.data=.plain) (hg:s₁.gens=#[])
  (ha:s₁.heap.get? a=some { cls:=.type "list",data:=.seq vs.toArray }) (hi:IntsAre vs ns) (hl:ns.length≤sizeLine) (hr:zcJ k callerA)
  (nd:(ts.map (·.1)).Nodup) (hts:∀ t∈ts,s₁.heap.get? t.1=some (PySem.W.tabObj #[])∧(∃ c,PySem.W.codeHdIn K c t.1=true)∧K.lookup t.1=none)
  (F:∀ base:Heap,K.In base→base.Ns mainGlobals mg→zdN P w K mg base CX k fa fd [x] sp) (hbind:∀ (s:Shared) (u:Value),BindsTo s fd ⟨[u],[]⟩ [(x,u)])
  (hsp:∀ H:Hp,zjd ts H→SqL K H a (ns.map V.int)→sp [.ref a] H (fun v _=>v=.bl true) fun _ _ _=>False)
  (hCX:∀ H e s',CX [] H s₁ (fun _ _ _=>False) e s'→False) :
  codeAny (model P w) callerA (.call (.ref fa) ⟨[.ref a],[]⟩) (fun r s'=>r=.ok (.ret (.bool true))∧OldK s₁.heap s'.heap∧s'.os=s₁.os∧AllBare s'.gens) s₁:=by
 have rv:=zgd hi
 have lenV:=hi.length
 have core:∀ H:Hp,(∀ t∈ts,H t.1=some (.tbl t.2.1 t.2.2))→(∀ b u,H b=some u→(b=a∧K.lookup a=none∧u=.frz { cls:=.type "list",data:=.seq vs.toArray } (.lst (ns.map V.int)))∨∃ t∈ts,b=t.1∧u=.tbl t.2.1 t.2.2)→SqL K H a (ns.map V.int) →
   codeAny (model P w) callerA (.call (.ref fa) ⟨[.ref a],[]⟩) (fun r s'=>r=.ok (.ret (.bool true))∧OldK s₁.heap s'.heap∧s'.os=s₁.os∧AllBare s'.gens) s₁:=by
  intro H h1 h2 hS
  have hO:zjd ts H:=⟨h1,fun b u q=>(h2 b u q).elim (fun z=>.inl ⟨_,_,z.2.2⟩) .inr⟩
  have hok:HOk P w H s₁.heap:=fun b u q=>by
   rcases h2 b u q with⟨rfl,_,rfl⟩|⟨t,ht,rfl,rfl⟩
   ·exact⟨ha,by rw[List.length_map];exact hl,vs,_,rv,ha⟩
   ·exact .inl (hts t ht).1
  have free:∀ {b:Addr}{o:Obj},s₁.heap.get? b=some o→(∀ xs n,o.data≠.seq xs n)→(∀ xs,o.data≠.fields xs)→H b=none:=fun {b o} e n1 n2=>by
   cases q:H b with
   | none=>rfl
   | some u=>
    rcases h2 b u q with⟨rfl,_,_⟩|⟨t,ht,rfl,_⟩
    ·rw[ha] at e;cases e
     exact(n1 _ _ rfl).elim
    ·rw[(hts t ht).1] at e;cases e
     exact(n2 _ rfl).elim
  have nsK:∀ {b:Addr}{m:Str→Option Value},s₁.heap.Ns b m→(zkB s₁.heap H).Ns b m:=fun {b m} ⟨o,es,ep,e,d,r⟩=>⟨o,es,ep,zfi e (free e (by rw[d];intro _ _ z;cases z) (by rw[d];intro _ z;cases z)),d,r⟩
  have hKb:K.In (zkB s₁.heap H):=fun b o e=>zfi (KX b o e) (by
   cases q:H b with
   | none=>rfl
   | some u=>
    rcases h2 b u q with⟨rfl,z,_⟩|⟨t,ht,rfl,_⟩
    ·rw[z] at e;cases e
    ·rw[(hts t ht).2.2] at e;cases e)
  have hM:Mod K mg (zkB s₁.heap H):=⟨hKb,nsK hns,⟨mb,nsK hb,hbb⟩,let ⟨mc,y1,y2⟩:=hlim;⟨mc,nsK y1,y2⟩,by
   obtain⟨bm,ob,a1,a2,a3,a4,a5,a6⟩:=hbm
   exact⟨bm,ob,a1,a2,zfi a3 (free a3 (by rw[a6];intro _ _ z;cases z) (by rw[a6];intro _ z;cases z)),a4,a5,a6⟩⟩
  have e0:zk5 P w K mg (zkB s₁.heap H) callerA [] s₁ H:=⟨rfl,hM,fun b o e=>zkX e,Nat.le_of_eq (zii _ _),trivial,fun b hb=>absurd (show b∈([]:List Addr) from hb) (by simp),hok,.of_eq hg,.inl rfl⟩
  refine codeAny_mono ((F _ hKb (nsK hns)).run callerA [] s₁ H ⟨[.ref a],[]⟩ [.ref a] [.ref a] _ _ hr e0 (hbind s₁ (.ref a)) (.cons rfl .nil) (hsp H hO hS)) fun r s' h=>?_
  cases r with
  | error e=>exact(hCX H e s' h).elim
  | ok fl=>
   cases fl with
   | next=>exact False.elim h
   | brk=>exact False.elim h
   | cont=>exact False.elim h
   | ret u=>
    obtain⟨v,H',os,bare,un,hok',r',q⟩:=h
    have q':v=.bl true:=q
    subst q'
    obtain rfl:u=Value.bool true:=r'
    have no:∀ b:Addr,b∉frs []:=fun b z=>absurd (show b∈([]:List Addr) from z) (by simp)
    refine⟨rfl,⟨fun b o e=>?_,fun b o e=>un.there b o e (by simp)⟩,os,bare⟩
    cases q:H b with
    | none=>exact .inl (un.keep b o e q (no b) (by simp))
    | some u=>
     rcases h2 b u q with⟨rfl,_,rfl⟩|⟨t,ht,rfl,rfl⟩
     ·obtain⟨y1,_⟩:=hok _ _ q
      obtain⟨y2,_⟩:=hok' _ _ (un.frzs _ _ _ q)
      rw[e] at y1;cases y1
      exact .inl y2
     ·obtain⟨g1,⟨c,g2⟩,_⟩:=hts t ht
      rw[e] at g1;cases g1
      rcases hok' _ _ (un.tbls _ _ _ q) with y|⟨c',oc,xs,tt,_,_,_,y⟩
      ·exact .inl y
      ·exact .inr (.inl ⟨((PySem.W.codeHd_of_K KX g2).tab e).isCodeTable,rfl,#[],#[rawInt t.2.1.line,rawInt t.2.1.col,.ref c'],rfl,y⟩)
 have apart:∀ t∈ts,a≠t.1:=fun t ht z=>by
  have y:=(hts t ht).1
  rw[← z,ha] at y;cases y
 cases hk:K.lookup a with
 | some o=>
  have e:=KX a o hk
  rw[ha] at e
  cases e
  refine core (zlp ts fun _=>none) (zg0 nd) (fun b u q=>.inr ((zfw q).elim (fun z=>by cases z) id)) (.inr ⟨_,vs.toArray,_,hk,rfl,rfl,rfl,by rw[List.size_toArray,lenV];exact hl,by simpa using rv⟩)
 | none=>
  refine core (zlp ts (upd (fun _=>none) a (.frz { cls:=.type "list",data:=.seq vs.toArray } (.lst (ns.map V.int))))) (zg0 nd) (fun b u q=>?_) (.inl (.inr ⟨_,by rw[zje apart];exact zab⟩))
  rcases zfw q with z|z
  ·by_cases y:b=a
   ·rw[y,zab] at z
    exact .inl ⟨y,hk,(Option.some.inj z).symm⟩
   ·rw[zaf y] at z;cases z
  ·exact .inr z
theorem zkd {l:PySem.W.OpenLaw}{n k:Nat}{q:Program}{loose:List Str}{XP:(Str→Option Value)→Heap→Prop}{YP:World→Heap→Prop}{d:DefRec}{K:Params→PySem.W.Frag}{x:Str}{TS:List Addr}
  (hn:l.most=some n) (hn2:n≤sizeLine) (hdf:d.params.defaults=[]) (hr:zcJ k callerA)
  (hY:∀ (w:World) (h:Heap),YP w h→(K w.params).In h∧∀ P∈TS,h.get? P=some (PySem.W.tabObj #[]))
  (F:∀ (w:World) (mg:Str→Option Value) (fa:Addr) (h:Heap),(K w.params).In h→h.Ns mainGlobals mg→mg d.name=some (.ref fa) →
   ∃ (fd:FuncData) (ts:List Tab) (sp:Sp),(∀ (s:Shared) (u:Value),BindsTo s fd ⟨[u],[]⟩ [(x,u)])∧(ts.map (·.1)).Nodup∧(∀ t∈ts,t.1∈TS∧(∃ c,PySem.W.codeHdIn (K w.params) c t.1=true)∧(K w.params).lookup t.1=none) ∧
    (∀ (H:Hp) (a:Addr) (ns:List Int),ns.length≤n→zjd ts H→SqL (K w.params) H a (ns.map V.int)→sp [.ref a] H (fun v _=>v=.bl true) fun _ _ _=>False) ∧
    ∀ base:Heap,(K w.params).In base→base.Ns mainGlobals mg→zdN l.prog w (K w.params) mg base CX0 k fa fd [x] sp) :
  PySem.W.WalkO q loose XP YP l.row.toRowW d [] (fun f vs=>PySem.call f vs):=by
 refine Att.zgU hn hdf fun w s₀ s₁ mg mb fa o pm cd doc a vs ns G Y ho hd hcd hmg hobj hints hlen hg=>?_
 obtain⟨KX,tb⟩:=hY w _ Y
 obtain⟨fd,ts,sp,hb,nd,ht,hsp,hF⟩:=F w mg fa _ KX G.T.g hmg
 exact zjf KX G.T.g G.T.b G.T.builtins G.T.nolimit G.T.bmain hg hobj hints (Nat.le_trans hlen hn2) hr nd (fun t m=>⟨tb _ (ht t m).1,(ht t m).2⟩) hF hb (fun H hO hS=>hsp H a ns hlen hO hS) fun H e s' z=>z
end L2
namespace L2
open PySem PySem.Spec PyProof.Rows
section
variable {X:Cx}{a b:Expr}{zbx:List Expr}{ta tb:TE}{pos:Pos}
end
end L2
namespace L2
open PySem PySem.Spec PyProof.Rows
section
variable {prog:Program}{w:World}{A:Around}{E:Value→Shared→Prop}{s:Shared}
end
end L2
namespace L2
open PySem PySem.Spec PyProof.Rows
section
variable {X:Cx}{pins:List (Addr×Obj)}{σ:St}{H H1:Hp}{s:Shared}{A:Around}{E:Value→Shared→Prop}
variable {f d it S:Addr}{fo o:Obj}{key:V→Int}{kvs:List (Key×V)}{es:Array DictEntry}{ep:Nat}
def zc3 (kvs:List (Key×V)):List V:=kvs.map fun p=>kV p.1
variable {R:Result→Shared→Prop}
end
end L2
namespace L2
open PySem PySem.Spec PyProof.Rows
section
variable {prog:Program}{w:World}{A:Around}{E:Value→Shared→Prop}{s:Shared}{cs:List Addr}
end
def rng (n:Nat):List V:=(List.range n).map fun i=>V.int (i:Nat)
end L2
namespace L2
open PySem PySem.Spec PyProof.Rows
end L2
namespace L2
open PySem PySem.Spec PyProof.Rows
section
variable {X:Cx}
end
end L2
namespace L2
open PySem PySem.Spec PyProof.Rows
section
variable {X:Cx}
end
end L2
namespace L2
open PySem PySem.Spec PyProof.Rows
section
variable {prog:Program}{w:World}{A:Around}{E:Value→Shared→Prop}{s:Shared}{cs:List Addr}
structure DApart (z TI TO i1 i2 l1 l2 d:Addr):Prop where
 z:z≠d
 TI:TI≠d
 TO:TO≠d
 i1:i1≠d
 i2:i2≠d
 l1:l1≠d
 l2:l2≠d
end
section
variable {prog:Program}{w:World}{A:Around}{R:Result→Shared→Prop}{cs:List Addr}{κ:Type} [DecidableEq κ] {knd:KeyKind prog w κ}
end
section
variable {prog:Program}{w:World}{A:Around}{E:Value→Shared→Prop}{s:Shared}{cs:List Addr}
end
section
variable {prog:Program}{w:World}{A:Around}{E:Value→Shared→Prop}{s:Shared}{cs:List Addr}{κ:Type} [DecidableEq κ] {knd:KeyKind prog w κ}
end
section
variable {X:Cx}
end
end L2
namespace L2
open PySem PySem.Spec PyProof.Rows
section
variable {prog:Program}{w:World}{A:Around}{E:Value→Shared→Prop}{s:Shared}{cs:List Addr}
variable {κ:Type} [DecidableEq κ] {knd:KeyKind prog w κ}
end
section
variable {X:Cx}
end
section
variable {g:TG}{tt:TT}{te:TE}
end
end L2
namespace L2
open PySem PySem.Spec PyProof.Rows
theorem zas.of {N P:List Str}{sc:Scope} (h:sc.kind=.function∧sc.isCoroutine=false∧sc.isGenerator=false∧N.Nodup∧N.take P.length=P∧(∀ x∈P,sc.names.lookup x=some .local∨sc.names.lookup x=some .cell)∧∀ y∈sc.names,y.2≠.free):zas N P sc:=⟨h.1,h.2.1,h.2.2.1,h.2.2.2.1,h.2.2.2.2.1,h.2.2.2.2.2.1,h.2.2.2.2.2.2⟩
section
variable {K:PySem.W.Frag}{h:Heap}{mg:Str→Option Value}{x m qual:Str}{st:Stmt}{ps:List Str}{f C cL TP:Addr}{oc oc2:Value}{od an od2:Option Addr}{osl sl2:Array (Option Value)}{kV doc pm cdv ct:Value}{vs:Array Value}
abbrev fnN (x qual:Str) (st:Stmt) (kV doc pm:Value) (an:Option Addr) (cdv ct:Value):FuncData:=PySem.W.fnOf x qual (zc0 st) (zch st) (zah st) .none kV doc pm an cdv ct
theorem def_mk (X:K.In h) (G:h.Ns mainGlobals mg) (a:PySem.W.nsIn K mainGlobals x=some (some (.ref f))) (l:K.lookup f=some ⟨oc,od,.func (fnN x x st kV doc pm an cdv ct),osl⟩) (c:PySem.W.codeIn K cdv x=true) (k:PySem.W.keepIn K (.ref f)=true)
  (b:∀ us:List Value,us.length=ps.length→bindArgs (fnN x x st kV doc pm an cdv ct) ⟨us,[]⟩=pure (ps.zip us)):Def K mg x st ps []:=⟨⟨_,_,[],zdE l c,PySem.W.mg_of X G a,k,.all b,.nil⟩⟩
theorem met_mk (a:PySem.W.findIn K (.ref C) m=some (some (.ref f))) (i:PySem.W.isFn K (.ref f)=true) (l:K.lookup f=some ⟨oc,od,.func (fnN m qual st kV doc pm an cdv ct),osl⟩) (c:PySem.W.codeIn K cdv qual=true) (k:PySem.W.keepIn K (.ref f)=true)
  (b:∀ us:List Value,us.length=ps.length→bindArgs (fnN m qual st kV doc pm an cdv ct) ⟨us,[]⟩=pure (ps.zip us)):Met K C m qual st ps []:=⟨⟨f,_,[],zdE l c,⟨a,i,k⟩,.all b,.nil⟩⟩
theorem zg1 {dvs:List V}{ds:List Value}{Tt:Addr}{ocT:Value}{odT:Option Addr}{slT:Array (Option Value)}{nT:Nat}{D:Array Value} (a:PySem.W.findIn K (.ref C) m=some (some (.ref f))) (i:PySem.W.isFn K (.ref f)=true) (l:K.lookup f=some ⟨oc,od,.func (PySem.W.fnOf m qual (zc0 st) (zch st) (zah st) (.ref Tt) kV doc pm an cdv ct),osl⟩) (c:PySem.W.codeIn K cdv qual=true) (k:PySem.W.keepIn K (.ref f)=true) (td:K.lookup Tt=some ⟨ocT,odT,.seq D nT,slT⟩) (v:zaX dvs ds)
  (b:K.lookup Tt=some ⟨ocT,odT,.seq D nT,slT⟩→zce K (PySem.W.fnOf m qual (zc0 st) (zch st) (zah st) (.ref Tt) kV doc pm an cdv ct) ps ds):Met K C m qual st ps dvs:=⟨⟨f,_,ds,zdE l c,⟨a,i,k⟩,b td,v⟩⟩
theorem vals1i {i:Int}{t:Tok}:zaX [.int i] [.int i t]:=.cons ⟨t,rfl⟩ .nil
theorem vals2i {i j:Int}{t u:Tok}:zaX [.int i,.int j] [.int i t,.int j u]:=.cons ⟨t,rfl⟩ (.cons ⟨u,rfl⟩ .nil)
theorem ini_mk (X:K.In h) (G:h.Ns mainGlobals mg) (g:PySem.W.nsIn K mainGlobals x=some (some (.ref C))) (mk:PySem.W.makesIn K C=true) (kc:PySem.W.keepIn K (.ref C)=true) (a:PySem.W.findIn K (.ref C) "__init__"=some (some (.ref f))) (i:PySem.W.isFn K (.ref f)=true) (l:K.lookup f=some ⟨oc,od,.func (fnN "__init__" qual st kV doc pm an cdv ct),osl⟩) (c:PySem.W.codeIn K cdv qual=true)
  (b:∀ us:List Value,us.length=ps.length→bindArgs (fnN "__init__" qual st kV doc pm an cdv ct) ⟨us,[]⟩=pure (ps.zip us)):Ini K mg C x qual st ps:=⟨⟨f,_,zdE l c,⟨mk,a,i,kc⟩,PySem.W.mg_of X G g,.all b⟩⟩
theorem zlq (X:K.In h) (G:h.Ns mainGlobals mg) (g:PySem.W.nsIn K mainGlobals x=some (some (.ref C))) (xa:ziR K C bmV "ValueError.__new__"=true) (kc:PySem.W.keepIn K (.ref C)=true) (a:PySem.W.findIn K (.ref C) "__init__"=some (some (.ref f))) (i:PySem.W.isFn K (.ref f)=true) (l:K.lookup f=some ⟨oc,od,.func (fnN "__init__" qual st kV doc pm an cdv ct),osl⟩) (c:PySem.W.codeIn K cdv qual=true)
  (b:∀ us:List Value,us.length=ps.length→bindArgs (fnN "__init__" qual st kV doc pm an cdv ct) ⟨us,[]⟩=pure (ps.zip us)):zlW K mg C x qual st ps:=⟨⟨f,_,zdE l c,⟨xa,kc,a,i⟩,PySem.W.mg_of X G g,.all b⟩⟩
theorem int_mk {n:Int}{t:Tok} (X:K.In h) (G:h.Ns mainGlobals mg) (a:PySem.W.nsIn K mainGlobals x=some (some (.int n t))):∃ t,mg x=some (.int n t):=⟨t,PySem.W.mg_of X G a⟩
theorem str_mk {n:Str}{t:Tok} (X:K.In h) (G:h.Ns mainGlobals mg) (a:PySem.W.nsIn K mainGlobals x=some (some (.str n t))):∃ t,mg x=some (.str n t):=⟨t,PySem.W.mg_of X G a⟩
end
end L2
namespace L2
open PySem PySem.Spec PyProof.Rows PySem.SeqAt
open AutoSeq1 (wpAny_loadPart')
section
variable {prog:Program}{w:World}{A:Around}{s:Shared}
end
section
variable {X:Cx}
end
end L2
namespace L2
open PySem PySem.Spec PyProof.Rows
section
variable {prog:Program}{w:World}{A:Around}{E:Value→Shared→Prop}{s:Shared}{cs:List Addr}{κ:Type} [DecidableEq κ] {knd:KeyKind prog w κ}
end
section
variable {X:Cx}
theorem zjg:zdx X (.type "int") (fun xs H Q=>∃ n:Int,xs=[.str (toString n)]∧0≤n∧n<10 ^ 10∧Q (.int n) H):=by
 intro pins s σ H xs us Q I r h
 obtain⟨n,rfl,h0,h1,q⟩:=h
 obtain⟨u,rfl,t,rfl⟩:=zda r
 exact PySem.W.KIN.call_num h0 h1 ⟨.int n,H,I.tok _,⟨_,rfl⟩,q⟩
def rNeK (K:PySem.W.Frag):R2:=fun x y H Q=>∃ a b kvs,x=.ref a∧y=.ref b∧H a=some (.dK kvs)∧H b=some (.dK kvs)∧FlatK K H kvs∧Q (.bl false) H
theorem op_neK (hu:X.A.units + 64<cLine):OpR X (compareOp .NotEq) (rNeK X.K):=by
 intro pins s σ H x y v u Q I rx ry h
 obtain⟨a,b,kvs,rfl,rfl,ha,hb,f,q⟩:=h
 obtain rfl:v=Value.ref a:=rx
 obtain rfl:u=Value.ref b:=ry
 obtain⟨_,na,va,ra,da⟩:=zeV I.hok ha
 obtain⟨_,nb,vb,rb,db⟩:=zeV I.hok hb
 have nd:(kvs.map (·.1)).Nodup:=by
  obtain⟨_,_,_,_,_,_,_,_,nd⟩:=da
  rw[ra.keys]
  exact nd
 refine PySem.W.keq_ne na nb da db (by omega) (fun _=>I.dicHits (A:=X.A.in1) rb nd f (show X.A.units + 1 + 20<cLine by omega) ra fun p hp=>hp) ?_
 rw[← ra.length,← rb.length]
 have q':EP X pins σ Q (.bool false) s:=⟨.bl false,H,I,rfl,q⟩
 simpa using q'
end
end L2
namespace L2
open PySem PySem.Spec PyProof.Rows PySem.Builtin PySem.Builtin.Str
theorem zgo:∀ l:List (Str×Tok),zaX ((l.map (·.1)).map V.str) (strValues l)
 | []=>.nil
 | p::l=>.cons ⟨p.2,rfl⟩ (zgo l)
section
variable {X:Cx}
def rSplit:V→List V→Hp→VK→Prop:=fun x vs H Q=>∃ a b:Str,x=.str a∧vs=[.str b]∧(b.length == 0)=false∧a.length + 2≤sizeLine∧∀ p,H p=none→Q (.ref p) (upd H p (.lst ((Txt.split a b).map V.str)))
theorem zhz:MtR X "str.split" rSplit:=by
 intro pins s σ H x xs v us Q I rx r h
 obtain⟨a,b,rfl,rfl,hb,ha,q⟩:=h
 obtain⟨t,rfl⟩:=rx
 obtain⟨u,rfl,t',rfl⟩:=zda r
 have fin:∀ (l:List (Str×Tok)) (k:Nat),l.map (·.1)=Txt.split a b→EP X pins σ Q (.ref s.heap.objs.size) { s with heap:=s.heap.push { cls:=.type "list",data:=.seq (strValues l).toArray },toks:=k }:=fun l k e=>by
  refine⟨.ref _,_,I.lnew (t':=k) (zgo l) ?_,rfl,?_⟩
  ·rw[List.length_map,e]
   exact Nat.le_trans (split_le a b) ha
  ·rw[e]
   exact q _ I.fresh
 have hn:(partsBetween a (occurrences a b 0 a.length (a.length + 1)) b.length).length≤sizeLine:=by
  have e1:=StrLaws.occ_length_le a b 0 a.length (a.length + 1)
  rw[length_partsBetween]
  omega
 cases h1:(decide (a.length<b.length) || decide (strKind a<strKind b))
 ·cases hf:(occurrences a b 0 a.length (a.length + 1)).isEmpty
  ·refine call_meets F.slot_str_split (typeIs_str _ _ _) F.entry_str_split (F.args_str_split_2 _ _) (meets_str_split_sep a b t t' h1 hb hf (by omega) hn) ?_
   show EP X pins σ Q (.ref s.heap.objs.size) { s with toks:=_,heap:=s.heap.push { cls:=.type "list",data:=.seq (strsFrom s.toks (partsBetween a (occurrences a b 0 a.length (a.length + 1)) b.length)).toArray } }
   rw[strsFrom_eq]
   exact fin (numbered s.toks _) _ ((numbered_texts _ _).trans ((if_neg (ne_true_of_eq_false h1)).trans (if_neg (ne_true_of_eq_false hf))).symm)
  ·exact call_meets F.slot_str_split (typeIs_str _ _ _) F.entry_str_split (F.args_str_split_2 _ _) (meets_str_split_not_found a b t t' h1 hb hf) (fin [(a,t)] s.toks ((if_neg (ne_true_of_eq_false h1)).trans (if_pos hf)).symm)
 ·exact call_meets F.slot_str_split (typeIs_str _ _ _) F.entry_str_split (F.args_str_split_2 _ _) (meets_str_split_cannot_occur a b t t' h1) (fin [(a,t)] s.toks (if_pos h1).symm)
def rRepS:R2:=fun x y H Q=>∃ (a:Str) (n:Int),x=.str a∧y=.int n∧MulOk a n∧Q (.str (Txt.mul a n)) H
theorem zlr:OpR X (binaryOp .Mult) rRepS:=by
 intro pins s σ H x y v u Q I rx ry h
 obtain⟨a,n,rfl,rfl,ok,q⟩:=h
 obtain⟨t,rfl⟩:=rx
 obtain⟨t',rfl⟩:=ry
 exact SB.mul ok fun t' k=>⟨.str _,H,I.tok _,⟨_,rfl⟩,q⟩
end
def jl (c:Nat):List (List Nat)→List Nat
 | []=>[]
 | [x]=>x
 | x::y::r=>x++c::jl c (y::r)
theorem zfx (c:Nat):∀ ys:List Str,(Str.join ⟨#[c]⟩ ys).cps.toList=jl c (ys.map fun y=>y.cps.toList)
 | []=>rfl
 | [x]=>rfl
 | x::y::r=>by
  show(x++(⟨#[c]⟩:Str)++Str.join ⟨#[c]⟩ (y::r)).cps.toList=_
  rw[PySem.Str.cps_append,PySem.Str.cps_append,Array.toList_append,Array.toList_append,zfx c (y::r),List.append_assoc]
  rfl
theorem zjh {c:Nat}:∀ {a b a' b':List Nat},c∉a→c∉a'→a++c::b=a'++c::b'→a=a'∧b=b'
 | [],_,[],_,_,_,e=>⟨rfl,(List.cons.inj e).2⟩
 | [],_,x::a',_,_,h',e=>absurd (List.mem_cons.mpr (.inl (List.cons.inj e).1)) h'
 | x::a,_,[],_,h,_,e=>absurd (List.mem_cons.mpr (.inl (List.cons.inj e).1.symm)) h
 | x::a,_,y::a',_,h,h',e=>by
  obtain⟨e1,e2⟩:=List.cons.inj e
  obtain⟨r1,r2⟩:=zjh (fun z=>h (List.mem_cons_of_mem _ z)) (fun z=>h' (List.mem_cons_of_mem _ z)) e2
  exact⟨by rw[e1,r1],r2⟩
theorem zkM {c:Nat}:∀ {xs ys:List (List Nat)},xs≠[]→ys≠[]→(∀ x∈xs,c∉x)→(∀ y∈ys,c∉y)→jl c xs=jl c ys→xs=ys
 | [],_,h,_,_,_,_=>absurd rfl h
 | _,[],_,h,_,_,_=>absurd rfl h
 | [x],[y],_,_,_,_,e=>by rw[show x=y from e]
 | [x],y::y'::r,_,_,hx,_,e=>absurd (show c∈x by rw[show x=y++c::jl c (y'::r) from e];simp) (hx x (List.mem_cons_self ..))
 | x::x'::r,[y],_,_,_,hy,e=>absurd (show c∈y by rw[show y=x++c::jl c (x'::r) from e.symm];simp) (hy y (List.mem_cons_self ..))
 | x::x'::r,y::y'::r',_,_,hx,hy,e=>by
  obtain⟨e1,e2⟩:=zjh (hx x (List.mem_cons_self ..)) (hy y (List.mem_cons_self ..)) (show x++c::jl c (x'::r)=y++c::jl c (y'::r') from e)
  rw[e1,zkM (by simp) (by simp) (fun z hz=>hx z (List.mem_cons_of_mem _ hz)) (fun z hz=>hy z (List.mem_cons_of_mem _ hz)) e2]
theorem zhA:∀ {xs ys:List Str},(xs.map fun y=>y.cps.toList)=(ys.map fun y=>y.cps.toList)→xs=ys
 | [],[],_=>rfl
 | [],_::_,e=>by simp at e
 | _::_,[],e=>by simp at e
 | x::xs,y::ys,e=>by
  rw[List.map_cons,List.map_cons] at e
  obtain⟨e1,e2⟩:=List.cons.inj e
  rw[str_of_list e1,zhA e2]
theorem zfa {c:Nat}{ys:List Str} (h0:ys≠[]) (h:∀ y∈ys,c∉y.cps.toList):Txt.split (Txt.join ⟨#[c]⟩ ys) ⟨#[c]⟩=ys:=by
 have e1:Txt.join ⟨#[c]⟩ ys=Str.join ⟨#[c]⟩ ys:=StrLaws.glued_eq_join _ _
 rw[e1]
 refine zhA (zkM (c:=c) ?_ (by simpa using h0) (fun x hx=>?_) (fun x hx=>?_) ?_)
 ·intro z
  have:=split_pos (Str.join ⟨#[c]⟩ ys) ⟨#[c]⟩
  rw[List.map_eq_nil_iff.mp z] at this
  simp at this
 ·obtain⟨y,hy,rfl⟩:=List.mem_map.mp hx
  exact StrLaws.split_free _ c y hy
 ·obtain⟨y,hy,rfl⟩:=List.mem_map.mp hx
  exact h y hy
 ·rw[← zfx,← zfx,StrLaws.join_split]
end L2
namespace L2
open PySem PySem.Spec PyProof.Rows
section
variable {X:Cx}
theorem ps_not {st:Stmt}:PS X st (fun _ _ _=>False):=by
 intro pins s σ H D I h
 exact h.elim
def tFmtS (t:TE):TE:=fun σ H Q=>t σ H fun v H1=>∃ x:Str,v=.str x∧x.length≤sizeLine∧Q (.str x) H1
def tFmtI (t:TE):TE:=fun σ H Q=>t σ H fun v H1=>∃ n:Int,v=.int n∧n.natAbs.log2<1920∧Q (.str (Str.ofString (toString n))) H1
theorem zbK {value:Expr}{t:TE}{pos:Pos} (h:PE X value t):PE X (.FormattedValue value (-1) none pos) (tFmtS t):=by
 intro pins s σ H Q I hh
 refine wpAny_FormattedValue_plain (thn (h pins s σ H _ I hh) fun v s1=>L2.ex5 fun x H1 I1 r1 hq_=>?_)
 obtain⟨y,e,hy,q⟩:=hq_
 subst e
 obtain⟨tk,rfl⟩:=r1
 exact wpAny_formatField_str ⟨.str y,H1,I1,⟨_,rfl⟩,q⟩ ⟨.str y,H1,I1.tok _,⟨_,rfl⟩,q⟩ hy
theorem zeB {value:Expr}{t:TE}{pos:Pos} (h:PE X value t):PE X (.FormattedValue value (-1) none pos) (tFmtI t):=by
 intro pins s σ H Q I hh
 refine wpAny_FormattedValue_plain (thn (h pins s σ H _ I hh) fun v s1=>L2.ex5 fun x H1 I1 r1 hq_=>?_)
 obtain⟨n,e,hn,q⟩:=hq_
 subst e
 obtain⟨tk,rfl⟩:=r1
 exact wpAny_formatField_int hn ⟨.str _,H1,I1.tok _,⟨_,rfl⟩,q⟩
abbrev TJ:=St→Hp→Str→(Str→Hp→Prop)→Prop
def PJ (X:Cx) (es:List Expr) (tj:TJ):Prop:=∀ pins s σ H acc Q,Inv X pins σ H s→tj σ H acc Q→Joins (model X.prog X.w) X.A X.xe (evalEach es X.env) acc (fun out s1=>∃ H1,Inv X pins σ H1 s1∧Q out H1) s
def tjNil:TJ:=fun _ H acc Q=>Q acc H
def tjCons (t:TE) (u:TJ):TJ:=fun σ H acc Q=>t σ H fun v H1=>∃ y,v=.str y∧(acc++y).length≤sizeLine∧u σ H1 (acc++y) Q
theorem zeC:PJ X [] tjNil:=fun _ _ _ H _ _ I h=>⟨H,I,h⟩
theorem zaz {e:Expr}{es:List Expr}{t:TE}{u:TJ} (h:PE X e t) (k:PJ X es u):PJ X (e::es) (tjCons t u):=by
 intro pins s σ H acc Q I hh
 show wpAny _ _ (eval e X.env) (fun v s₁=>∃ y t,v=.str y t∧(acc++y).length≤sizeLine∧Joins _ _ _ (evalEach es X.env) (acc++y) _ s₁) _ s
 refine thn (h pins s σ H _ I hh) fun v s1=>L2.ex5 fun x H1 I1 r1 hq_=>?_
 obtain⟨y,e,hy,q⟩:=hq_
 subst e
 obtain⟨tk,rfl⟩:=r1
 exact⟨y,tk,rfl,hy,k pins s1 σ H1 _ Q I1 q⟩
theorem zbT {e1 e2:Expr}{es:List Expr}{u:TJ}{pos:Pos} (h:PJ X (e1::e2::es) u):PE X (.JoinedStr (e1::e2::es) pos) (fun σ H Q=>u σ H Str.empty fun out H1=>out.length≤sizeLine∧Q (.str out) H1):=by
 intro pins s σ H Q I hh
 refine wpAny_JoinedStr ?_
 have j:=h pins s σ H _ _ I hh
 have mono:∀ (ps:List (Sem Value)) (acc:Str) (s:Shared) (Q Q':Str→Shared→Prop),(∀ o s,Q o s→Q' o s)→Joins (model X.prog X.w) X.A X.xe ps acc Q s→Joins (model X.prog X.w) X.A X.xe ps acc Q' s:=fun ps=>by
  induction ps with
  | nil=>exact fun acc s Q Q' k h=>k _ _ h
  | cons p ps ih=>exact fun acc s Q Q' k h=>wpAny_mono h (fun v s1 ⟨y,t,e,hz,r⟩=>⟨y,t,e,hz,ih _ _ _ _ k r⟩) fun _ _ e=>e
 exact mono _ _ _ _ _ (fun out s1 ⟨H1,I1,hz,q⟩=>⟨hz,.str out,H1,I1.tok _,⟨_,rfl⟩,q⟩) j
def KD (prog:Program) (w:World) (K:PySem.W.Frag) (a:Addr) (kvs:List (Key×V)):Prop:=(a == sysModules)=false∧∃ vs,KV kvs vs∧∃ o,K.lookup a=some o∧o.IsDictOf (zaL prog w) vs
theorem Inv.kd {pins:List (Addr×Obj)}{σ:St}{H:Hp}{s:Shared}{a:Addr}{kvs:List (Key×V)} (I:Inv X pins σ H s) (h:KD X.prog X.w X.K a kvs):(a == sysModules)=false∧∃ vs,KV kvs vs∧s.heap.DictOf (zaL X.prog X.w) a vs:=by
 obtain⟨hs,vs,r,o,hk,hd⟩:=h
 exact⟨hs,vs,r,Heap.dictOf_iff.mpr ⟨o,I.kIn a o hk,hd⟩⟩
def tKGet (prog:Program) (w:World) (K:PySem.W.Frag) (td ty:TE):TE:=fun σ H Q=>td σ H fun x H1=>ty σ H1 fun y H2=>∃ a kvs k v,x=.ref a∧KD prog w K a kvs∧y=kV k∧zco kvs k=some v∧Q v H2
theorem zls {o i:Expr}{td ty:TE}{pos:Pos} (ho:PE X o td) (hi:PE X i ty) (hs:NoSl i):PE X (.Subscript o i pos) (tKGet X.prog X.w X.K td ty):=by
 intro pins s σ H Q I h
 refine ziG PySem.F.slot_dict_getitem.lookup hs (thn (ho pins s σ H _ I h) fun u s1=>L2.ex5 fun x H1 I1 rx q1=>thn (hi pins s1 σ H1 _ I1 q1) fun iv s2=>L2.ex5 fun y H2 I2 ry hq_=>?_)
 obtain⟨a,kvs,k,v,ex,g,ey,l,q2⟩:=hq_
 subst ex
 subst ey
 obtain rfl:u=Value.ref a:=rx
 obtain⟨_,vs,rel,dd⟩:=I2.kd g
 obtain⟨w',hw,rw'⟩:=zfh.some_of (v:=v) (o:=valueAt vs k) (by rw[← l];exact rel.val k)
 exact⟨dd.typeIs,wpAny_getItem_of (zga ry) dd.mapOf hw ⟨v,H2,I2.tok _,rw',q2⟩⟩
def tKNot (prog:Program) (w:World) (K:PySem.W.Frag) (ty td:TE):TE:=fun σ H Q=>ty σ H fun y H1=>td σ H1 fun x H2=>∃ a kvs k,x=.ref a∧KD prog w K a kvs∧y=kV k∧Q (.bl (!(zco kvs k).isSome)) H2
theorem zji {o i:Expr}{td ty:TE} (hi:PE X i ty) (ho:PE X o td):PC X .NotIn i o (tKNot X.prog X.w X.K ty td):=by
 intro pins s σ H Q I h
 refine thn (hi pins s σ H _ I h) fun iv s1=>L2.ex5 fun y H1 I1 ry q1=>thn (ho pins s1 σ H1 _ I1 q1) fun u s2=>L2.ex5 fun x H2 I2 rx hq_=>?_
 obtain⟨a,kvs,k,ex,g,ey,q2⟩:=hq_
 subst ex
 subst ey
 obtain rfl:u=Value.ref a:=rx
 obtain⟨hd,vs,rel,dd⟩:=I2.kd g
 refine wpAny_notIn_of (zga ry) hd dd.mapOf ?_
 rw[← (rel.val k).isSome_eq]
 exact⟨.bl _,H2,I2.tok _,rfl,q2⟩
end
end L2
namespace HT
open PySem PySem.Spec PyProof.Rows
section
variable {prog:Program}{w:World}{A:Around}{E:Value→Shared→Prop}{s:Shared}
theorem zdG {t sl:Addr}{items:Array Value}{vl vu:Value}{lo hi:Option Int}{Q:Value→Shared→Prop} (ht:IsTup s.heap t items) (hs:s.heap.IsSliceOf sl vl vu .none) (pl:IsPart vl lo) (pu:IsPart vu hi)
  (hw:sIx items.size 0 lo=0∧sIx items.size items.size hi=items.size) (h:Q (.ref t) s):wpAny (model prog w) A (getItem (.ref t) (.ref sl)) Q E s:=by
 obtain⟨os,hos,hcs,hds⟩:=id hs
 have hTs:s.TypeIs (.ref sl) "slice":=⟨os,hos,hcs⟩
 unfold getItem
 try with_reducible refine wpAny_holding ?_
 first|refine wpAny_bind (wpAny_pure ?_)|skip
 refine wpAny_bind (wpAny_sequenceKey ht.typeIs (by decide) ?_)
 refine wpAny_bind (wpAny_callSpecial?_slot (name:=Str.ofString "__getitem__") ht.typeIs PyProof.Rows.slot_tuple_getitem
  (wpAny_call_entry PyProof.Rows.slot_tuple_getitem ht.typeIs entry_tuple_getitem ?_ (args_tuple_getitem _ _)))
 show wpAny _ _ (Builtin.Tuple.tupleItemsOf (.ref t) >>= _) _ _ s
 refine wpAny_bind (tupleItemsOf_ ht ?_)
 refine wpAny_bind (wpAny_typeOf hTs ?_)
 rw[if_pos (by decide)]
 refine wpAny_bind (zcn hs pl pu ?_)
 have hyes:(((sIx items.size 0 lo:Nat):Int) == 0 && (1:Int) == 1 && (sIx items.size items.size hi - sIx items.size 0 lo) == items.size)=true:=by
  rw[hw.1,hw.2]
  simp
 show wpAny _ _ (if (((sIx items.size 0 lo:Nat):Int) == 0 && (1:Int) == 1 && (sIx items.size items.size hi - sIx items.size 0 lo) == items.size)=true then _ else _) _ _ s
 rw[if_pos hyes]
 first
  | exact wpAny_bind (wpAny_bind (wpAny_typeOf ht.typeIs (wpAny_pure (wpAny_bind (wpAny_rule (wpAny_bind (wpAny_pure ⟨_,rfl,wpAny_pure h⟩)))))))
  | exact wpAny_bind (wpAny_bind (wpAny_typeOf ht.typeIs (wpAny_pure (wpAny_bind (wpAny_rule (wpAny_pure ⟨_,rfl,wpAny_pure h⟩))))))
end
end HT
namespace L2
open PySem PySem.Spec PyProof.Rows
section
variable {X:Cx}
def rSlTA (K:PySem.W.Frag):V→Option Int→Option Int→Hp→VK→Prop:=fun x lo hi H Q=>∃ a xs,x=.ref a∧SqT K H a xs ∧
 ((HT.sIx xs.length 0 lo=0∧HT.sIx xs.length xs.length hi=xs.length)→Q (.ref a) H)∧(¬ (HT.sIx xs.length 0 lo=0∧HT.sIx xs.length xs.length hi=xs.length)→∀ p,H p=none→Q (.ref p) (upd H p (.tup (zfS xs lo hi))))
theorem zlt:SlR X (rSlTA X.K):=by
 intro pins s σ H x v vl vu lo hi sl Q I rx hs pl pu h
 obtain⟨a,xs,rfl,hx,q1,q2⟩:=h
 by_cases hw:HT.sIx xs.length 0 lo=0∧HT.sIx xs.length xs.length hi=xs.length
 ·cases rx
  obtain⟨its,r,ht,hz⟩:=I.tuple hx
  have hlen:its.toArray.size=xs.length:=by rw[List.size_toArray];exact r.length.symm
  exact⟨"tuple",_,PyProof.Rows.slot_tuple_getitem.lookup,ht.typeIs,HT.zdG ht hs pl pu (by rw[hlen];exact hw) ⟨.ref a,H,I,rfl,q1 hw⟩⟩
 ·exact sl_tup pins s σ H _ v vl vu lo hi sl Q I rx hs pl pu ⟨a,xs,rfl,hx,hw,q2 hw⟩
def rNeE:R2:=fun x y H Q=>∃ a b kvs,x=.ref a∧y=.ref b∧H a=some (.dK kvs)∧H b=some (.dK [])∧Q (.bl (!kvs.isEmpty)) H
theorem op_neE (hu:X.A.units + 64<cLine):OpR X (compareOp .NotEq) rNeE:=by
 intro pins s σ H x y v u Q I rx ry h
 obtain⟨a,b,kvs,rfl,rfl,ha,hb,q⟩:=h
 cases kvs with
 | nil=>exact op_neK hu pins s σ H _ _ v u Q I rx ry ⟨a,b,[],rfl,rfl,ha,hb,(fun p hp=>by cases hp),q⟩
 | cons kv r=>
  obtain rfl:v=Value.ref a:=rx
  obtain rfl:u=Value.ref b:=ry
  obtain⟨_,na,va,ra,da⟩:=zeV I.hok ha
  obtain⟨_,nb,vb,rb,db⟩:=zeV I.hok hb
  have l1:=ra.length
  have l2:=rb.length
  rw[List.length_cons] at l1
  rw[List.length_nil] at l2
  refine PySem.W.keq_ne (r:=false) na nb da db (by omega) (fun e=>absurd e (by omega)) ?_
  rw[Bool.and_false]
  exact⟨.bl true,H,I,rfl,q⟩
end
end L2
namespace L2
open PySem PySem.Spec PyProof.Rows
def evens {α:Type}:List α→List α
 | []=>[]
 | [x]=>[x]
 | x::_::r=>x::evens r
theorem zeD {α:Type}:∀ (l:List α) (i:Nat),(evens l)[i]?=l[2 * i]?
 | [],i=>by simp[evens]
 | [x],0=>rfl
 | [x],i + 1=>by
  show([x]:List α)[i + 1]?=_
  rw[List.getElem?_eq_none (by simp),List.getElem?_eq_none (by simp;omega)]
 | x::y::r,0=>rfl
 | x::y::r,i + 1=>by
  show(evens r)[i]?=(x::y::r)[2 * i + 2]?
  rw[zeD r i]
  rfl
theorem zgp {α:Type}:∀ l:List α,(evens l).length≤l.length
 | []=>Nat.le_refl _
 | [_]=>Nat.le_refl _
 | x::y::r=>by
  have:=zgp r
  show(evens r).length + 1≤r.length + 1 + 1
  omega
theorem Paired.evens {α β:Type}{F:α→β→Prop}:∀ {l₁:List α}{l₂:List β},Paired F l₁ l₂→Paired F (L2.evens l₁) (L2.evens l₂)
 | _,_,.nil=>.nil
 | _,_,.cons r .nil=>.cons r .nil
 | _,_,.cons r (.cons _ t)=>.cons r (Paired.evens t)
theorem zke (its:List Value):slicePick its.toArray none none (some 2)=(evens its).toArray:=by
 unfold slicePick
 have b:sliceBounds none none (some 2) its.toArray.size=(0,(its.length:Int),2):=by
  unfold sliceBounds
  simp
 rw[b]
 have r:sliceRange 0 (its.length:Int) 2=(List.range ((its.length + 1) / 2)).map fun k=>2 * k:=by
  unfold sliceRange
  have c:(if (2:Int) > 0 then if (0:Int)<(its.length:Int) then((its.length:Int) - 0 + 2 - 1) / 2 else 0
    else if (0:Int) > (its.length:Int) then(0 - (its.length:Int) - 2 - 1) / (- 2) else 0)=(((its.length + 1) / 2:Nat):Int):=by
   rw[if_pos (by decide)]
   by_cases z:its.length=0
   ·rw[z];rfl
   ·rw[if_pos (by omega)]
    omega
  dsimp only
  rw[c,Int.toNat_natCast]
  refine List.map_congr_left fun k hk=>?_
  have:=List.mem_range.mp hk
  omega
 rw[r]
 congr 1
 rw[List.filterMap_map]
 refine List.ext_getElem? fun i=>?_
 have e:(List.range ((its.length + 1) / 2)).filterMap ((fun x=>its.toArray[x]?) ∘ fun k=>2 * k)=(List.range ((its.length + 1) / 2)).map fun k=>its.getD (2 * k) .none:=by
  refine zcS fun k hk=>?_
  have:=List.mem_range.mp hk
  show its.toArray[2 * k]?=some _
  rw[List.getElem?_toArray,List.getD_eq_getElem?_getD,List.getElem?_eq_getElem (by omega)]
  rfl
 rw[e,List.getElem?_map,zeD]
 by_cases c:i<(its.length + 1) / 2
 ·rw[List.getElem?_range c,List.getElem?_eq_getElem (by omega)]
  show some (its.getD (2 * i) .none)=_
  rw[List.getD_eq_getElem?_getD,List.getElem?_eq_getElem (by omega)]
  rfl
 ·rw[List.getElem?_eq_none (by simpa using c),List.getElem?_eq_none (by omega)]
  rfl
def tTwo (K:PySem.W.Frag) (te ts:TE):TE:=fun σ H Q=>te σ H fun x H1=>ts σ H1 fun y H2=>∃ a xs,x=.ref a∧y=.int 2∧SqL K H2 a xs∧∀ p,H2 p=none→Q (.ref p) (upd H2 p (.lst (evens xs)))
section
variable {X:Cx}{e st:Expr}{te ts:TE}{pos p2:Pos}
theorem pe_two (he:PE X e te) (hst:PE X st ts):PE X (.Subscript e (.Slice none none (some st) p2) pos) (tTwo X.K te ts):=by
 intro pins s σ H Q I h
 refine Subscript_ (thn (he pins s σ H _ I h) fun v s1=>L2.ex5 fun x H1 I1 r1 q1=>?_)
 refine wpAny_Slice ?_
 rw[evalPart_none]
 refine wpAny_pure (wpAny_pure ?_)
 rw[evalPart_some]
 refine thn (hst pins s1 σ H1 _ I1 q1) fun vs s3=>L2.ex5 fun y H3 I3 r3 hq_=>?_
 obtain⟨a,xs,ex,ey,hx,q⟩:=hq_
 subst ex ey
 obtain⟨t,rfl⟩:=r3
 cases r1
 have I4:Inv X pins σ H3 { s3 with heap:=s3.heap.push { cls:=.type "slice",data:=.fields #[.none,.none,.int 2 t] } }:=I3.kept (t':=s3.toks) fun b ob q=>Heap.get?_push_of_some _ q
 obtain⟨its,r,ht,hz⟩:=I4.list hx
 have hlen:=r.length
 show wpAny (model X.prog X.w) X.A (subscriptTail e (.Slice none none (some st) p2) (.ref a) (.ref s3.heap.objs.size)) (EP X pins σ Q) X.xe { s3 with heap:=s3.heap.push { cls:=.type "slice",data:=.fields #[.none,.none,.int 2 t] } }
 refine tail_any (ops:=[.ref a,.ref s3.heap.objs.size]) ht.isList.typeIs slot_list_getitem.lookup ?_ (by with_unfolding_all rfl)
 refine wpAny_getItem_list_slice ht.isList (Heap.IsSliceOf.new ..) .none .none (.int 2 t) (by simp) ?_ (by rw[List.size_toArray] <;> omega)
 rw[zke]
 refine⟨.ref _,_,I4.laid (t':=s3.toks) (o:=.lst (evens xs)) (fun b ob q=>Heap.get?_push_of_some _ q) (Nat.le_refl _) ?_,rfl,q _ (I4.hok.fresh (Nat.le_refl _))⟩
 exact⟨Nat.le_trans (zgp xs) hz,_,0,Paired.evens r,Heap.get?_push_size _ rfl⟩
end
theorem ki {pr:Program}{w:World}{k:Str}{t:Tok}:(zaL pr w).is (Sum.inr k) (.str k t)=true:=by
 show zfg (Sum.inr k) (.str k t)=true
 simp[zfg,Value.isStrOf]
end L2
namespace K04
open PySem L2
def top (i:Nat):Stmt:=PySem.Challenge.pw_layerdraw_k04_written_and_read.main.body.getD i (.Pass ⟨0,0,0,0⟩)
abbrev zbZ:Stmt:=zba (top 7) 0
theorem zc4:zas ["self","name"] ["self","name"] (zah zbZ):=.of (by decide +kernel)
abbrev zca:Stmt:=zba (top 8) 0
theorem zdk:zas ["self","number"] ["self","number"] (zah zca):=.of (by decide +kernel)
abbrev zcb:Stmt:=zba (top 9) 0
theorem zdl:zas ["self","number"] ["self","number"] (zah zcb):=.of (by decide +kernel)
abbrev zeE:Stmt:=top 21
theorem zh5:zas ["name"] ["name"] (zah zeE):=.of (by decide +kernel)
abbrev zfb:Stmt:=top 22
theorem zg2:zas ["number"] ["number"] (zah zfb):=.of (by decide +kernel)
abbrev zfc:Stmt:=top 23
theorem zg3:zas ["number","least","greatest"] ["number","least","greatest"] (zah zfc):=.of (by decide +kernel)
abbrev zcT:Stmt:=zba (top 24) 0
theorem zeF:zas ["self"] ["self"] (zah zcT):=.of (by decide +kernel)
abbrev zbq:Stmt:=zba (top 24) 1
theorem zd2:zas ["self","name","half"] ["self","name","half"] (zah zbq):=.of (by decide +kernel)
abbrev za7:Stmt:=zba (top 24) 2
theorem zcp:zas ["self","one","other","span","weight","number"] ["self","one","other","span","weight"] (zah za7):=.of (by decide +kernel)
abbrev zcU:Stmt:=zba (top 24) 3
theorem zeG:zas ["self","one","other"] ["self","one","other"] (zah zcU):=.of (by decide +kernel)
abbrev zcV:Stmt:=zba (top 24) 4
theorem zeH:zas ["self","one","other","number"] ["self","one","other","number"] (zah zcV):=.of (by decide +kernel)
abbrev zcq:Stmt:=zba (top 24) 5
theorem zdH:zas ["self","number"] ["self","number"] (zah zcq):=.of (by decide +kernel)
abbrev zdT:Stmt:=zba (top 24) 6
theorem zfy:zas ["self"] ["self"] (zah zdT):=.of (by decide +kernel)
abbrev zdm:Stmt:=zba (top 24) 7
theorem zeY:zas ["self","name"] ["self","name"] (zah zdm):=.of (by decide +kernel)
abbrev zcE:Stmt:=zba (top 24) 8
theorem zfz:zas ["self"] ["self"] (zah zcE):=.of (by decide +kernel)
abbrev zc5:Stmt:=zba (top 24) 9
theorem zgq:zas ["self"] ["self"] (zah zc5):=.of (by decide +kernel)
abbrev zc6:Stmt:=zba (top 24) 10
theorem zgr:zas ["self"] ["self"] (zah zc6):=.of (by decide +kernel)
abbrev zcr:Stmt:=zba (top 24) 11
theorem zdI:zas ["self","name"] ["self","name"] (zah zcr):=.of (by decide +kernel)
abbrev zbI:Stmt:=zba (top 24) 12
theorem zcu:zas ["self","one","other"] ["self","one","other"] (zah zbI):=.of (by decide +kernel)
abbrev zbj:Stmt:=top 29
theorem zcN:zas ["word"] ["word"] (zah zbj):=.of (by decide +kernel)
abbrev zb0:Stmt:=top 30
theorem zdn:zas ["words","needed","left_out","missing"] ["words","needed","left_out"] (zah zb0):=.of (by decide +kernel)
abbrev zfd:Stmt:=top 31
theorem zby:zas ["net","line","words","kind","form","names","numbers"] ["net","line"] (zah zfd):=.of (by decide +kernel)
abbrev zfe:Stmt:=top 32
theorem zcj:zas ["text","net","number","line"] ["text"] (zah zfe):=.of (by decide +kernel)
abbrev zdU:Stmt:=top 33
theorem zfA:zas ["name","half"] ["name","half"] (zah zdU):=.of (by decide +kernel)
abbrev zdV:Stmt:=top 34
theorem zfB:zas ["one","other","span","weight"] ["one","other","span","weight"] (zah zdV):=.of (by decide +kernel)
abbrev zbP:Stmt:=top 35
theorem zeI:zas ["net","lines"] ["net"] (zah zbP):=.of (by decide +kernel)
abbrev zcW:Stmt:=top 37
theorem zeJ:zas ["_law_script","_law_k"] ["_law_script","_law_k"] (zah zcW):=.of (by decide +kernel)
abbrev zdW:Stmt:=top 38
theorem zdo:zas ["_law_cell","_law_k","_law_number"] ["_law_cell","_law_k"] (zah zdW):=.of (by decide +kernel)
abbrev zb1:Stmt:=top 39
theorem zbr:zas ["_law_first","_law_stem","_law_at","_law_many"] ["_law_first"] (zah zb1):=.of (by decide +kernel)
abbrev zdX:Stmt:=top 40
theorem zbs:zas ["_law_names_here","_law_cell","_law_one","_law_other","_law_span","_law_weight"] ["_law_names_here","_law_cell"] (zah zdX):=.of (by decide +kernel)
abbrev zeK:Stmt:=top 41
theorem zaH:zas ["_law_net","_law_names_here","_law_kept","_law_cell","_law_one","_law_other","_law_span","_law_weight","_law_way","_law_arrows","_law_sames","_law_mosts","_law_number"] ["_law_net","_law_names_here","_law_kept","_law_cell"] (zah zeK):=.of (by decide +kernel)
abbrev zeL:Stmt:=top 42
theorem zgs:zas ["_law_pair","_law_name","_law_there"] ["_law_pair","_law_name","_law_there"] (zah zeL):=.of (by decide +kernel)
abbrev zcX:Stmt:=top 43
theorem zam:zas ["_law_names_here","_law_halves","_law_kept","_law_arrows","_law_sames","_law_mosts","_law_lines_here","_law_found","_law_k","_law_name","_law_there","_law_number","_law_one","_law_other","_law_span","_law_weight","_law_words"] ["_law_names_here","_law_halves","_law_kept"] (zah zcX):=.of (by decide +kernel)
abbrev zbk:Stmt:=top 44
theorem zaV:zas ["_law_names_here","_law_halves","_law_kept","_law_lines_here","_law_found","_law_net"] ["_law_names_here","_law_halves","_law_kept"] (zah zbk):=.of (by decide +kernel)
abbrev zbJ:Stmt:=top 45
theorem zau:zas ["_law_names_here","_law_halves","_law_kept","_law_bare","_law_arrows","_law_sames","_law_mosts","_law_points","_law_ways","_law_number","_law_one","_law_other","_law_span","_law_weight","_law_line","_law_level","_law_near"] ["_law_names_here","_law_halves","_law_kept","_law_bare"] (zah zbJ):=.of (by decide +kernel)
abbrev zbm:Stmt:=top 46
theorem za9:zas ["_law_net","_law_names_here","_law_halves","_law_kept","_law_arrows","_law_sames","_law_mosts","_law_rows","_law_found"] ["_law_net","_law_names_here","_law_halves","_law_kept"] (zah zbm):=.of (by decide +kernel)
abbrev zjj:Stmt:=top 47
theorem zbU:zas ["_law_script","_law_first","_law_names_here","_law_halves","_law_net","_law_k","_law_name","_law_cell","_law_kept","_law_text","_law_found","_law_other","_law_later","_law_row"] ["_law_script"] (zah zjj):=.of (by decide +kernel)
structure Adr where
 DrawError:Addr
 NoName:Addr
 Taken:Addr
 Alone:Addr
 NoNumber:Addr
 TooMany:Addr
 NoPoint:Addr
 NoSuch:Addr
 NoLine:Addr
 Net:Addr
 LINES:Addr
 LINES_0_2:Addr
 LINES_0:Addr
 LINES_1_2:Addr
 LINES_1:Addr
 LINES_2_2:Addr
 LINES_2:Addr
 LINES_3_2:Addr
 LINES_3:Addr
structure Tx (K:PySem.W.Frag) (mg:Str→Option Value) (a:Adr):Prop where
 g_DrawError:mg "DrawError"=some (.ref a.DrawError)
 xb_DrawError:PySem.W.mroIn K a.DrawError (.type "BaseException")=some true
 xt_DrawError:PySem.W.typeIn K (.ref a.DrawError)=some (.type "type")
 g_NoName:mg "NoName"=some (.ref a.NoName)
 xb_NoName:PySem.W.mroIn K a.NoName (.type "BaseException")=some true
 xt_NoName:PySem.W.typeIn K (.ref a.NoName)=some (.type "type")
 x_NoName:XC0 K a.NoName
 g_Taken:mg "Taken"=some (.ref a.Taken)
 xb_Taken:PySem.W.mroIn K a.Taken (.type "BaseException")=some true
 xt_Taken:PySem.W.typeIn K (.ref a.Taken)=some (.type "type")
 x_Taken:XC0 K a.Taken
 g_Alone:mg "Alone"=some (.ref a.Alone)
 xb_Alone:PySem.W.mroIn K a.Alone (.type "BaseException")=some true
 xt_Alone:PySem.W.typeIn K (.ref a.Alone)=some (.type "type")
 x_Alone:XC0 K a.Alone
 g_NoNumber:mg "NoNumber"=some (.ref a.NoNumber)
 xb_NoNumber:PySem.W.mroIn K a.NoNumber (.type "BaseException")=some true
 xt_NoNumber:PySem.W.typeIn K (.ref a.NoNumber)=some (.type "type")
 x_NoNumber:XC0 K a.NoNumber
 g_TooMany:mg "TooMany"=some (.ref a.TooMany)
 xb_TooMany:PySem.W.mroIn K a.TooMany (.type "BaseException")=some true
 xt_TooMany:PySem.W.typeIn K (.ref a.TooMany)=some (.type "type")
 x_TooMany:XC0 K a.TooMany
 g_NoPoint:mg "NoPoint"=some (.ref a.NoPoint)
 xb_NoPoint:PySem.W.mroIn K a.NoPoint (.type "BaseException")=some true
 xt_NoPoint:PySem.W.typeIn K (.ref a.NoPoint)=some (.type "type")
 g_NoSuch:mg "NoSuch"=some (.ref a.NoSuch)
 xb_NoSuch:PySem.W.mroIn K a.NoSuch (.type "BaseException")=some true
 xt_NoSuch:PySem.W.typeIn K (.ref a.NoSuch)=some (.type "type")
 g_NoLine:mg "NoLine"=some (.ref a.NoLine)
 xb_NoLine:PySem.W.mroIn K a.NoLine (.type "BaseException")=some true
 xt_NoLine:PySem.W.typeIn K (.ref a.NoLine)=some (.type "type")
 g_Net:mg "Net"=some (.ref a.Net)
 c_Net:Cls K a.Net
 na_Net_arrows_by_number:zcm K a.Net "arrows_by_number"
 na_Net_halves:zcm K a.Net "halves"
 na_Net_most_bounds:zcm K a.Net "most_bounds"
 na_Net_next_number:zcm K a.Net "next_number"
 na_Net_same_pairs:zcm K a.Net "same_pairs"
 xi_NoPoint:zlW K mg a.NoPoint "NoPoint" "NoPoint.__init__" zbZ ["self","name"]
 xs_NoPoint_name:XSet K a.NoPoint "name"
 xg_NoPoint_name:XGet K a.NoPoint "name"
 xi_NoSuch:zlW K mg a.NoSuch "NoSuch" "NoSuch.__init__" zca ["self","number"]
 xs_NoSuch_number:XSet K a.NoSuch "number"
 xg_NoSuch_number:XGet K a.NoSuch "number"
 xi_NoLine:zlW K mg a.NoLine "NoLine" "NoLine.__init__" zcb ["self","number"]
 xs_NoLine_number:XSet K a.NoLine "number"
 xg_NoLine_number:XGet K a.NoLine "number"
 d_is_name:Def K mg "is_name" zeE ["name"] []
 d_is_whole:Def K mg "is_whole" zfb ["number"] []
 d_in_range:Def K mg "in_range" zfc ["number","least","greatest"] []
 i_Net:Ini K mg a.Net "Net" "Net.__init__" zcT ["self"]
 m_Net_put_point:Met K a.Net "put_point" "Net.put_point" zbq ["self","name","half"] []
 m_Net_put_point1:Met K a.Net "put_point" "Net.put_point" zbq ["self","name","half"] [.int 0]
 m_Net_put_arrow:Met K a.Net "put_arrow" "Net.put_arrow" za7 ["self","one","other","span","weight"] []
 m_Net_put_arrow3:Met K a.Net "put_arrow" "Net.put_arrow" za7 ["self","one","other","span","weight"] [.int 1]
 m_Net_put_arrow2:Met K a.Net "put_arrow" "Net.put_arrow" za7 ["self","one","other","span","weight"] [.int 1,.int 1]
 m_Net_put_same:Met K a.Net "put_same" "Net.put_same" zcU ["self","one","other"] []
 m_Net_put_most:Met K a.Net "put_most" "Net.put_most" zcV ["self","one","other","number"] []
 m_Net_take_arrow:Met K a.Net "take_arrow" "Net.take_arrow" zcq ["self","number"] []
 m_Net_points:Met K a.Net "points" "Net.points" zdT ["self"] []
 m_Net_half_of:Met K a.Net "half_of" "Net.half_of" zdm ["self","name"] []
 m_Net_arrows:Met K a.Net "arrows" "Net.arrows" zcE ["self"] []
 m_Net_sames:Met K a.Net "sames" "Net.sames" zc5 ["self"] []
 m_Net_mosts:Met K a.Net "mosts" "Net.mosts" zc6 ["self"] []
 m_Net_need_point:Met K a.Net "need_point" "Net.need_point" zcr ["self","name"] []
 m_Net_need_two_points:Met K a.Net "need_two_points" "Net.need_two_points" zbI ["self","one","other"] []
 d_is_written_number:Def K mg "is_written_number" zbj ["word"] []
 d_numbers_of:Def K mg "numbers_of" zb0 ["words","needed","left_out"] []
 d_put_line:Def K mg "put_line" zfd ["net","line"] []
 d_read_net:Def K mg "read_net" zfe ["text"] []
 d_point_line:Def K mg "point_line" zdU ["name","half"] []
 d_arrow_line:Def K mg "arrow_line" zdV ["one","other","span","weight"] []
 d_net_text:Def K mg "net_text" zbP ["net"] []
 d__law_cell_at:Def K mg "_law_cell_at" zcW ["_law_script","_law_k"] []
 d__law_mixed:Def K mg "_law_mixed" zdW ["_law_cell","_law_k"] []
 d__law_names:Def K mg "_law_names" zb1 ["_law_first"] []
 d__law_arrow:Def K mg "_law_arrow" zdX ["_law_names_here","_law_cell"] []
 d__law_deed:Def K mg "_law_deed" zeK ["_law_net","_law_names_here","_law_kept","_law_cell"] []
 d__law_come:Def K mg "_law_come" zeL ["_law_pair","_law_name","_law_there"] []
 d__law_mingled:Def K mg "_law_mingled" zcX ["_law_names_here","_law_halves","_law_kept"] []
 d__law_read_mingled:Def K mg "_law_read_mingled" zbk ["_law_names_here","_law_halves","_law_kept"] []
 d__law_lines:Def K mg "_law_lines" zbJ ["_law_names_here","_law_halves","_law_kept","_law_bare"] []
 d__law_alike:Def K mg "_law_alike" zbm ["_law_net","_law_names_here","_law_halves","_law_kept"] []
 d_law:Def K mg "law" zjj ["_law_script"] []
 k_FIGURES:∃ t,mg "FIGURES"=some (.str "0123456789" t)
 k_GREATEST_MOST:∃ t,mg "GREATEST_MOST"=some (.int 99 t)
 k_GREATEST_WEIGHT:∃ t,mg "GREATEST_WEIGHT"=some (.int 1000000 t)
 k_LONGEST_NAME:∃ t,mg "LONGEST_NAME"=some (.int 8 t)
 k_LONGEST_SPAN:∃ t,mg "LONGEST_SPAN"=some (.int 20 t)
 k_MOST_ARROWS:∃ t,mg "MOST_ARROWS"=some (.int 40 t)
 k_MOST_FIGURES:∃ t,mg "MOST_FIGURES"=some (.int 7 t)
 k_MOST_MOSTS:∃ t,mg "MOST_MOSTS"=some (.int 20 t)
 k_MOST_POINTS:∃ t,mg "MOST_POINTS"=some (.int 20 t)
 k_MOST_SAMES:∃ t,mg "MOST_SAMES"=some (.int 20 t)
 k_SMALL_LETTERS:∃ t,mg "SMALL_LETTERS"=some (.str "abcdefghijklmnopqrstuvwxyz" t)
 k_WIDEST_HALF:∃ t,mg "WIDEST_HALF"=some (.int 50 t)
 g_LINES:mg "LINES"=some (.ref a.LINES)
 t_LINES_0_2:∀ H,SqT K H a.LINES_0_2 [.int 0]
 t_LINES_0:∀ H,SqT K H a.LINES_0 [.int 1,.int 0,.ref a.LINES_0_2]
 t_LINES_1_2:∀ H,SqT K H a.LINES_1_2 [.int 1,.int 1]
 t_LINES_1:∀ H,SqT K H a.LINES_1 [.int 2,.int 0,.ref a.LINES_1_2]
 t_LINES_2_2:∀ H,SqT K H a.LINES_2_2 []
 t_LINES_2:∀ H,SqT K H a.LINES_2 [.int 2,.int 0,.ref a.LINES_2_2]
 t_LINES_3_2:∀ H,SqT K H a.LINES_3_2 []
 t_LINES_3:∀ H,SqT K H a.LINES_3 [.int 2,.int 1,.ref a.LINES_3_2]
 kb_str_str:PySem.W.kitOne K (.type "str") (.type "str")=some true
 kb_int_int:PySem.W.kitOne K (.type "int") (.type "int")=some true
 kb_int_bool:PySem.W.kitOne K (.type "int") (.type "bool")=some false
 n_all:mg "all"=none
 n_bool:mg "bool"=none
 n_enumerate:mg "enumerate"=none
 n_int:mg "int"=none
 n_isinstance:mg "isinstance"=none
 n_len:mg "len"=none
 n_list:mg "list"=none
 n_range:mg "range"=none
 n_sorted:mg "sorted"=none
 n_str:mg "str"=none
def zbg (a:Adr):List (Key×V):=[(Sum.inr "point",.ref a.LINES_0),(Sum.inr "arrow",.ref a.LINES_1),(Sum.inr "same",.ref a.LINES_2),(Sum.inr "most",.ref a.LINES_3)]
end K04
namespace K04
open PySem L2
abbrev Kvs:=List (Key×V)
def abc:Str:="abcdefghijklmnopqrstuvwxyz"
def zeZ (c:Nat):Bool:=!(Builtin.Str.occurrences abc ⟨#[c]⟩ 0 abc.length 1).isEmpty
def zaE (n:Str):Bool:=decide (1≤n.length) && decide (n.length≤8) && n.cps.toList.all zeZ
def has (kvs:Kvs) (n:Str):Bool:=(zco kvs (Sum.inr n)).isSome
def zh6 (dh da:Addr) (nn:Int) (ls lm:Addr):List (Str×V):=[("halves",.ref dh),("arrows_by_number",.ref da),("next_number",.int nn),("same_pairs",.ref ls),("most_bounds",.ref lm)]
theorem zg4 {dh da ls lm:Addr}{n m:Int}:zd3 "next_number" (.int m) (zh6 dh da n ls lm)=zh6 dh da m ls lm:=by
 have h1:¬ (("halves":Str)="next_number"):=by decide +kernel
 have h2:¬ (("arrows_by_number":Str)="next_number"):=by decide +kernel
 simp only[zh6,zd3,h1,h2,if_false,if_true]
structure Ar where
 num:Int
 one:Str
 other:Str
 span:Int
 weight:Int
def arV (q:Ar):List V:=[.str q.one,.str q.other,.int q.span,.int q.weight]
def arD (q:Ar):Dt:=.tup [.int q.num,.str q.one,.str q.other,.int q.span,.int q.weight]
def zcO (q:Str×Str):Dt:=.tup [.str q.1,.str q.2]
def zcP (q:Str×Str×Int):Dt:=.tup [.str q.1,.str q.2.1,.int q.2.2]
def ze0 (K:PySem.W.Frag) (H:Hp):List Ar→Kvs→Prop
 | [],kvs=>kvs=[]
 | q::qs,kvs=>∃ t r,kvs=(Sum.inl q.num,.ref t)::r∧SqT K H t (arV q)∧ze0 K H qs r
structure Rec where
 dh:Addr
 da:Addr
 ls:Addr
 lm:Addr
structure zbt where
 kvs:Kvs
 arr:List Ar
 nn:Int
 ss:List (Str×Str)
 mm:List (Str×Str×Int)
structure za4 (K:PySem.W.Frag) (C:Addr) (H:Hp) (p:Addr) (r:Rec) (v:zbt):Prop where
 ex:∃ dx,H p=some (.ins C dx (zh6 r.dh r.da v.nn r.ls r.lm))
 hh:H r.dh=some (.dK v.kvs)
 ha:∃ avs,H r.da=some (.dK avs)∧ze0 K H v.arr avs
 hs:∃ xs,H r.ls=some (.lst xs)∧zbu K H (v.ss.map zcO) xs
 hm:∃ xs,H r.lm=some (.lst xs)∧zbu K H (v.mm.map zcP) xs
 n1:r.da≠r.dh
 n2:r.ls≠r.lm
theorem _root_.L2.Tk.arr {K:PySem.W.Frag}{H H':Hp} (e:Tk H H'):∀ {qs:List Ar}{kvs:Kvs},ze0 K H qs kvs→ze0 K H' qs kvs
 | [],_,h=>h
 | q::qs,_,h=>by
  obtain⟨t,r,e1,h1,h2⟩:=h
  exact⟨t,r,e1,e.sqT h1,e.arr h2⟩
theorem ze0.length {K:PySem.W.Frag}{H:Hp}:∀ {qs:List Ar}{kvs:Kvs},ze0 K H qs kvs→qs.length=kvs.length
 | [],_,h=>by rw[show _=[] from h];rfl
 | q::qs,_,h=>by
  obtain⟨t,r,rfl,h1,h2⟩:=h
  show qs.length + 1=r.length + 1
  rw[h2.length]
theorem ze0.get {K:PySem.W.Frag}{H:Hp}:∀ {qs:List Ar}{kvs:Kvs}{i:Nat}{k:Key}{x:V},ze0 K H qs kvs→kvs[i]?=some (k,x)→∃ q t,qs[i]?=some q∧k=Sum.inl q.num∧x=.ref t∧SqT K H t (arV q)
 | [],_,i,k,x,h,e=>by rw[show _=[] from h] at e;simp at e
 | q::qs,_,i,k,x,h,e=>by
  obtain⟨t,r,rfl,h1,h2⟩:=h
  cases i with
  | zero=>simp at e;exact⟨q,t,rfl,e.1.symm,e.2.symm,h1⟩
  | succ i=>exact h2.get (by simpa using e)
theorem ze0.snoc {K:PySem.W.Frag}{H:Hp}{q:Ar}{t:Addr} (ht:SqT K H t (arV q)):∀ {qs:List Ar}{kvs:Kvs},ze0 K H qs kvs→ze0 K H (qs++[q]) (kvs++[(Sum.inl q.num,.ref t)])
 | [],_,h=>by rw[show _=[] from h];exact⟨t,[],rfl,ht,rfl⟩
 | q'::qs,_,h=>by
  obtain⟨t',r,rfl,h1,h2⟩:=h
  exact⟨t',_,rfl,h1,h2.snoc ht⟩
theorem za4.same {K:PySem.W.Frag}{C:Addr}{H H':Hp}{p:Addr}{r:Rec}{v:zbt} (n:za4 K C H p r v) (e:zan H H'):za4 K C H' p r v:=by
 obtain⟨⟨dx,h1⟩,h2,⟨avs,h3,h4⟩,⟨xs,h5,h6⟩,⟨ys,h7,h8⟩,n1,n2⟩:=n
 exact⟨⟨dx,e _ _ h1⟩,e _ _ h2,⟨avs,e _ _ h3,(Tk.of e).arr h4⟩,⟨xs,e _ _ h5,e.dts h6⟩,⟨ys,e _ _ h7,e.dts h8⟩,n1,n2⟩
def Kp (p:Addr) (r:Rec) (H H':Hp):Prop:=∀ b o,H b=some o→b≠p→b≠r.dh→b≠r.da→b≠r.ls→b≠r.lm→H' b=some o
theorem Kp.of {p:Addr}{r:Rec}{H H':Hp} (e:zan H H'):Kp p r H H':=fun b o h _ _ _ _ _=>e b o h
theorem Kp.trans {p:Addr}{r:Rec}{H H1 H2:Hp} (a:Kp p r H H1) (b:Kp p r H1 H2):Kp p r H H2:=fun c o h z1 z2 z3 z4 z5=>b c o (a c o h z1 z2 z3 z4 z5) z1 z2 z3 z4 z5
theorem Kp.tk {K:PySem.W.Frag}{C:Addr}{p:Addr}{r:Rec}{v:zbt}{H H':Hp} (e:Kp p r H H') (n:za4 K C H p r v):Tk H H':=fun b o h z=>by
 obtain⟨⟨dx,h1⟩,h2,⟨avs,h3,h4⟩,⟨xs,h5,h6⟩,⟨ys,h7,h8⟩,n1,n2⟩:=n
 refine e b o h (fun q=>?_) (fun q=>?_) (fun q=>?_) (fun q=>?_) (fun q=>?_) <;> subst q
 ·rw[h1] at h;cases h;cases z
 ·rw[h2] at h;cases h;cases z
 ·rw[h3] at h;cases h;cases z
 ·rw[h5] at h;cases h;cases z
 ·rw[h7] at h;cases h;cases z
theorem lk0 {a:Str}{v:V}{r:List (Str×V)}:(((a,v)::r):List (Str×V)).lookup a=some v:=by
 rw[List.lookup_cons,beq_self_eq_true]
theorem lk1 {a b:Str}{v:V}{r:List (Str×V)} (h:(a == b)=false):(((b,v)::r):List (Str×V)).lookup a=r.lookup a:=by
 rw[List.lookup_cons,h]
theorem zcF {dh da ls lm:Addr}{n:Int}:(zh6 dh da n ls lm).lookup ("halves":Str)=some (.ref dh):=lk0
theorem zcG {dh da ls lm:Addr}{n:Int}:(zh6 dh da n ls lm).lookup ("arrows_by_number":Str)=some (.ref da):=(lk1 (by decide +kernel)).trans lk0
theorem lk_nn {dh da ls lm:Addr}{n:Int}:(zh6 dh da n ls lm).lookup ("next_number":Str)=some (.int n):=(lk1 (by decide +kernel)).trans ((lk1 (by decide +kernel)).trans lk0)
theorem zfC {dh da ls lm:Addr}{n:Int}:(zh6 dh da n ls lm).lookup ("same_pairs":Str)=some (.ref ls):=(lk1 (by decide +kernel)).trans ((lk1 (by decide +kernel)).trans ((lk1 (by decide +kernel)).trans lk0))
theorem zfD {dh da ls lm:Addr}{n:Int}:(zh6 dh da n ls lm).lookup ("most_bounds":Str)=some (.ref lm):=(lk1 (by decide +kernel)).trans ((lk1 (by decide +kernel)).trans ((lk1 (by decide +kernel)).trans ((lk1 (by decide +kernel)).trans lk0)))
section
variable {P:Program}{w:World}{K:PySem.W.Frag}{mg:Str→Option Value}{base:Heap}{a:Adr}
def zkf:Sp:=fun vs H Q _=>∃ n:Str,vs=[.str n]∧n.length≤1000∧∀ H',zan H H'→Q (.bl (zaE n)) H'
theorem zh7 (T:Tx K mg a):Cal P w K mg base CX0 1 "is_name" ["name"] [] zkf:=T.d_is_name.cal fun f fd F=>by
 refine F.ok zh5 (fun vs H Q E h=>?_) (fun cdv A outer s H vs Q E hr h=>?_)
 ·obtain⟨n,rfl,_⟩:=h
  rfl
 ·obtain⟨n,rfl,hn,k⟩:=h
  have hz:n.length≤sizeLine:=Nat.le_trans hn (by rw[sizeLine_eq];decide)
  refine⟨_,(zac (zaM (PW.pt (zcZ (zbQ (zbn (zar zci rfl T.n_isinstance zbO (zaa (pv 0) (zaa (zhv rfl T.n_str zcR) zad))))) (zcZ (zaq zf0 (zar zbG rfl T.n_len za6 (zaa (pv 0) zad)) zai (zax _)) (zcx (zaq zeU (zar zbG rfl T.n_len za6 (zaa (pv 0) zad)) (zb4 rfl T.k_LONGEST_NAME) (zax _)))))) (zag (zaA zdZ)) zap)
   (zag (zaA (zar zeA rfl T.n_all zi5 (zaa (zbh (N:=["sign"]) (cap:=[none]) rfl (zbd (osc:=zah zeE) (XN:=["name"]) rfl rfl (by decide +kernel)) (zkK (pv 0)) (fun cl C s H fp pins=>(zak (i:=0) (show(["sign"]:List Str).Nodup by decide +kernel) rfl (by first|exact Or.inl rfl|exact Or.inr rfl))) (fun cl C s H fp pins=>zaY) (fun cl C s H fp pins=>(zbo zf1 (pv 0) (ziX rfl T.k_SMALL_LETTERS) (by with_unfolding_all rfl)))) zad))))),?_⟩
  refine⟨_,rfl,_,_,_,_,_,rfl,rfl,.str _,T.kb_str_str,true,rfl,?_⟩
  refine zb6 rfl ?_
  refine⟨_,rfl,_,rfl,hz,_,_,rfl,rfl,_,rfl,?_⟩
  refine zbA (fun c1=>?_) (fun c1=>?_)
  ·have e:zaE n=false:=by
    have:(n.length:Int)<1:=of_decide_eq_true c1
    simp only[zaE,Bool.and_eq_false_iff,decide_eq_false_iff_not]
    exact .inl (.inl (by omega))
   refine ziK ?_
   show Q (.bl false) _
   rw[← e]
   exact k H (zan.refl H)
  ·refine⟨_,rfl,_,rfl,hz,_,_,rfl,rfl,_,rfl,?_⟩
   have h1:1≤n.length:=by
    have:¬ (n.length:Int)<1:=of_decide_eq_false c1
    omega
   refine zbA (fun c2=>?_) (fun c2=>?_)
   ·have e:zaE n=false:=by
     have:(8:Int)<n.length:=of_decide_eq_true c2
     simp only[zaE,Bool.and_eq_false_iff,decide_eq_false_iff_not]
     exact .inl (.inr (by omega))
    show Q (.bl false) _
    rw[← e]
    exact k H (zan.refl H)
   ·have h2:n.length≤8:=by
     have:¬ (8:Int)<n.length:=of_decide_eq_false c2
     omega
    refine⟨_,rfl,n,rfl,fun D hD=>?_⟩
    refine zhw (x:=n) (fun i τ H'=>∃ v,τ=[v]∧zan H H'∧H' D=some (.lst (((n.cps.toList.take i).map zeZ).map V.bl))) ⟨none,rfl,zan.new hD,zab⟩ ?_ ?_
    ·rintro i c τ H' hc ⟨v,rfl,sm,hl⟩
     dsimp only[zaI,zeT]
     rw[if_pos rfl]
     refine⟨_,rfl,_,_,rfl,rfl,_,hl,?_,_,rfl,?_,?_⟩
     ·rw[List.length_map,List.length_map,List.length_take,sizeLine_eq]
      have:n.cps.toList.length=n.length:=by rw[Array.length_toList];rfl
      omega
     ·intro b o e
      rw[zaf (zae e hD)]
      exact sm b o e
     ·have hc':n.cps.toList[i]?=some c:=by rw[Array.getElem?_toList];exact hc
      have ht:n.cps.toList.take (i + 1)=n.cps.toList.take i++[c]:=by
       rw[List.take_add_one,hc']
       rfl
      rw[zab,ht,List.map_append,List.map_append]
      rfl
    ·rintro τ H' ⟨v,rfl,sm,hl⟩
     refine⟨D,(n.cps.toList.take n.cps.size).map zeZ,rfl,SqL.of hl,?_⟩
     have e:(List.map zeZ (n.cps.toList.take n.cps.size)).all id=zaE n:=by
      rw[List.take_of_length_le (by rw[Array.length_toList];exact Nat.le_refl _),List.all_map]
      simp only[zaE,decide_eq_true h1,decide_eq_true h2,Bool.true_and]
      rfl
     rw[e]
     exact k H' sm
def zlu:Sp:=fun vs H Q _=>∃ i,vs=[.int i]∧Q (.bl true) H
theorem zeM (T:Tx K mg a):Cal P w K mg base CX0 1 "is_whole" ["number"] [] zlu:=T.d_is_whole.cal fun f fd F=>by
 refine F.ok zg2 (fun vs H Q E h=>?_) (fun cdv A outer s H vs Q E hr h=>?_)
 ·obtain⟨n,rfl,_⟩:=h
  rfl
 ·obtain⟨i,rfl,q⟩:=h
  refine⟨_,(zag (zaA (zee (zar zci rfl T.n_isinstance zbO (zaa (pv 0) (zaa (zhv rfl T.n_int zi3) zad))) (zed (zkC (zar zci rfl T.n_isinstance zbO (zaa (pv 0) (zaa (zhv rfl T.n_bool zln) zad)))))))),?_⟩
  refine⟨_,rfl,_,_,_,_,_,rfl,rfl,.int _,T.kb_int_int,true,rfl,?_⟩
  refine ziK ?_
  exact⟨_,rfl,_,_,_,_,_,rfl,rfl,.int _,T.kb_int_bool,false,rfl,q⟩
def zlv:Sp:=fun vs H Q _=>∃ i l g,vs=[.int i,.int l,.int g]∧Q (.bl (decide (l≤i) && decide (i≤g))) H
theorem zc7 (T:Tx K mg a):Cal P w K mg base CX0 2 "in_range" ["number","least","greatest"] [] zlv:=T.d_in_range.cal fun f fd F=>by
 have c_is_whole:=zeM (P:=P) (w:=w) (base:=base) T
 refine F.ok zg3 (fun vs H Q E h=>?_) (fun cdv A outer s H vs Q E hr h=>?_)
 ·obtain⟨n,_,_,rfl,_⟩:=h
  rfl
 ·obtain⟨i,l,g,rfl,q⟩:=h
  refine⟨_,(zag (zaA (zee (zaD c_is_whole (hr.mono (by decide)) rfl (zaa (pv 0) zad)) (zee (zbo ziv (pv 0) (pv 1) (zax _)) (zed (zbo op_le (pv 0) (pv 2) (zax _))))))),?_⟩
  refine⟨_,rfl,_,rfl,true,rfl,?_⟩
  refine ziK ?_
  refine⟨_,rfl,_,rfl,_,_,rfl,rfl,_,rfl,?_⟩
  refine zbA (fun c=>?_) (fun c=>?_)
  ·refine⟨_,rfl,_,rfl,_,_,rfl,rfl,?_⟩
   rw[c] at q
   exact q
  ·rw[c] at q
   exact q
inductive Due where
 | name | taken | number | many | done
theorem zkg {H:Hp}{x y:Addr}{o:HO}:upd H x o y=none↔y≠x∧H y=none:=by
 unfold upd
 by_cases h:y=x <;> simp[h]
theorem zgt {H:Hp}{x y:Addr}{o:HO}:upd H x o y=if y=x then some o else H y:=rfl
theorem zkh {dh da ls lm:Addr}:zd3 "most_bounds" (.ref lm) (zd3 "same_pairs" (.ref ls) (zd3 "next_number" (.int 0) (zd3 "arrows_by_number" (.ref da) (zd3 "halves" (.ref dh) []))))=zh6 dh da 0 ls lm:=by
 have h1:¬ (("halves":Str)="arrows_by_number"):=by decide +kernel
 have h2:¬ (("halves":Str)="next_number"):=by decide +kernel
 have h3:¬ (("halves":Str)="same_pairs"):=by decide +kernel
 have h4:¬ (("halves":Str)="most_bounds"):=by decide +kernel
 have h5:¬ (("arrows_by_number":Str)="next_number"):=by decide +kernel
 have h6:¬ (("arrows_by_number":Str)="same_pairs"):=by decide +kernel
 have h7:¬ (("arrows_by_number":Str)="most_bounds"):=by decide +kernel
 have h8:¬ (("next_number":Str)="same_pairs"):=by decide +kernel
 have h9:¬ (("next_number":Str)="most_bounds"):=by decide +kernel
 have h0:¬ (("same_pairs":Str)="most_bounds"):=by decide +kernel
 simp only[zd3,h1,h2,h3,h4,h5,h6,h7,h8,h9,h0,if_false]
 rfl
def emp:zbt:=⟨[],[],0,[],[]⟩
def zjk (K:PySem.W.Frag) (C:Addr):Sp:=fun vs H Q _=>∃ p dx,vs=[.ref p]∧H p=some (.ins C dx [])∧∀ r H',(∀ b o,H b=some o→b≠p→H' b=some o)→(∀ b o,H b=some o→b≠r.dh∧b≠r.da∧b≠r.ls∧b≠r.lm)→za4 K C H' p r emp→Q .non H'
theorem zjl (T:Tx K mg a):CalI P w K mg base CX0 1 a.Net "Net" ["self"] (zjk K a.Net):=T.i_Net.cal fun f fd F=>by
 refine F.ok zeF (fun vs H Q E h=>?_) (fun cdv A outer s H vs Q E hr h=>?_)
 ·obtain⟨p,dx,rfl,_⟩:=h
  rfl
 ·obtain⟨p,dx,rfl,hp,k⟩:=h
  refine⟨_,(zac (ze3 (pv 0) zde rfl)
   (zac (ze3 (pv 0) zde rfl)
   (zac (ze3 (pv 0) zai rfl)
   (zac (ze3 (pv 0) (zbE zad) rfl)
   (zag (ze3 (pv 0) (zbE zad) rfl)))))),?_⟩
  refine fun d1 n1=>⟨_,rfl,p,a.Net,dx,[],rfl,by rw[zaf (zae hp n1)];exact hp,T.c_Net,T.na_Net_halves,by decide,?_⟩
  refine fun d2 n2=>⟨_,rfl,p,a.Net,dx,_,rfl,by rw[zaf (zae zab n2)];exact zab,T.c_Net,T.na_Net_arrows_by_number,by show 1<1000;decide,?_⟩
  refine⟨_,rfl,p,a.Net,dx,_,rfl,zab,T.c_Net,T.na_Net_next_number,by show 2<1000;decide,?_⟩
  refine⟨by show 0≤sizeLine;decide,fun l1 n3=>⟨_,rfl,p,a.Net,dx,_,rfl,by rw[zaf (zae zab n3)];exact zab,T.c_Net,T.na_Net_same_pairs,by show 3<1000;decide,?_⟩⟩
  refine⟨by show 0≤sizeLine;decide,fun l2 n4=>⟨_,rfl,p,a.Net,dx,_,rfl,by rw[zaf (zae zab n4)];exact zab,T.c_Net,T.na_Net_most_bounds,by show 4<1000;decide,?_⟩⟩
  have p1:p≠d1:=zae hp n1
  simp only[zkg] at n2 n3 n4
  show Q .non _
  rw[zkh]
  have ne:∀ b o,H b=some o→∀ c,H c=none→b≠c:=fun b o e c h z=>by rw[z,h] at e;cases e
  refine k ⟨d1,d2,l1,l2⟩ _ (fun b o e hb=>?_) (fun b o e=>⟨ne b o e _ n1,ne b o e _ n2.2.2,ne b o e _ n3.2.2.2.2.2,ne b o e _ n4.2.2.2.2.2.2.2⟩) ⟨⟨dx,zab⟩,?_,⟨[],?_,rfl⟩,⟨[],?_,rfl⟩,⟨[],?_,rfl⟩,n2.2.1,Ne.symm n4.2.1⟩
  ·simp[zgt,hb,ne b o e _ n1,ne b o e _ n2.2.2,ne b o e _ n3.2.2.2.2.2,ne b o e _ n4.2.2.2.2.2.2.2,e]
  ·show _=some (HO.dK [])
   simp[zgt,Ne.symm p1,Ne.symm n2.2.1,Ne.symm n3.2.2.2.2.1,Ne.symm n4.2.2.2.2.2.2.1]
  ·simp[zgt,n2,Ne.symm n3.2.2.1,Ne.symm n4.2.2.2.2.1]
  ·simp[zgt,n3,Ne.symm n4.2.1]
  ·simp[zgt,n4]
def zg5 (C:Addr) (f:Str):Sp:=fun vs H Q _=>∃ x t y,vs=[.ref x,y]∧H x=some (zid C t x none)∧∀ dx,H dx=none→Q .non (upd (upd H dx (.xd [(f,y)])) x (zid C t x (some dx)))
theorem zh8 (T:Tx K mg a):ziV P w K mg base CX0 1 a.NoPoint "NoPoint" ["self","name"] (zg5 a.NoPoint "name"):=T.xi_NoPoint.cal fun f fd F=>by
 refine F.ok zc4 (fun vs H Q E h=>?_) (fun cdv A outer s H vs Q E hr h=>?_)
 ·obtain⟨x,t,y,rfl,_⟩:=h
  rfl
 ·obtain⟨x,t,y,rfl,hx,k⟩:=h
  refine⟨_,(zag (zgY (pv 0) (pv 1) rfl)),?_⟩
  exact⟨_,rfl,_,rfl,x,a.NoPoint,t,rfl,hx,T.xs_NoPoint_name,fun dx nd=>k dx nd⟩
def zc3 (kvs:Kvs):List V:=kvs.map fun kv=>kV kv.1
def zki (K:PySem.W.Frag) (C:Addr):Sp:=fun vs H Q _=>∃ p r v,vs=[.ref p]∧za4 K C H p r v∧∀ l,H l=none→Q (.ref l) (upd H l (.lst (zc3 v.kvs)))
theorem zdp (T:Tx K mg a):zgH P w K mg base CX0 1 a.Net "points" ["self"] [] (zki K a.Net):=T.m_Net_points.cal fun f fd F=>by
 refine F.ok zfy (fun vs H Q E h=>?_) (fun cdv A outer s H vs Q E hr h=>?_)
 ·obtain⟨p,r,v,rfl,_⟩:=h
  rfl
 ·obtain⟨p,r,v,rfl,N,k⟩:=h
  obtain⟨dx,hp⟩:=N.ex
  refine⟨_,(zag (zaA (za2 zh4 rfl T.n_list zi4 (zaa (zbD (pv 0) rfl) zad)))),?_⟩
  exact⟨_,rfl,p,a.Net,dx,_,_,rfl,hp,T.c_Net,T.na_Net_halves,zcF,r.dh,v.kvs,rfl,N.hh,fun l hl=>k l hl⟩
inductive Er where
 | name | taken | point (n:Str) | alone | number | many | such (i:Int)
def zeN (a:Adr) (E:XK):Er→Hp→Prop
 | .name,H=>E (.ref a.NoName) none H
 | .taken,H=>E (.ref a.Taken) none H
 | .point n,H=>∀ dx,H dx=some (.xd [("name",.str n)])→E (.ref a.NoPoint) (some dx) H
 | .alone,H=>E (.ref a.Alone) none H
 | .number,H=>E (.ref a.NoNumber) none H
 | .many,H=>E (.ref a.TooMany) none H
 | .such i,H=>∀ dx,H dx=some (.xd [("number",.int i)])→E (.ref a.NoSuch) (some dx) H
def zaW (kvs:Kvs) (n:Str) (h:Int):Option Er:=
 if zaE n=false then some .name else if has kvs n=true then some .taken else if h<0∨50<h then some .number else if 20≤kvs.length then some .many else none
def zlw (K:PySem.W.Frag) (a:Adr):Sp:=fun vs H Q E=>∃ p r v n h,vs=[.ref p,.str n,.int h]∧n.length≤1000∧za4 K a.Net H p r v∧v.kvs.length≤1000 ∧
 (∀ er,zaW v.kvs n h=some er→∀ H',zan H H'→zeN a E er H')∧(zaW v.kvs n h=none→∀ H',Kp p r H H'→za4 K a.Net H' p r { v with kvs:=v.kvs++[(Sum.inr n,.int h)] }→Q .non H')
theorem zeO (T:Tx K mg a) (f:Addr) (fd:FuncData) (F:zgG K "put_point" "Net.put_point" zbq f fd):zdN P w K mg base (CXe P w) 3 f fd ["self","name","half"] (zlw K a):=by
 have c_is_name:=zh7 (P:=P) (w:=w) (base:=base) T
 have c_in_range:=zc7 (P:=P) (w:=w) (base:=base) T
 refine F.okX zd2 (fun vs H Q E h=>?_) (fun cdv A outer s H vs Q E hr h=>?_)
 ·obtain⟨p,r,v,n,h,rfl,_⟩:=h
  rfl
 ·obtain⟨p,r,v,n,h,rfl,hn,N,hk,k1,k2⟩:=h
  refine⟨_,(zac (zaM (zbQ (zbn (zaD c_is_name (hr.mono (by decide)) rfl (zaa (pv 1) zad)))) (zag (zbe zaJ T.x_NoName rfl T.g_NoName)) zap)
   (zac (zaM (zil (pc_din (zcL hr) (pv 1) (zbD (pv 0) rfl))) (zag (zbe zaJ T.x_Taken rfl T.g_Taken)) zap)
   (zac (zaM (zbQ (zbn (zaD c_in_range (hr.mono (by decide)) rfl (zaa (pv 2) (zaa zai (zaa (zb4 rfl T.k_WIDEST_HALF) zad)))))) (zag (zbe zaJ T.x_NoNumber rfl T.g_NoNumber)) zap)
   (zac (zaM (zaq ziv (zar zer rfl T.n_len za6 (zaa (zbD (pv 0) rfl) zad)) (zb4 rfl T.k_MOST_POINTS) (zax _)) (zag (zbe zaJ T.x_TooMany rfl T.g_TooMany)) zap)
   (zag (zfp (zcL hr) (zbD (pv 0) rfl) (pv 1) (pv 2) rfl)))))),?_⟩
  refine⟨_,rfl,n,rfl,hn,fun H1 s1=>⟨_,rfl,?_⟩⟩
  have N1:=N.same s1
  obtain⟨dx,hp⟩:=N1.ex
  refine zbA (fun c=>?_) (fun c=>?_)
  ·have c':zaE n=false:=by simpa using c
   exact⟨by show 0≤sizeLine;decide,k1 .name (by simp only[zaW,if_pos c']) H1 s1⟩
  have c1:¬ zaE n=false:=by
   have:zaE n=true:=by simpa using c
   rw[this];decide
  refine⟨_,rfl,_,rfl,p,a.Net,dx,_,_,rfl,hp,T.c_Net,T.na_Net_halves,zcF,r.dh,_,rfl,zgF.k (k:=Sum.inr n) N1.hh,_,rfl,?_⟩
  refine zbA (fun c=>?_) (fun c=>?_)
  ·have c':has v.kvs n=true:=c
   exact⟨by show 0≤sizeLine;decide,k1 .taken (by simp only[zaW,if_neg c1,if_pos c']) H1 s1⟩
  have c2:¬ has v.kvs n=true:=by rw[show has v.kvs n=false from c];decide
  refine⟨_,rfl,h,0,50,rfl,_,rfl,?_⟩
  refine zbA (fun c=>?_) (fun c=>?_)
  ·have c':h<0∨50<h:=by
    simp only[Bool.not_eq_true',Bool.and_eq_false_iff,decide_eq_false_iff_not] at c
    omega
   exact⟨by show 0≤sizeLine;decide,k1 .number (by simp only[zaW,if_neg c1,if_neg c2,if_pos c']) H1 s1⟩
  have c3:¬ (h<0∨50<h):=by
   simp only[Bool.not_eq_false',Bool.and_eq_true,decide_eq_true_eq] at c
   omega
  refine⟨_,rfl,p,a.Net,dx,_,_,rfl,hp,T.c_Net,T.na_Net_halves,zcF,r.dh,v.kvs,rfl,N1.hh,_,_,rfl,rfl,_,rfl,?_⟩
  refine zbA (fun c=>?_) (fun c=>?_)
  ·have c':20≤v.kvs.length:=by
    have:(20:Int)≤v.kvs.length:=of_decide_eq_true c
    omega
   exact⟨by show 0≤sizeLine;decide,k1 .many (by simp only[zaW,if_neg c1,if_neg c2,if_neg c3,if_pos c']) H1 s1⟩
  have c4:¬ 20≤v.kvs.length:=by
   have:¬ (20:Int)≤v.kvs.length:=of_decide_eq_false c
   omega
  refine⟨_,rfl,_,rfl,p,a.Net,dx,_,_,rfl,hp,T.c_Net,T.na_Net_halves,zcF,_,rfl,r.dh,_,rfl,zkG.k (k:=Sum.inr n) N1.hh (by rw[sizeLine_eq];omega),?_⟩
  show Q .non _
  have e:zco v.kvs (Sum.inr n)=none:=by
   have:(zco v.kvs (Sum.inr n)).isSome=false:=c2 |> fun z=>by simpa [has] using z
   simpa using this
  rw[zd4 (.int h) e]
  refine k2 (by simp only[zaW,if_neg c1,if_neg c2,if_neg c3,if_neg c4]) _ (fun b o q _ z2 _ _ _=>by rw[zaf z2];exact s1 _ _ q) ?_
  obtain⟨_,h2,⟨avs,h3,h4⟩,⟨xs,h5,h6⟩,⟨ys,h7,h8⟩,n1,n2⟩:=N1
  have tk:Tk H1 (upd H1 r.dh (.dK (v.kvs++[(Sum.inr n,.int h)]))):=Tk.upd h2 rfl
  exact⟨⟨dx,by rw[zaf (zbC hp h2 (by intro z;cases z))];exact hp⟩,zab,⟨avs,by rw[zaf n1];exact h3,tk.arr h4⟩,⟨xs,by rw[zaf (zbC h5 h2 (by intro z;cases z))];exact h5,tk.dts (zal (fun _=>rfl) _) h6⟩,
   ⟨ys,by rw[zaf (zbC h7 h2 (by intro z;cases z))];exact h7,tk.dts (zal (fun _=>rfl) _) h8⟩,n1,n2⟩
theorem zkN (T:Tx K mg a):zgH P w K mg base (CXe P w) 3 a.Net "put_point" ["self","name","half"] [] (zlw K a):=T.m_Net_put_point.cal fun f fd F=>zeO T f fd F
def spNeed (K:PySem.W.Frag) (a:Adr):Sp:=fun vs H Q E=>∃ p r v n,vs=[.ref p,.str n]∧za4 K a.Net H p r v∧(has v.kvs n=true→∀ H',zan H H'→Q .non H') ∧
 (has v.kvs n=false→∀ H',zan H H'→zeN a E (.point n) H')
theorem zhB (n:Str):∀ kvs:Kvs,inV (.str n) (zc3 kvs)=has kvs n
 | []=>rfl
 | (k,v)::r=>by
  have ih:=zhB n r
  show(eqV (kV k) (.str n) || inV (.str n) (zc3 r))=has ((k,v)::r) n
  rw[ih]
  cases k with
  | inl i=>
   have:¬ (Sum.inl i:Key)=Sum.inr n:=by intro z;cases z
   unfold has
   rw[za0 (p:=(Sum.inl i,v)) this]
   rfl
  | inr m=>
   by_cases h:m=n
   ·subst h
    unfold has
    rw[zbp (p:=(Sum.inr m,v)) rfl]
    simp[kV,eqV]
   ·have:¬ (Sum.inr m:Key)=Sum.inr n:=by intro z;cases z;exact h rfl
    unfold has
    rw[za0 (p:=(Sum.inr m,v)) this]
    simp[kV,eqV,h]
theorem zgu:∀ kvs:Kvs,(zc3 kvs).all zd1=true
 | []=>rfl
 | (k,v)::r=>by
  show(zd1 (kV k) && (zc3 r).all zd1)=true
  rw[zgu r]
  cases k <;> rfl
theorem zjm (T:Tx K mg a):zgH P w K mg base (CXe P w) 3 a.Net "need_point" ["self","name"] [] (spNeed K a):=T.m_Net_need_point.cal fun f fd F=>by
 have m_Net_points:=zdp (P:=P) (w:=w) (base:=base) T
 have x_NoPoint:=zh8 (P:=P) (w:=w) (base:=base) T
 refine F.okX zdI (fun vs H Q E h=>?_) (fun cdv A outer s H vs Q E hr h=>?_)
 ·obtain⟨p,r,v,n,rfl,_⟩:=h
  rfl
 ·obtain⟨p,r,v,n,rfl,N,k1,k2⟩:=h
  obtain⟨dx,hp⟩:=N.ex
  refine⟨_,(zag (zaM (zaq zf8 (pv 1) (za1 (pv 0) T.c_Net m_Net_points (hr.mono (by decide))) (by with_unfolding_all rfl)) (zag (zcD zaJ x_NoPoint (hr.mono (by decide)) rfl (zaa (pv 1) zad))) zap)),?_⟩
  refine⟨_,rfl,_,rfl,p,dx,_,rfl,hp,by rfl,p,r,v,rfl,N,fun l hl=>⟨l,_,rfl,.inl (SqL.of zab),rfl,zgu v.kvs,_,rfl,?_⟩⟩
  rw[zhB]
  refine zbA (fun c=>?_) (fun c=>?_)
  ·have c':has v.kvs n=false:=by simpa using c
   refine⟨_,rfl,by show 1≤sizeLine;decide,fun x t hx=>⟨x,t,_,rfl,zab,fun d nd=>⟨rfl,some d,zab,?_⟩⟩⟩
   have xd:d≠x:=fun z=>by rw[z,zab] at nd;cases nd
   have e:del (upd (upd (upd (upd H l (.lst (zc3 v.kvs))) x (zid a.NoPoint t x none)) d (.xd [("name",.str n)])) x (zid a.NoPoint t x (some d))) x=upd (upd H l (.lst (zc3 v.kvs))) d (.xd [("name",.str n)]):=by
    funext b
    unfold del
    by_cases h1:b=x
    ·subst h1
     rw[if_pos rfl,zaf (Ne.symm xd),hx]
    ·rw[if_neg h1,zaf h1]
     by_cases h2:b=d
     ·subst h2;rw[zab,zab]
     ·rw[zaf h2,zaf h1,zaf h2]
   show E _ _ _
   rw[e]
   have nd':upd H l (.lst (zc3 v.kvs)) d=none:=by rw[zaf xd] at nd;exact nd
   exact k2 c' _ ((zan.new hl).trans (zan.new nd')) d zab
  ·have c':has v.kvs n=true:=by simpa using c
   exact k1 c' _ (zan.new hl)
end
end K04
namespace K04
open PySem L2
section
variable {P:Program}{w:World}{K:PySem.W.Frag}{mg:Str→Option Value}{base:Heap}{a:Adr}
theorem zfE {H:Hp}{q:Addr}{o t:Str} (h:SqT K H q [.str o,.str t]):DtV K H (zcO (o,t)) (.ref q):=⟨q,_,rfl,h,_,_,rfl,rfl,_,_,rfl,rfl,rfl⟩
theorem zfF {H:Hp}{q:Addr}{o t:Str}{n:Int} (h:SqT K H q [.str o,.str t,.int n]):DtV K H (zcP (o,t,n)) (.ref q):=⟨q,_,rfl,h,_,_,rfl,rfl,_,_,rfl,rfl,_,_,rfl,rfl,rfl⟩
theorem dt_ar {H:Hp}{q:Addr}{x:Ar} (h:SqT K H q (.int x.num::arV x)):DtV K H (arD x) (.ref q):=⟨q,_,rfl,h,_,_,rfl,rfl,_,_,rfl,rfl,_,_,rfl,rfl,_,_,rfl,rfl,_,_,rfl,rfl,rfl⟩
theorem zlx {H:Hp}{x:V}{o t:Str} (h:DtV K H (zcO (o,t)) x):∃ q,x=.ref q∧SqT K H q [.str o,.str t]:=by
 obtain⟨q,xs,rfl,h1,y1,ys1,rfl,rfl,y2,ys2,rfl,rfl,h2⟩:=h
 rw[show ys2=[] from h2] at h1
 exact⟨q,rfl,h1⟩
theorem zly {H:Hp}{x:V}{o t:Str}{n:Int} (h:DtV K H (zcP (o,t,n)) x):∃ q,x=.ref q∧SqT K H q [.str o,.str t,.int n]:=by
 obtain⟨q,xs,rfl,h1,y1,ys1,rfl,rfl,y2,ys2,rfl,rfl,y3,ys3,rfl,rfl,h2⟩:=h
 rw[show ys3=[] from h2] at h1
 exact⟨q,rfl,h1⟩
def two (kvs:Kvs) (o t:Str):Option Er:=
 if has kvs o=false then some (.point o) else if has kvs t=false then some (.point t) else if o=t then some .alone else none
def spTwo (K:PySem.W.Frag) (a:Adr):Sp:=fun vs H Q E=>∃ p r v o t,vs=[.ref p,.str o,.str t]∧za4 K a.Net H p r v∧(two v.kvs o t=none→∀ H',zan H H'→Q .non H') ∧
 (∀ er,two v.kvs o t=some er→∀ H',zan H H'→zeN a E er H')
theorem zjn (T:Tx K mg a):zgH P w K mg base (CXe P w) 4 a.Net "need_two_points" ["self","one","other"] [] (spTwo K a):=T.m_Net_need_two_points.cal fun f fd F=>by
 have m_Net_need_point:=zjm (P:=P) (w:=w) (base:=base) T
 refine F.okX zcu (fun vs H Q E h=>?_) (fun cdv A outer s H vs Q E hr h=>?_)
 ·obtain⟨p,r,v,o,t,rfl,_⟩:=h
  rfl
 ·obtain⟨p,r,v,o,t,rfl,N,k1,k2⟩:=h
  obtain⟨dx,hp⟩:=N.ex
  refine⟨_,(zac (zaC (zaK (pv 0) T.c_Net m_Net_need_point zaJ (hr.mono (by decide)) (zaa (pv 1) zad)))
   (zac (zaC (zaK (pv 0) T.c_Net m_Net_need_point zaJ (hr.mono (by decide)) (zaa (pv 2) zad)))
   (zag (zaM (zaq zd0 (pv 1) (pv 2) (zax _)) (zag (zbe zaJ T.x_Alone rfl T.g_Alone)) zap)))),?_⟩
  refine⟨_,rfl,p,dx,_,rfl,hp,by rfl,_,rfl,p,r,v,o,rfl,N,fun c1 H1 s1=>?_,fun c=>k2 _ (by simp only[two,if_pos c])⟩
  have c1':¬ has v.kvs o=false:=by rw[c1];decide
  refine⟨_,rfl,p,dx,_,rfl,s1 _ _ hp,by rfl,_,rfl,p,r,v,t,rfl,N.same s1,fun c2 H2 s2=>?_,fun c H2 s2=>k2 _ (by simp only[two,if_neg c1',if_pos c]) H2 (s1.trans s2)⟩
  have c2':¬ has v.kvs t=false:=by rw[c2];decide
  refine⟨_,rfl,_,rfl,rfl,_,rfl,?_⟩
  refine zbA (fun c=>?_) (fun c=>?_)
  ·have c3:o=t:=by simpa using c
   exact⟨by show 0≤sizeLine;decide,k2 .alone (by simp only[two,if_neg c1',if_neg c2',if_pos c3]) H2 (s1.trans s2)⟩
  ·have c3:¬ o=t:=by simpa using c
   exact k1 (by simp only[two,if_neg c1',if_neg c2',if_neg c3]) H2 (s1.trans s2)
def bad:Option Int→Bool
 | none=>false
 | some n=>decide (n<0) || decide (99<n)
def lim (kvs:Kvs) (m:Nat) (o t:Str) (nh:Option Int):Option Er:=
 match two kvs o t with
 | some er=>some er
 | none=>if bad nh=true then some .number else if 20≤m then some .many else none
theorem zjo {kvs:Kvs}{m:Nat}{o t:Str}{nh:Option Int}{er:Er} (h:two kvs o t=some er):lim kvs m o t nh=some er:=by unfold lim;rw[h]
theorem zcK {kvs:Kvs}{m:Nat}{o t:Str}{nh:Option Int} (h:two kvs o t=none):lim kvs m o t nh=if bad nh=true then some .number else if 20≤m then some .many else none:=by unfold lim;rw[h]
def spSame (K:PySem.W.Frag) (a:Adr):Sp:=fun vs H Q E=>∃ p r v o t,vs=[.ref p,.str o,.str t]∧za4 K a.Net H p r v∧v.ss.length≤1000 ∧
 (lim v.kvs v.ss.length o t none=none→∀ H',Kp p r H H'→za4 K a.Net H' p r { v with ss:=v.ss++[(o,t)] }→Q .non H') ∧
 (∀ er,lim v.kvs v.ss.length o t none=some er→∀ H',zan H H'→zeN a E er H')
theorem zjp (T:Tx K mg a):zgH P w K mg base (CXe P w) 5 a.Net "put_same" ["self","one","other"] [] (spSame K a):=T.m_Net_put_same.cal fun f fd F=>by
 have m_Net_need_two_points:=zjn (P:=P) (w:=w) (base:=base) T
 refine F.okX zeG (fun vs H Q E h=>?_) (fun cdv A outer s H vs Q E hr h=>?_)
 ·obtain⟨p,r,v,o,t,rfl,_⟩:=h
  rfl
 ·obtain⟨p,r,v,o,t,rfl,N,hk,k1,k2⟩:=h
  obtain⟨dx,hp⟩:=N.ex
  refine⟨_,(zac (zaC (zaK (pv 0) T.c_Net m_Net_need_two_points zaJ (hr.mono (by decide)) (zaa (pv 1) (zaa (pv 2) zad))))
   (zac (zaM (zaq ziv (zar zay rfl T.n_len za6 (zaa (zbD (pv 0) rfl) zad)) (zb4 rfl T.k_MOST_SAMES) (zax _)) (zag (zbe zaJ T.x_TooMany rfl T.g_TooMany)) zap)
   (zag (zaC (zbN PySem.F.plainAttrs_list PySem.F.slot_list_append PySem.F.type_list_append zaQ (zbD (pv 0) rfl) (zaa (zbv (zaa (pv 1) (zaa (pv 2) zad))) zad)))))),?_⟩
  refine⟨_,rfl,p,dx,_,rfl,hp,by rfl,_,rfl,_,rfl,p,r,v,o,t,rfl,N,fun c1 H1 s1=>?_,fun er c=>k2 er (zjo c)⟩
  rw[zcK c1] at k1 k2
  have N1:=N.same s1
  obtain⟨xs,h5,h6⟩:=N1.hs
  have hp1:=s1 _ _ hp
  have hl:xs.length=v.ss.length:=by rw[← h6.length,List.length_map]
  refine⟨_,rfl,p,a.Net,dx,_,_,rfl,hp1,T.c_Net,T.na_Net_same_pairs,zfC,r.ls,xs,rfl,.inl (SqL.of h5),_,_,rfl,rfl,_,rfl,?_⟩
  refine zbA (fun c=>?_) (fun c=>?_)
  ·have c':20≤v.ss.length:=by
    have:(20:Int)≤xs.length:=of_decide_eq_true c
    omega
   exact⟨by show 0≤sizeLine;decide,k2 .many (by rw[if_neg (show ¬ bad none=true by decide),if_pos c']) H1 s1⟩
  have c':¬ 20≤v.ss.length:=by
   have:¬ (20:Int)≤xs.length:=of_decide_eq_false c
   omega
  refine⟨_,rfl,p,a.Net,dx,_,_,rfl,hp1,T.c_Net,T.na_Net_same_pairs,zfC,.inl ⟨rfl,_,SqL.of h5⟩,_,rfl,_,rfl,(by show 2≤sizeLine;decide),fun q nq=>?_⟩
  have s2:zan H1 (upd H1 q (.tup [.str o,.str t])):=zan.new nq
  have hq:SqT K (upd H1 q (.tup [.str o,.str t])) q [.str o,.str t]:=SqT.of zab
  generalize upd H1 q (.tup [.str o,.str t])=H2 at s2 hq ⊢
  refine⟨r.ls,xs,_,rfl,rfl,s2 _ _ h5,by rw[sizeLine_eq];omega,?_⟩
  refine k1 (by rw[if_neg (show ¬ bad none=true by decide),if_neg c']) _ (fun b u e _ _ _ z4 _=>by rw[zaf z4];exact s2 _ _ (s1 _ _ e)) ?_
  obtain⟨⟨dx2,hp2⟩,h2,⟨avs,h3,h4⟩,⟨xs2,h52,h62⟩,⟨ys,h7,h8⟩,n1,n2⟩:=N1.same s2
  have tk:Tk H2 (upd H2 r.ls (.lst (xs++[.ref q]))):=Tk.upd h52 rfl
  exact⟨⟨dx2,by rw[zaf (zbC hp2 h52 (by intro z;cases z))];exact hp2⟩,by rw[zaf (zbC h2 h52 (by intro z;cases z))];exact h2,⟨avs,by rw[zaf (zbC h3 h52 (by intro z;cases z))];exact h3,tk.arr h4⟩,
   ⟨_,zab,by rw[List.map_append];exact zbu.snoc (zfE (tk.sqT hq)) (tk.dts (zal (fun _=>rfl) _) (s2.dts h6))⟩,⟨ys,by rw[zaf (Ne.symm n2)];exact h7,tk.dts (zal (fun _=>rfl) _) h8⟩,n1,n2⟩
def spMost (K:PySem.W.Frag) (a:Adr):Sp:=fun vs H Q E=>∃ p r v o t n,vs=[.ref p,.str o,.str t,.int n]∧za4 K a.Net H p r v∧v.mm.length≤1000 ∧
 (lim v.kvs v.mm.length o t (some n)=none→∀ H',Kp p r H H'→za4 K a.Net H' p r { v with mm:=v.mm++[(o,t,n)] }→Q .non H') ∧
 (∀ er,lim v.kvs v.mm.length o t (some n)=some er→∀ H',zan H H'→zeN a E er H')
theorem zjq (T:Tx K mg a):zgH P w K mg base (CXe P w) 5 a.Net "put_most" ["self","one","other","number"] [] (spMost K a):=T.m_Net_put_most.cal fun f fd F=>by
 have m_Net_need_two_points:=zjn (P:=P) (w:=w) (base:=base) T
 have c_in_range:=zc7 (P:=P) (w:=w) (base:=base) T
 refine F.okX zeH (fun vs H Q E h=>?_) (fun cdv A outer s H vs Q E hr h=>?_)
 ·obtain⟨p,r,v,o,t,n,rfl,_⟩:=h
  rfl
 ·obtain⟨p,r,v,o,t,n,rfl,N,hk,k1,k2⟩:=h
  obtain⟨dx,hp⟩:=N.ex
  refine⟨_,(zac (zaC (zaK (pv 0) T.c_Net m_Net_need_two_points zaJ (hr.mono (by decide)) (zaa (pv 1) (zaa (pv 2) zad))))
   (zac (zaM (zbQ (zbn (zaD c_in_range (hr.mono (by decide)) rfl (zaa (pv 3) (zaa zai (zaa (zb4 rfl T.k_GREATEST_MOST) zad)))))) (zag (zbe zaJ T.x_NoNumber rfl T.g_NoNumber)) zap)
   (zac (zaM (zaq ziv (zar zay rfl T.n_len za6 (zaa (zbD (pv 0) rfl) zad)) (zb4 rfl T.k_MOST_MOSTS) (zax _)) (zag (zbe zaJ T.x_TooMany rfl T.g_TooMany)) zap)
   (zag (zaC (zbN PySem.F.plainAttrs_list PySem.F.slot_list_append PySem.F.type_list_append zaQ (zbD (pv 0) rfl) (zaa (zbv (zaa (pv 1) (zaa (pv 2) (zaa (pv 3) zad)))) zad))))))),?_⟩
  refine⟨_,rfl,p,dx,_,rfl,hp,by rfl,_,rfl,_,rfl,p,r,v,o,t,rfl,N,fun c1 H1 s1=>?_,fun er c=>k2 er (zjo c)⟩
  rw[zcK c1] at k1 k2
  have N1:=N.same s1
  obtain⟨xs,h5,h6⟩:=N1.hm
  have hp1:=s1 _ _ hp
  have hl:xs.length=v.mm.length:=by rw[← h6.length,List.length_map]
  refine⟨_,rfl,n,0,99,rfl,_,rfl,?_⟩
  refine zbA (fun c=>?_) (fun c=>?_)
  ·have c':bad (some n)=true:=by
    simp only[Bool.not_eq_true',Bool.and_eq_false_iff,decide_eq_false_iff_not] at c
    simp only[bad,Bool.or_eq_true,decide_eq_true_eq]
    omega
   exact⟨by show 0≤sizeLine;decide,k2 .number (by rw[if_pos c']) H1 s1⟩
  have c3:¬ bad (some n)=true:=by
   simp only[Bool.not_eq_false',Bool.and_eq_true,decide_eq_true_eq] at c
   simp only[bad,Bool.or_eq_true,decide_eq_true_eq]
   omega
  rw[if_neg c3] at k1 k2
  refine⟨_,rfl,p,a.Net,dx,_,_,rfl,hp1,T.c_Net,T.na_Net_most_bounds,zfD,r.lm,xs,rfl,.inl (SqL.of h5),_,_,rfl,rfl,_,rfl,?_⟩
  refine zbA (fun c=>?_) (fun c=>?_)
  ·have c':20≤v.mm.length:=by
    have:(20:Int)≤xs.length:=of_decide_eq_true c
    omega
   exact⟨by show 0≤sizeLine;decide,k2 .many (by rw[if_pos c']) H1 s1⟩
  have c':¬ 20≤v.mm.length:=by
   have:¬ (20:Int)≤xs.length:=of_decide_eq_false c
   omega
  refine⟨_,rfl,p,a.Net,dx,_,_,rfl,hp1,T.c_Net,T.na_Net_most_bounds,zfD,.inl ⟨rfl,_,SqL.of h5⟩,_,rfl,_,rfl,_,rfl,(by show 3≤sizeLine;decide),fun q nq=>?_⟩
  have s2:zan H1 (upd H1 q (.tup [.str o,.str t,.int n])):=zan.new nq
  have hq:SqT K (upd H1 q (.tup [.str o,.str t,.int n])) q [.str o,.str t,.int n]:=SqT.of zab
  generalize upd H1 q (.tup [.str o,.str t,.int n])=H2 at s2 hq ⊢
  refine⟨r.lm,xs,_,rfl,rfl,s2 _ _ h5,by rw[sizeLine_eq];omega,?_⟩
  refine k1 (by rw[if_neg c']) _ (fun b u e _ _ _ _ z5=>by rw[zaf z5];exact s2 _ _ (s1 _ _ e)) ?_
  obtain⟨⟨dx2,hp2⟩,h2,⟨avs,h3,h4⟩,⟨ys,h7,h8⟩,⟨xs2,h52,h62⟩,n1,n2⟩:=N1.same s2
  have tk:Tk H2 (upd H2 r.lm (.lst (xs++[.ref q]))):=Tk.upd h52 rfl
  exact⟨⟨dx2,by rw[zaf (zbC hp2 h52 (by intro z;cases z))];exact hp2⟩,by rw[zaf (zbC h2 h52 (by intro z;cases z))];exact h2,⟨avs,by rw[zaf (zbC h3 h52 (by intro z;cases z))];exact h3,tk.arr h4⟩,
   ⟨ys,by rw[zaf n2];exact h7,tk.dts (zal (fun _=>rfl) _) h8⟩,⟨_,zab,by rw[List.map_append];exact zbu.snoc (zfF (tk.sqT hq)) (tk.dts (zal (fun _=>rfl) _) (s2.dts h6))⟩,n1,n2⟩
def zcY (v:zbt) (o t:Str) (sp wt:Int):Option Er:=
 match two v.kvs o t with
 | some er=>some er
 | none=>if (sp<1∨20<sp)∨(wt<1∨1000000<wt) then some .number else if 40≤v.arr.length then some .many else none
theorem zlz {v:zbt}{o t:Str}{sp wt:Int}{er:Er} (h:two v.kvs o t=some er):zcY v o t sp wt=some er:=by unfold zcY;rw[h]
theorem zfG {v:zbt}{o t:Str}{sp wt:Int} (h:two v.kvs o t=none):zcY v o t sp wt=if (sp<1∨20<sp)∨(wt<1∨1000000<wt) then some .number else if 40≤v.arr.length then some .many else none:=by unfold zcY;rw[h]
def zjr (K:PySem.W.Frag) (a:Adr):Sp:=fun vs H Q E=>∃ p r v o t sp wt,vs=[.ref p,.str o,.str t,.int sp,.int wt]∧za4 K a.Net H p r v∧v.arr.length≤1000∧(∀ q∈v.arr,q.num<v.nn) ∧
 (zcY v o t sp wt=none→∀ H',Kp p r H H'→za4 K a.Net H' p r { v with arr:=v.arr++[⟨v.nn,o,t,sp,wt⟩],nn:=v.nn + 1 }→Q (.int v.nn) H') ∧
 (∀ er,zcY v o t sp wt=some er→∀ H',zan H H'→zeN a E er H')
theorem zg6 {H:Hp}{n:Int}:∀ {qs:List Ar}{kvs:Kvs},ze0 K H qs kvs→(∀ q∈qs,q.num<n)→zco kvs (Sum.inl n)=none
 | [],_,h,_=>by rw[show _=[] from h];rfl
 | q::qs,_,h,l=>by
  obtain⟨t,r,rfl,h1,h2⟩:=h
  have ne:¬ (Sum.inl q.num:Key)=Sum.inl n:=fun z=>by
   have:=l q List.mem_cons_self
   cases z
   omega
  rw[za0 (p:=(Sum.inl q.num,V.ref t)) ne]
  exact zg6 h2 fun q' hq'=>l q' (List.mem_cons_of_mem _ hq')
theorem zfH (T:Tx K mg a) (f:Addr) (fd:FuncData) (F:zgG K "put_arrow" "Net.put_arrow" za7 f fd):zdN P w K mg base (CXe P w) 5 f fd ["self","one","other","span","weight"] (zjr K a):=by
 have m_Net_need_two_points:=zjn (P:=P) (w:=w) (base:=base) T
 have c_in_range:=zc7 (P:=P) (w:=w) (base:=base) T
 refine F.okX zcp (fun vs H Q E h=>?_) (fun cdv A outer s H vs Q E hr h=>?_)
 ·obtain⟨p,r,v,o,t,sp,wt,rfl,_⟩:=h
  rfl
 ·obtain⟨p,r,v,o,t,sp,wt,rfl,N,hk,hnn,k1,k2⟩:=h
  obtain⟨dx,hp⟩:=N.ex
  refine⟨_,(zac (zaC (zaK (pv 0) T.c_Net m_Net_need_two_points zaJ (hr.mono (by decide)) (zaa (pv 1) (zaa (pv 2) zad))))
   (zac (zaM (PW.pt (zcZ (zbQ (zbn (zaD c_in_range (hr.mono (by decide)) rfl (zaa (pv 3) (zaa zai (zaa (zb4 rfl T.k_LONGEST_SPAN) zad)))))) (zcx (zbQ (zbn (zaD c_in_range (hr.mono (by decide)) rfl (zaa (pv 4) (zaa zai (zaa (zb4 rfl T.k_GREATEST_WEIGHT) zad))))))))) (zag (zbe zaJ T.x_NoNumber rfl T.g_NoNumber)) zap)
   (zac (zaM (zaq ziv (zar zer rfl T.n_len za6 (zaa (zbD (pv 0) rfl) zad)) (zb4 rfl T.k_MOST_ARROWS) (zax _)) (zag (zbe zaJ T.x_TooMany rfl T.g_TooMany)) zap)
   (zac (zaG (i:=5) zcp.nd rfl (by first|exact Or.inl rfl|exact Or.inr rfl) (zbD (pv 0) rfl))
   (zac (zfp (zcL hr) (zbD (pv 0) rfl) (pv 5) (zbv (zaa (pv 1) (zaa (pv 2) (zaa (pv 3) (zaa (pv 4) zad))))) rfl)
   (zac (ze3 (pv 0) (zat zbR (pv 5) zai) rfl)
   (zag (zaA (pv 5))))))))),?_⟩
  refine⟨_,rfl,p,dx,_,rfl,hp,by rfl,_,rfl,_,rfl,p,r,v,o,t,rfl,N,fun c1 H1 s1=>?_,fun er c=>k2 er (zlz c)⟩
  rw[zfG c1] at k1 k2
  have N1:=N.same s1
  obtain⟨avs,h3,h4⟩:=N1.ha
  have hp1:=s1 _ _ hp
  have hl:avs.length=v.arr.length:=by rw[← h4.length]
  have numb:((sp<1∨20<sp)∨(wt<1∨1000000<wt))→_:=fun c=>k2 .number (by rw[if_pos c]) H1 s1
  refine⟨_,rfl,sp,1,20,rfl,_,rfl,?_⟩
  refine zbA (fun c=>?_) (fun c=>?_)
  ·have c':sp<1∨20<sp:=by
    simp only[Bool.not_eq_true',Bool.and_eq_false_iff,decide_eq_false_iff_not] at c
    omega
   exact ziK ⟨by show 0≤sizeLine;decide,numb (.inl c')⟩
  have c3:¬ (sp<1∨20<sp):=by
   simp only[Bool.not_eq_false',Bool.and_eq_true,decide_eq_true_eq] at c
   omega
  refine⟨_,rfl,wt,1,1000000,rfl,_,rfl,?_⟩
  refine zbA (fun c=>?_) (fun c=>?_)
  ·have c':wt<1∨1000000<wt:=by
    simp only[Bool.not_eq_true',Bool.and_eq_false_iff,decide_eq_false_iff_not] at c
    omega
   exact⟨by show 0≤sizeLine;decide,numb (.inr c')⟩
  have c4:¬ (wt<1∨1000000<wt):=by
   simp only[Bool.not_eq_false',Bool.and_eq_true,decide_eq_true_eq] at c
   omega
  rw[if_neg (fun z=>z.elim c3 c4)] at k1 k2
  refine⟨_,rfl,p,a.Net,dx,_,_,rfl,hp1,T.c_Net,T.na_Net_arrows_by_number,zcG,r.da,avs,rfl,h3,_,_,rfl,rfl,_,rfl,?_⟩
  refine zbA (fun c=>?_) (fun c=>?_)
  ·have c':40≤v.arr.length:=by
    have:(40:Int)≤avs.length:=of_decide_eq_true c
    omega
   exact⟨by show 0≤sizeLine;decide,k2 .many (by rw[if_pos c']) H1 s1⟩
  have c':¬ 40≤v.arr.length:=by
   have:¬ (40:Int)≤avs.length:=of_decide_eq_false c
   omega
  refine⟨_,rfl,p,a.Net,dx,_,_,rfl,hp1,T.c_Net,T.na_Net_next_number,lk_nn,?_⟩
  refine⟨_,rfl,_,rfl,_,rfl,_,rfl,(by show 4≤sizeLine;decide),fun q nq=>?_⟩
  have s2:zan H1 (upd H1 q (.tup [.str o,.str t,.int sp,.int wt])):=zan.new nq
  have hq:SqT K (upd H1 q (.tup [.str o,.str t,.int sp,.int wt])) q (arV ⟨v.nn,o,t,sp,wt⟩):=SqT.of zab
  generalize upd H1 q (.tup [.str o,.str t,.int sp,.int wt])=H2 at s2 hq ⊢
  have hp2:=s2 _ _ hp1
  have h32:=s2 _ _ h3
  refine⟨_,rfl,p,a.Net,dx,_,_,rfl,hp2,T.c_Net,T.na_Net_arrows_by_number,zcG,_,rfl,r.da,_,rfl,zkG.k (k:=Sum.inl v.nn) h32 (by rw[sizeLine_eq];omega),?_⟩
  rw[zd4 (.ref q) (zg6 h4 hnn)]
  have hp3:upd H2 r.da (.dK (avs++[(Sum.inl v.nn,.ref q)])) p=some (.ins a.Net dx (zh6 r.dh r.da v.nn r.ls r.lm)):=by rw[zaf (zbC hp2 h32 (by intro z;cases z))];exact hp2
  refine⟨_,rfl,_,_,rfl,rfl,_,rfl,p,a.Net,dx,_,rfl,hp3,T.c_Net,T.na_Net_next_number,by show 5<1000;decide,?_⟩
  rw[zg4]
  refine⟨_,rfl,?_⟩
  show Q (.int v.nn) _
  refine k1 (by rw[if_neg c']) _ (fun b u e z1 _ z3 _ _=>by rw[zaf z1,zaf z3];exact s2 _ _ (s1 _ _ e)) ?_
  obtain⟨⟨dx2,_⟩,h2,_,⟨xs,h5,h6⟩,⟨ys,h7,h8⟩,n1,n2⟩:=N1.same s2
  have tk:Tk H2 (upd (upd H2 r.da (.dK (avs++[(Sum.inl v.nn,.ref q)]))) p (.ins a.Net dx (zh6 r.dh r.da (v.nn + 1) r.ls r.lm))):=(Tk.upd h32 rfl).trans (Tk.upd hp3 rfl)
  have ne:∀ b u,H2 b=some u→b≠p→b≠r.da→upd (upd H2 r.da (.dK (avs++[(Sum.inl v.nn,.ref q)]))) p (.ins a.Net dx (zh6 r.dh r.da (v.nn + 1) r.ls r.lm)) b=some u:=fun b u e z1 z3=>by rw[zaf z1,zaf z3];exact e
  exact⟨⟨dx,zab⟩,ne _ _ h2 (zbC h2 hp2 (by intro z;cases z)) (Ne.symm n1),⟨_,(by rw[zaf (zbC h32 hp2 (by intro z;cases z))];exact zab),(tk.arr ((Tk.of s2).arr h4)).snoc (tk.sqT hq)⟩,
   ⟨xs,ne _ _ h5 (zbC h5 hp2 (by intro z;cases z)) (zbC h5 h32 (by intro z;cases z)),tk.dts (zal (fun _=>rfl) _) h6⟩,⟨ys,ne _ _ h7 (zbC h7 hp2 (by intro z;cases z)) (zbC h7 h32 (by intro z;cases z)),tk.dts (zal (fun _=>rfl) _) h8⟩,n1,n2⟩
theorem zhC (T:Tx K mg a):zgH P w K mg base (CXe P w) 5 a.Net "put_arrow" ["self","one","other","span","weight"] [] (zjr K a):=T.m_Net_put_arrow.cal fun f fd F=>zfH T f fd F
def zjs (K:PySem.W.Frag) (C:Addr) (f:zbt→List Dt):Sp:=fun vs H Q _=>∃ p r v,vs=[.ref p]∧za4 K C H p r v∧(f v).length≤1000∧∀ l H' xs,zan H H'→H l=none→H' l=some (.lst xs)→zbu K H' (f v) xs→Tps H' xs→Q (.ref l) H'
theorem zfI (T:Tx K mg a):zgH P w K mg base CX0 1 a.Net "sames" ["self"] [] (zjs K a.Net fun v=>v.ss.map zcO):=T.m_Net_sames.cal fun f fd F=>by
 refine F.ok zgq (fun vs H Q E h=>?_) (fun cdv A outer s H vs Q E hr h=>?_)
 ·obtain⟨p,r,v,rfl,_⟩:=h
  rfl
 ·obtain⟨p,r,v,rfl,N,hk,k⟩:=h
  obtain⟨dx,hp⟩:=N.ex
  obtain⟨xs,h5,h6⟩:=N.hs
  have hl:v.ss.length=xs.length:=by rw[← h6.length,List.length_map]
  dsimp only at hk
  rw[List.length_map] at hk
  refine⟨_,(zag (zaA (zbh (N:=["one","other"]) (cap:=[none,none]) rfl (zbd (osc:=zah zc5) (XN:=["self"]) rfl rfl (by decide +kernel)) (zaS (zbD (pv 0) rfl)) (fun cl C s H fp pins=>(zb5 (K:=K) (n:=2) rfl rfl (zaj (zak (i:=0) (show(["one","other"]:List Str).Nodup by decide +kernel) rfl (by first|exact Or.inl rfl|exact Or.inr rfl)) (zaj (zak (i:=1) (show(["one","other"]:List Str).Nodup by decide +kernel) rfl (by first|exact Or.inl rfl|exact Or.inr rfl)) zaN)))) (fun cl C s H fp pins=>zaY) (fun cl C s H fp pins=>(zbv (zaa (pv 0) (zaa (pv 1) zad))))))),?_⟩
  refine⟨_,rfl,p,a.Net,dx,_,_,rfl,hp,T.c_Net,T.na_Net_same_pairs,zfC,r.ls,rfl,⟨_,SqL.of h5⟩,fun D hD=>?_⟩
  refine zaP (K:=K) (a:=r.ls) (xs:=xs) (fun i τ H'=>∃ v1 v2 ys,τ=[v1,v2]∧zan H H'∧H' D=some (.lst ys)∧zbu K H' ((v.ss.take i).map zcO) ys∧Tps H' ys) ⟨none,none,[],rfl,zan.new hD,zab,rfl,Tps.nil⟩ ?_ ?_ ?_
  ·rintro i τ H' _ ⟨v1,v2,ys,rfl,sm,hy,hd,tp⟩
   exact SqL.of (sm _ _ h5)
  ·rintro i x τ H' hx ⟨v1,v2,ys,rfl,sm,hy,hd,tp⟩
   obtain⟨⟨o,t⟩,hq,dq⟩:=zbS h6 hx
   obtain⟨q,rfl,h1⟩:=zlx (sm.dt dq)
   have hyl:ys.length≤v.ss.length:=by rw[← hd.length,List.length_map,List.length_take];exact Nat.min_le_right _ _
   refine⟨q,_,rfl,h1,rfl,_,_,rfl,_,_,rfl,rfl,?_⟩
   dsimp only[zeT]
   rw[if_pos rfl]
   refine⟨_,rfl,_,rfl,(by show 2≤sizeLine;decide),fun z nz=>⟨ys,by rw[zaf (zae hy nz)];exact hy,by rw[sizeLine_eq];omega,_,_,_,rfl,?_,zab,?_,?_⟩⟩
   ·intro b u e
    rw[zaf (zae e hD)]
    exact(sm.trans (zan.new nz)) b u e
   ·have s3:zan H' (upd H' z (.tup [.str o,.str t])):=zan.new nz
    have hz:SqT K (upd H' z (.tup [.str o,.str t])) z [.str o,.str t]:=SqT.of zab
    have hy3:=s3 _ _ hy
    generalize upd H' z (.tup [.str o,.str t])=H3 at s3 hz hy3 ⊢
    have tk:Tk H3 (upd H3 D (.lst (ys++[.ref z]))):=Tk.upd hy3 rfl
    rw[zaw hq,List.map_append]
    exact zbu.snoc (zfE (tk.sqT hz)) (tk.dts (zal (fun _=>rfl) _) (s3.dts hd))
   ·have s3:zan H' (upd H' z (.tup [.str o,.str t])):=zan.new nz
    have hz:upd H' z (.tup [.str o,.str t]) z=some (.tup [.str o,.str t]):=zab
    have hy3:=s3 _ _ hy
    generalize upd H' z (.tup [.str o,.str t])=H3 at s3 hz hy3 ⊢
    exact((tp.tk (Tk.of s3)).snoc hz).tk (Tk.upd hy3 rfl)
  ·rintro τ H' ⟨v1,v2,ys,rfl,sm,hy,hd,tp⟩
   rw[← hl,List.take_length] at hd
   exact k D H' ys sm hD hy hd tp
theorem zfJ (T:Tx K mg a):zgH P w K mg base CX0 1 a.Net "mosts" ["self"] [] (zjs K a.Net fun v=>v.mm.map zcP):=T.m_Net_mosts.cal fun f fd F=>by
 refine F.ok zgr (fun vs H Q E h=>?_) (fun cdv A outer s H vs Q E hr h=>?_)
 ·obtain⟨p,r,v,rfl,_⟩:=h
  rfl
 ·obtain⟨p,r,v,rfl,N,hk,k⟩:=h
  obtain⟨dx,hp⟩:=N.ex
  obtain⟨xs,h5,h6⟩:=N.hm
  have hl:v.mm.length=xs.length:=by rw[← h6.length,List.length_map]
  dsimp only at hk
  rw[List.length_map] at hk
  refine⟨_,(zag (zaA (zbh (N:=["one","other","number"]) (cap:=[none,none,none]) rfl (zbd (osc:=zah zc6) (XN:=["self"]) rfl rfl (by decide +kernel)) (zaS (zbD (pv 0) rfl)) (fun cl C s H fp pins=>(zb5 (K:=K) (n:=3) rfl rfl (zaj (zak (i:=0) (show(["one","other","number"]:List Str).Nodup by decide +kernel) rfl (by first|exact Or.inl rfl|exact Or.inr rfl)) (zaj (zak (i:=1) (show(["one","other","number"]:List Str).Nodup by decide +kernel) rfl (by first|exact Or.inl rfl|exact Or.inr rfl)) (zaj (zak (i:=2) (show(["one","other","number"]:List Str).Nodup by decide +kernel) rfl (by first|exact Or.inl rfl|exact Or.inr rfl)) zaN))))) (fun cl C s H fp pins=>zaY) (fun cl C s H fp pins=>(zbv (zaa (pv 0) (zaa (pv 1) (zaa (pv 2) zad)))))))),?_⟩
  refine⟨_,rfl,p,a.Net,dx,_,_,rfl,hp,T.c_Net,T.na_Net_most_bounds,zfD,r.lm,rfl,⟨_,SqL.of h5⟩,fun D hD=>?_⟩
  refine zaP (K:=K) (a:=r.lm) (xs:=xs) (fun i τ H'=>∃ v1 v2 v3 ys,τ=[v1,v2,v3]∧zan H H'∧H' D=some (.lst ys)∧zbu K H' ((v.mm.take i).map zcP) ys∧Tps H' ys) ⟨none,none,none,[],rfl,zan.new hD,zab,rfl,Tps.nil⟩ ?_ ?_ ?_
  ·rintro i τ H' _ ⟨v1,v2,v3,ys,rfl,sm,hy,hd,tp⟩
   exact SqL.of (sm _ _ h5)
  ·rintro i x τ H' hx ⟨v1,v2,v3,ys,rfl,sm,hy,hd,tp⟩
   obtain⟨⟨o,t,n⟩,hq,dq⟩:=zbS h6 hx
   obtain⟨q,rfl,h1⟩:=zly (sm.dt dq)
   have hyl:ys.length≤v.mm.length:=by rw[← hd.length,List.length_map,List.length_take];exact Nat.min_le_right _ _
   refine⟨q,_,rfl,h1,rfl,_,_,rfl,_,_,rfl,_,_,rfl,rfl,?_⟩
   dsimp only[zeT]
   rw[if_pos rfl]
   refine⟨_,rfl,_,rfl,_,rfl,(by show 3≤sizeLine;decide),fun z nz=>⟨ys,by rw[zaf (zae hy nz)];exact hy,by rw[sizeLine_eq];omega,_,_,_,_,rfl,?_,zab,?_,?_⟩⟩
   ·intro b u e
    rw[zaf (zae e hD)]
    exact(sm.trans (zan.new nz)) b u e
   ·have s3:zan H' (upd H' z (.tup [.str o,.str t,.int n])):=zan.new nz
    have hz:SqT K (upd H' z (.tup [.str o,.str t,.int n])) z [.str o,.str t,.int n]:=SqT.of zab
    have hy3:=s3 _ _ hy
    generalize upd H' z (.tup [.str o,.str t,.int n])=H3 at s3 hz hy3 ⊢
    have tk:Tk H3 (upd H3 D (.lst (ys++[.ref z]))):=Tk.upd hy3 rfl
    rw[zaw hq,List.map_append]
    exact zbu.snoc (zfF (tk.sqT hz)) (tk.dts (zal (fun _=>rfl) _) (s3.dts hd))
   ·have s3:zan H' (upd H' z (.tup [.str o,.str t,.int n])):=zan.new nz
    have hz:upd H' z (.tup [.str o,.str t,.int n]) z=some (.tup [.str o,.str t,.int n]):=zab
    have hy3:=s3 _ _ hy
    generalize upd H' z (.tup [.str o,.str t,.int n])=H3 at s3 hz hy3 ⊢
    exact((tp.tk (Tk.of s3)).snoc hz).tk (Tk.upd hy3 rfl)
  ·rintro τ H' ⟨v1,v2,v3,ys,rfl,sm,hy,hd,tp⟩
   rw[← hl,List.take_length] at hd
   exact k D H' ys sm hD hy hd tp
theorem zdq (T:Tx K mg a):zgH P w K mg base CX0 1 a.Net "arrows" ["self"] [] (zjs K a.Net fun v=>v.arr.map arD):=T.m_Net_arrows.cal fun f fd F=>by
 refine F.ok zfz (fun vs H Q E h=>?_) (fun cdv A outer s H vs Q E hr h=>?_)
 ·obtain⟨p,r,v,rfl,_⟩:=h
  rfl
 ·obtain⟨p,r,v,rfl,N,hk,k⟩:=h
  obtain⟨dx,hp⟩:=N.ex
  obtain⟨avs,h2,h4⟩:=N.ha
  have hl:=h4.length
  dsimp only at hk
  rw[List.length_map] at hk
  refine⟨_,(zag (zaA (zll (zbh (N:=["number","arrow"]) (cap:=[none,none]) rfl (zbd (osc:=zah zcE) (XN:=["self"]) rfl rfl (by decide +kernel)) (zlm (pe_bm0 PySem.F.plainAttrs_dict PySem.F.slot_dict_items PySem.F.type_dict_items zkb (zbD (pv 0) rfl))) (fun cl C s H fp pins=>(zb5 (K:=K) (n:=2) rfl rfl (zaj (zak (i:=0) (show(["number","arrow"]:List Str).Nodup by decide +kernel) rfl (by first|exact Or.inl rfl|exact Or.inr rfl)) (zaj (zak (i:=1) (show(["number","arrow"]:List Str).Nodup by decide +kernel) rfl (by first|exact Or.inl rfl|exact Or.inr rfl)) zaN)))) (fun cl C s H fp pins=>zaY) (fun cl C s H fp pins=>(zbv (zaa (pv 0) (zaa (za3 (zft (K:=K) rfl) (pv 1) zai (fun _ _=>rfl)) (zaa (za3 (zft (K:=K) rfl) (pv 1) zai (fun _ _=>rfl)) (zaa (za3 (zft (K:=K) rfl) (pv 1) zai (fun _ _=>rfl)) (zaa (za3 (zft (K:=K) rfl) (pv 1) zai (fun _ _=>rfl)) zad))))))))))),?_⟩
  refine⟨r.da,avs,h2,_,rfl,p,a.Net,dx,_,_,rfl,hp,T.c_Net,T.na_Net_arrows_by_number,zcG,.inr (.inr (.inl ⟨rfl,.inl ⟨_,h2⟩⟩)),r.da,avs,rfl,rfl,h2,fun w nw=>⟨w,r.da,avs,rfl,zab,by rw[zaf (zae h2 nw)];exact h2,fun o D hD=>?_⟩⟩
  have dw:r.da≠w:=zae h2 nw
  have dD:r.da≠D:=zae zab hD
  have nD:upd H w (zi2 w r.da) D=none:=by rw[zaf (Ne.symm dD)] at hD;exact hD
  have HD:H D=none:=by
   cases hq:H D with
   | none=>rfl
   | some u=>
    have:=(zan.new (o:=zi2 w r.da) nw) D u hq
    rw[nD] at this
    cases this
  refine zh3 (d:=r.da) (o:=o) (kvs:=avs) (fun i τ H'=>∃ v1 v2 ys,τ=[v1,v2]∧(∀ b u,H b=some u→b≠r.da→H' b=some u)∧H' r.da=some (.frz o (.dK avs))∧H' D=some (.lst ys)∧zbu K H' ((v.arr.take i).map arD) ys∧Tps H' ys)
   ⟨none,none,[],rfl,fun b u e hb=>by rw[zaf (zae e HD),zaf hb];exact zan.new nw b u e,by rw[zaf dD];exact zab,zab,rfl,Tps.nil⟩ ?_ ?_ ?_
  ·rintro i τ H' _ ⟨v1,v2,ys,rfl,fr,hz,hy,hd,tp⟩
   exact hz
  ·rintro i ky x T' τ H' hx hT ⟨v1,v2,ys,rfl,fr,hf,hy,hd,tp⟩
   obtain⟨q,t,hq,rfl,rfl,h1⟩:=h4.get hx
   have tkH:Tk H H':=fun b u e z=>fr b u e fun w=>by subst w;rw[h2] at e;cases e;cases z
   have hyl:ys.length≤v.arr.length:=by rw[← hd.length,List.length_map,List.length_take];exact Nat.min_le_right _ _
   have s1:zan H' (upd H' T' (.tup [kV (Sum.inl q.num),.ref t])):=zan.new hT
   have h1':=s1.sqT (tkH.sqT h1)
   have hT':SqT K (upd H' T' (.tup [kV (Sum.inl q.num),.ref t])) T' [kV (Sum.inl q.num),.ref t]:=SqT.of zab
   have hy':=s1 _ _ hy
   have hf':=s1 _ _ hf
   have hd':=s1.dts hd
   have s1':=s1
   have fr':∀ b u,H b=some u→b≠r.da→upd H' T' (.tup [kV (Sum.inl q.num),.ref t]) b=some u:=fun b u e z=>s1 _ _ (fr b u e z)
   generalize upd H' T' (.tup [kV (Sum.inl q.num),.ref t])=H1 at h1' hT' hy' hf' hd' s1' fr' ⊢
   refine⟨T',_,rfl,hT',rfl,_,_,rfl,_,_,rfl,rfl,?_⟩
   dsimp only[zeT]
   rw[if_pos rfl]
   refine⟨_,rfl,_,rfl,t,arV q,_,_,rfl,rfl,h1',rfl,_,rfl,t,arV q,_,_,rfl,rfl,h1',rfl,_,rfl,t,arV q,_,_,rfl,rfl,h1',rfl,_,rfl,t,arV q,_,_,rfl,rfl,h1',rfl,(by show 5≤sizeLine;decide),fun z nz=>?_⟩
   have s3:zan H1 (upd H1 z (.tup [kV (Sum.inl q.num),.str q.one,.str q.other,.int q.span,.int q.weight])):=zan.new nz
   have hz0:upd H1 z (.tup [kV (Sum.inl q.num),.str q.one,.str q.other,.int q.span,.int q.weight]) z=some (.tup (.int q.num::arV q)):=zab
   have tp3:=(tp.tk (Tk.of s1')).tk (Tk.of s3)
   have hz:SqT K (upd H1 z (.tup [kV (Sum.inl q.num),.str q.one,.str q.other,.int q.span,.int q.weight])) z (.int q.num::arV q):=SqT.of zab
   have hy3:=s3 _ _ hy'
   have hd3:=s3.dts hd'
   have hf3:=s3 _ _ hf'
   have fr3:∀ b u,H b=some u→b≠r.da→upd H1 z (.tup [kV (Sum.inl q.num),.str q.one,.str q.other,.int q.span,.int q.weight]) b=some u:=fun b u e w=>s3 _ _ (fr' b u e w)
   generalize upd H1 z (.tup [kV (Sum.inl q.num),.str q.one,.str q.other,.int q.span,.int q.weight])=H3 at hz hz0 tp3 hy3 hd3 hf3 fr3 ⊢
   have tk:Tk H3 (upd H3 D (.lst (ys++[.ref z]))):=Tk.upd hy3 rfl
   refine⟨ys,hy3,by rw[sizeLine_eq];omega,_,_,_,rfl,fun b u e w=>by rw[zaf (zae e HD)];exact fr3 b u e w,by rw[zaf dD];exact hf3,zab,?_,(tp3.snoc hz0).tk tk⟩
   rw[zaw hq,List.map_append]
   exact zbu.snoc (dt_ar (tk.sqT hz)) (tk.dts (zal (fun _=>rfl) _) hd3)
  ·rintro τ H' ⟨v1,v2,ys,rfl,fr,hf,hy,hd,tp⟩
   rw[← hl,List.take_length] at hd
   refine⟨o,hf,?_⟩
   have tk:Tk H' (upd H' r.da (.dK avs)):=Tk.upd hf rfl
   refine k D _ ys (fun b u e=>?_) HD (by rw[zaf (Ne.symm dD)];exact hy) (tk.dts (zal (fun _=>rfl) _) hd) (tp.tk tk)
   by_cases hb:b=r.da
   ·subst hb
    rw[h2] at e;cases e
    exact zab
   ·rw[zaf hb]
    exact fr b u e hb
end
end K04
namespace K04
open PySem L2
section
variable {P:Program}{w:World}{K:PySem.W.Frag}{mg:Str→Option Value}{base:Heap}{a:Adr}
theorem zjt (T:Tx K mg a):ziV P w K mg base CX0 1 a.NoSuch "NoSuch" ["self","number"] (zg5 a.NoSuch "number"):=T.xi_NoSuch.cal fun f fd F=>by
 refine F.ok zdk (fun vs H Q E h=>?_) (fun cdv A outer s H vs Q E hr h=>?_)
 ·obtain⟨x,t,y,rfl,_⟩:=h
  rfl
 ·obtain⟨x,t,y,rfl,hx,k⟩:=h
  refine⟨_,(zag (zgY (pv 0) (pv 1) rfl)),?_⟩
  exact⟨_,rfl,_,rfl,x,a.NoSuch,t,rfl,hx,T.xs_NoSuch_number,fun dx nd=>k dx nd⟩
def zkO (arr:List Ar) (i:Int):Bool:=arr.any fun q=>decide (q.num=i)
def zbV (arr:List Ar) (i:Int):List Ar:=arr.filter fun q=>decide (q.num≠i)
theorem zfK {H:Hp}{i:Int}:∀ {qs:List Ar}{kvs:Kvs},ze0 K H qs kvs→(zco kvs (Sum.inl i)).isSome=zkO qs i
 | [],_,h=>by rw[show _=[] from h];rfl
 | q::qs,_,h=>by
  obtain⟨t,r,rfl,h1,h2⟩:=h
  show _=(decide (q.num=i) || zkO qs i)
  by_cases e:q.num=i
  ·rw[zbp (p:=(Sum.inl q.num,V.ref t)) (by rw[e]),decide_eq_true e]
   rfl
  ·rw[za0 (p:=(Sum.inl q.num,V.ref t)) (fun z=>e (Sum.inl.inj z)),decide_eq_false e,zfK h2]
   rfl
theorem zd7 {H:Hp}{i:Int}:∀ {qs:List Ar}{kvs:Kvs},ze0 K H qs kvs→ze0 K H (zbV qs i) (zdc kvs (Sum.inl i))
 | [],_,h=>by rw[show _=[] from h];rfl
 | q::qs,_,h=>by
  obtain⟨t,r,rfl,h1,h2⟩:=h
  by_cases e:q.num=i
  ·rw[ziL (p:=(Sum.inl q.num,V.ref t)) (by rw[e])]
   have:zbV (q::qs) i=zbV qs i:=by unfold zbV;rw[List.filter_cons,if_neg (by simp[e])]
   rw[this]
   exact zd7 h2
  ·rw[ziM (p:=(Sum.inl q.num,V.ref t)) (fun z=>e (Sum.inl.inj z))]
   have:zbV (q::qs) i=q::zbV qs i:=by unfold zbV;rw[List.filter_cons,if_pos (by simp[e])]
   rw[this]
   exact⟨t,_,rfl,h1,zd7 h2⟩
def spTake (K:PySem.W.Frag) (a:Adr):Sp:=fun vs H Q E=>∃ p r v i,vs=[.ref p,.int i]∧za4 K a.Net H p r v ∧
 (zkO v.arr i=true→∀ H',Kp p r H H'→za4 K a.Net H' p r { v with arr:=zbV v.arr i }→Q .non H') ∧
 (zkO v.arr i=false→∀ H',zan H H'→zeN a E (.such i) H')
theorem zju (T:Tx K mg a):zgH P w K mg base (CXe P w) 3 a.Net "take_arrow" ["self","number"] [] (spTake K a):=T.m_Net_take_arrow.cal fun f fd F=>by
 have c_is_whole:=zeM (P:=P) (w:=w) (base:=base) T
 have x_NoSuch:=zjt (P:=P) (w:=w) (base:=base) T
 refine F.okX zdH (fun vs H Q E h=>?_) (fun cdv A outer s H vs Q E hr h=>?_)
 ·obtain⟨p,r,v,i,rfl,_⟩:=h
  rfl
 ·obtain⟨p,r,v,i,rfl,N,k1,k2⟩:=h
  obtain⟨dx,hp⟩:=N.ex
  obtain⟨avs,h3,h4⟩:=N.ha
  refine⟨_,(zac (zaM (PW.pt (zcZ (zbQ (zbn (zaD c_is_whole (hr.mono (by decide)) rfl (zaa (pv 1) zad)))) (zcx (zil (ziH (zcL hr) (pv 1) (zbD (pv 0) rfl)))))) (zag (zcD zaJ x_NoSuch (hr.mono (by decide)) rfl (zaa (pv 1) zad))) zap)
   (zag (zaC (zho (zbD (pv 0) rfl) (pv 1) ⟨rfl,rfl,rfl,rfl⟩)))),?_⟩
  refine⟨_,rfl,i,rfl,_,rfl,zb6 rfl ?_⟩
  refine⟨_,rfl,_,rfl,p,a.Net,dx,_,_,rfl,hp,T.c_Net,T.na_Net_arrows_by_number,zcG,r.da,_,rfl,zgF.k (k:=Sum.inl i) h3,_,rfl,?_⟩
  rw[zfK h4]
  refine zbA (fun c=>?_) (fun c=>?_)
  ·have c':zkO v.arr i=false:=by simpa using c
   refine⟨_,rfl,by show 1≤sizeLine;decide,fun x t hx=>⟨x,t,_,rfl,zab,fun d nd=>⟨rfl,some d,zab,?_⟩⟩⟩
   have xd:d≠x:=fun z=>by rw[z,zab] at nd;cases nd
   have e:del (upd (upd (upd H x (zid a.NoSuch t x none)) d (.xd [("number",.int i)])) x (zid a.NoSuch t x (some d))) x=upd H d (.xd [("number",.int i)]):=by
    funext b
    unfold del
    by_cases h1:b=x
    ·subst h1
     rw[if_pos rfl,zaf (Ne.symm xd),hx]
    ·rw[if_neg h1,zaf h1]
     by_cases h2:b=d
     ·subst h2;rw[zab,zab]
     ·rw[zaf h2,zaf h1,zaf h2]
   show E _ _ _
   rw[e]
   have nd':H d=none:=by rw[zaf xd] at nd;exact nd
   exact k2 c' _ (zan.new nd') d zab
  ·have c':zkO v.arr i=true:=by simpa using c
   obtain⟨y,hy⟩:=Option.isSome_iff_exists.mp ((zfK (i:=i) h4).trans c')
   refine⟨_,rfl,p,a.Net,dx,_,_,rfl,hp,T.c_Net,T.na_Net_arrows_by_number,zcG,r.da,rfl,.inl ⟨_,.inl h3⟩,_,rfl,avs,Sum.inl i,y,h3,rfl,hy,?_⟩
   refine k1 c' _ (fun b u e _ _ z3 _ _=>by rw[zaf z3];exact e) ?_
   obtain⟨_,h2,_,⟨xs,h5,h6⟩,⟨ys,h7,h8⟩,n1,n2⟩:=N
   have tk:Tk H (upd H r.da (.dK (zdc avs (Sum.inl i)))):=Tk.upd h3 rfl
   exact⟨⟨dx,by rw[zaf (zbC hp h3 (by intro z;cases z))];exact hp⟩,by rw[zaf (Ne.symm n1)];exact h2,⟨_,zab,tk.arr (zd7 h4)⟩,⟨xs,by rw[zaf (zbC h5 h3 (by intro z;cases z))];exact h5,tk.dts (zal (fun _=>rfl) _) h6⟩,
    ⟨ys,by rw[zaf (zbC h7 h3 (by intro z;cases z))];exact h7,tk.dts (zal (fun _=>rfl) _) h8⟩,n1,n2⟩
theorem zlA (T:Tx K mg a):zgH P w K mg base (CXe P w) 3 a.Net "put_point" ["self","name","half"] [.int 0] (zlw K a):=T.m_Net_put_point1.cal fun f fd F=>zeO T f fd F
end
end K04
namespace K04
open PySem L2
def cl (s:Str):List Nat:=s.cps.toList
theorem zjv (s:Str):(cl s).length=s.length:=by simp[cl,Str.length]
def tn (n:Int):Str:=Str.ofString (toString n)
theorem zlB (m:Nat):cl (tn (m:Int))=(Nat.toDigits 10 m).map Char.toNat:=PySem.W.KIN.signs_num m
theorem zkj {m:Nat}{c:Nat} (h:c∈(Nat.toDigits 10 m).map Char.toNat):48≤c∧c≤57:=by
 obtain⟨ch,hch,rfl⟩:=List.mem_map.mp h
 have r:=Nat.isDigit_of_mem_toDigits (by decide) (by decide) hch
 unfold Char.isDigit at r
 rw[Bool.and_eq_true,decide_eq_true_iff,decide_eq_true_iff] at r
 exact⟨r.1,r.2⟩
theorem zjw {n:Int} (h:0≤n):∀ c∈cl (tn n),48≤c∧c≤57:=by
 obtain⟨m,rfl⟩:=Int.eq_ofNat_of_zero_le h
 intro c hc
 rw[zlB] at hc
 exact zkj hc
theorem zjx {n:Int} (h:0≤n) (h7:n<10000000):1≤(tn n).length∧(tn n).length≤7:=by
 obtain⟨m,rfl⟩:=Int.eq_ofNat_of_zero_le h
 rw[← zjv,zlB,List.length_map]
 exact⟨PyProof.Rows.tDigits_len_ge 10 m,PyProof.Rows.digits10_le (by decide) (by omega)⟩
theorem zkk:∀ {m:Nat},m≠0→((Nat.toDigits 10 m).map Char.toNat).head?≠some 48:=by
 intro m
 induction m using Nat.strongRecOn with
 | _ m ih=>
  intro h0
  by_cases h:m<10
  ·rw[Nat.toDigits_of_lt_base h]
   revert h0
   exact(by decide:∀ d:Nat,d<10→d≠0→(([Nat.digitChar d].map Char.toNat).head?≠some 48)) m h
  ·have hm:m % 10<10:=Nat.mod_lt m (by decide)
   have t:Nat.toDigits 10 (m / 10)++Nat.toDigits 10 (m % 10)=Nat.toDigits 10 (10 * (m / 10) + m % 10):=Nat.toDigits_append_toDigits (by decide) (by omega) hm
   rw[Nat.div_add_mod] at t
   rw[← t,List.map_append,List.head?_append]
   have z:=ih (m / 10) (by omega) (by omega)
   cases e:((Nat.toDigits 10 (m / 10)).map Char.toNat).head? with
   | none=>
    have:=PyProof.Rows.tDigits_len_ge 10 (m / 10)
    rw[List.head?_eq_none_iff,List.map_eq_nil_iff] at e
    rw[e] at this
    exact absurd this (by decide)
   | some c=>
    rw[e] at z
    exact z
theorem zlC {n:Int} (h:0≤n) (h0:n≠0):∃ c,(cl (tn n))[0]?=some c∧c≠48:=by
 obtain⟨m,rfl⟩:=Int.eq_ofNat_of_zero_le h
 have z:=zkk (m:=m) (by omega)
 rw[zlB,← List.head?_eq_getElem?]
 cases e:((Nat.toDigits 10 m).map Char.toNat).head? with
 | none=>
  have:=PyProof.Rows.tDigits_len_ge 10 m
  rw[List.head?_eq_none_iff,List.map_eq_nil_iff] at e
  rw[e] at this
  exact absurd this (by decide)
 | some c=>exact⟨c,rfl,fun z'=>z (by rw[e,z'])⟩
def figs:Str:="0123456789"
def fig (c:Nat):Bool:=!(Builtin.Str.occurrences figs ⟨#[c]⟩ 0 figs.length 1).isEmpty
theorem fig_of {c:Nat} (h:48≤c∧c≤57):fig c=true:=by
 unfold fig
 rw[StrLaws.found_one]
 exact(by decide:∀ c:Nat,c<58→48≤c→decide (c∈figs.cps.toList)=true) c (by omega) h.1
theorem zbB {ws:List Str}{i:Nat}{y:V} (h:(ws.map V.str)[i]?=some y):∃ s,ws[i]?=some s∧y=.str s:=by
 rw[List.getElem?_map] at h
 cases e:ws[i]? with
 | none=>rw[e] at h;cases h
 | some s=>rw[e] at h;cases h;exact⟨s,rfl,rfl⟩
section
variable {P:Program}{w:World}{K:PySem.W.Frag}{mg:Str→Option Value}{base:Heap}{a:Adr}
def spWN:Sp:=fun vs H Q _=>∃ n:Int,vs=[.str (tn n)]∧0≤n∧n<10000000∧∀ H',zan H H'→Q (.bl true) H'
theorem zcQ (T:Tx K mg a):Cal P w K mg base CX0 1 "is_written_number" ["word"] [] spWN:=T.d_is_written_number.cal fun f fd F=>by
 refine F.ok zcN (fun vs H Q E h=>?_) (fun cdv A outer s H vs Q E hr h=>?_)
 ·obtain⟨n,rfl,_⟩:=h
  rfl
 ·obtain⟨n,rfl,n0,n7,k⟩:=h
  obtain⟨l1,l7⟩:=zjx n0 n7
  have hz:(tn n).length≤sizeLine:=by rw[sizeLine_eq];omega
  refine⟨_,(zac (zaM (PW.pt (zcZ (zaq zf0 (zar zbG rfl T.n_len za6 (zaa (pv 0) zad)) zai (zax _)) (zcZ (zaq zeU (zar zbG rfl T.n_len za6 (zaa (pv 0) zad)) (zb4 rfl T.k_MOST_FIGURES) (zax _)) (zcx (zbQ (zbn (zar zeA rfl T.n_all zi5 (zaa (zbh (N:=["sign"]) (cap:=[none]) rfl (zbd (osc:=zah zbj) (XN:=["word"]) rfl rfl (by decide +kernel)) (zkK (pv 0)) (fun cl C s H fp pins=>(zak (i:=0) (show(["sign"]:List Str).Nodup by decide +kernel) rfl (by first|exact Or.inl rfl|exact Or.inr rfl))) (fun cl C s H fp pins=>zaY) (fun cl C s H fp pins=>(zbo zf1 (pv 0) (ziX rfl T.k_FIGURES) (by with_unfolding_all rfl)))) zad)))))))) (zag (zaA zdZ)) zap)
   (zag (zaA (pe_or (zbo zd0 (pv 0) zav (zax _)) (zed (zbo zgO (za3 ziD (pv 0) zai (fun _ _=>rfl)) zav (zax _))))))),?_⟩
  refine⟨_,rfl,_,rfl,hz,_,_,rfl,rfl,_,rfl,zb6 (decide_eq_false (by omega)) ?_⟩
  refine⟨_,rfl,_,rfl,hz,_,_,rfl,rfl,_,rfl,zb6 (decide_eq_false (by omega)) ?_⟩
  refine⟨_,rfl,tn n,rfl,fun D hD=>?_⟩
  refine zhw (x:=tn n) (fun i τ H'=>∃ v,τ=[v]∧zan H H'∧H' D=some (.lst ((((cl (tn n)).take i).map fig).map V.bl))) ⟨none,rfl,zan.new hD,zab⟩ ?_ ?_
  ·rintro i c τ H' hc ⟨v,rfl,sm,hl⟩
   have hc':(cl (tn n))[i]?=some c:=by
    show(tn n).cps.toList[i]?=_
    rw[Array.getElem?_toList]
    exact hc
   dsimp only[zaI,zeT]
   rw[if_pos rfl]
   refine⟨_,rfl,_,_,rfl,rfl,_,hl,by rw[List.length_map,List.length_map,List.length_take,zjv,sizeLine_eq];omega,_,rfl,zaF hD sm,?_⟩
   rw[zab,zaw hc',List.map_append,List.map_append]
   rfl
  ·rintro τ H' ⟨v,rfl,sm,hl⟩
   rw[List.take_of_length_le (show(cl (tn n)).length≤(tn n).cps.size by rw[zjv];exact Nat.le_refl _)] at hl
   refine⟨D,_,rfl,SqL.of hl,_,rfl,?_⟩
   have e:((cl (tn n)).map fig).all id=true:=by
    rw[List.all_map,List.all_eq_true]
    exact fun c hc=>fig_of (zjw n0 c hc)
   rw[e]
   refine zbA (fun c=>absurd c (by decide)) (fun _=>?_)
   by_cases h0:n=0
   ·subst h0
    refine⟨_,rfl,rfl,true,rfl,ziK ?_⟩
    exact k H' sm
   ·obtain⟨c,hc,c48⟩:=zlC n0 h0
    have hne:¬ tn n=Str.ofString "0":=fun z=>by
     rw[z] at hc
     cases hc
     exact c48 rfl
    refine⟨_,rfl,rfl,_,rfl,?_⟩
    refine zbA (fun z=>absurd (by simpa using z) hne) (fun _=>?_)
    refine⟨_,rfl,tn n,_,c,rfl,rfl,hz,?_,rfl,?_⟩
    ·rw[zhx (Int.le_refl 0)]
     exact hc
    ·have e2:(!decide (V.str (⟨#[c]⟩:Str)=V.str (Str.ofString "0")))=true:=by
      rw[show Str.ofString "0"=(⟨#[48]⟩:Str) from by decide]
      simp[c48]
     rw[e2]
     exact k H' sm
end
end K04
namespace K04
open PySem L2
theorem zhD (n i:Nat):HT.sIx n 0 (some (i:Int))=min i n:=HT.zdz _ _ i
theorem zhE (xs:List V) (i:Nat):zfS xs (some (i:Int)) none=xs.drop i:=by
 unfold zfS
 rw[HT.zj1,zhD]
 by_cases h:i≤xs.length
 ·rw[Nat.min_eq_left h]
  exact List.take_of_length_le (by rw[List.length_drop];exact Nat.le_refl _)
 ·rw[Nat.min_eq_right (by omega),Nat.sub_self,List.take_zero]
  exact(List.drop_of_length_le (by omega)).symm
theorem zbf {H H':Hp}{x:Addr} (s:zan H H') (n:H' x=none):H x=none:=by
 cases e:H x with
 | none=>rfl
 | some o=>exact absurd (s _ _ e) (by rw[n];intro z;cases z)
section
variable {P:Program}{w:World}{K:PySem.W.Frag}{mg:Str→Option Value}{base:Heap}{a:Adr}
theorem zeP (T:Tx K mg a):ziV P w K mg base CX0 1 a.NoLine "NoLine" ["self","number"] (zg5 a.NoLine "number"):=T.xi_NoLine.cal fun f fd F=>by
 refine F.ok zdl (fun vs H Q E h=>?_) (fun cdv A outer s H vs Q E hr h=>?_)
 ·obtain⟨x,t,y,rfl,_⟩:=h
  rfl
 ·obtain⟨x,t,y,rfl,hx,k⟩:=h
  refine⟨_,(zag (zgY (pv 0) (pv 1) rfl)),?_⟩
  exact⟨_,rfl,_,rfl,x,a.NoLine,t,rfl,hx,T.xs_NoLine_number,fun dx nd=>k dx nd⟩
def spNums (K:PySem.W.Frag):Sp:=fun vs H Q _=>∃ p,∃ ns:List Int,∃ k:Nat,∃ t,∃ los:List Int,vs=[.ref p,.int (k:Int),.ref t]∧H p=some (.lst ((ns.map tn).map V.str))∧(∀ n∈ns,0≤n∧n<10000000)∧SqT K H t (los.map V.int)∧ns.length≤k + los.length∧k≤ns.length∧ns.length≤10∧los.length≤10 ∧
 ∀ l H',zan H H'→H l=none→H' l=some (.lst ((ns++los.drop (ns.length - k)).map V.int))→Q (.ref l) H'
theorem zfL (T:Tx K mg a):Cal P w K mg base (CXe P w) 3 "numbers_of" ["words","needed","left_out"] [] (spNums K):=T.d_numbers_of.cal fun f fd F=>by
 have c_is_written_number:=zcQ (P:=P) (w:=w) (base:=base) T
 have x_NoLine:=zeP (P:=P) (w:=w) (base:=base) T
 refine F.okX zdn (fun vs H Q E h=>?_) (fun cdv A outer s H vs Q E hr h=>?_)
 ·obtain⟨p,ns,k,t,los,rfl,_⟩:=h
  rfl
 ·obtain⟨p,ns,k,t,los,rfl,hp,hn,ht,b1,b2,b3,b4,q⟩:=h
  have ll:((los.map V.int).length:Int)=los.length:=by rw[List.length_map]
  have ln:(((ns.map tn).map V.str).length:Int)=ns.length:=by rw[List.length_map,List.length_map]
  refine⟨_,(zac (zaG (i:=3) zdn.nd rfl (by first|exact Or.inl rfl|exact Or.inr rfl) (zat ziq (zat zbR (pv 1) (zar zay rfl T.n_len za6 (zaa (pv 2) zad))) (zar zay rfl T.n_len za6 (zaa (pv 0) zad))))
   (zac (zaM (PW.pt (zcZ (zaq zf0 (pv 3) zai (zax _)) (zcZ (zaq zeU (pv 3) (zar zay rfl T.n_len za6 (zaa (pv 2) zad)) (zax _)) (zcx (zbQ (zbn (zar zeA rfl T.n_all zi5 (zaa (zbh (N:=["word"]) (cap:=[none]) rfl (zbd (osc:=zah zb0) (XN:=["words","needed","left_out","missing"]) rfl rfl (by decide +kernel)) (zaS (pv 0)) (fun cl C s H fp pins=>(zak (i:=0) (show(["word"]:List Str).Nodup by decide +kernel) rfl (by first|exact Or.inl rfl|exact Or.inr rfl))) (fun cl C s H fp pins=>zaY) (fun cl C s H fp pins=>(zaD c_is_written_number (hr.mono (by decide)) rfl (zaa (pv 0) zad)))) zad)))))))) (zag (zcD zaJ x_NoLine (hr.mono (by decide)) rfl (zaa zai zad))) zap)
   (zag (zaA (zat zeo (zbh (N:=["word"]) (cap:=[none]) rfl (zbd (osc:=zah zb0) (XN:=["words","needed","left_out","missing"]) rfl rfl (by decide +kernel)) (zaS (pv 0)) (fun cl C s H fp pins=>(zak (i:=0) (show(["word"]:List Str).Nodup by decide +kernel) rfl (by first|exact Or.inl rfl|exact Or.inr rfl))) (fun cl C s H fp pins=>zaY) (fun cl C s H fp pins=>(za2 zjg rfl T.n_int zi3 (zaa (pv 0) zad)))) (za2 zf9 rfl T.n_list zi4 (zaa (zcg zlt (pv 2) (zcf (zat ziq (zar zay rfl T.n_len za6 (zaa (pv 2) zad)) (pv 3))) zej) zad))))))),?_⟩
  refine⟨_,rfl,_,rfl,t,_,rfl,.inr ht,_,_,rfl,rfl,_,rfl,p,_,rfl,.inl (SqL.of hp),_,_,rfl,rfl,?_⟩
  dsimp only[zaI]
  rw[ll,ln]
  refine⟨_,rfl,_,_,rfl,rfl,_,rfl,zb6 (decide_eq_false (by omega)) ?_⟩
  refine⟨_,rfl,_,rfl,t,_,rfl,.inr ht,_,_,rfl,rfl,_,rfl,zb6 (decide_eq_false (by rw[ll];omega)) ?_⟩
  refine⟨_,rfl,p,rfl,⟨_,SqL.of hp⟩,fun D hD=>?_⟩
  refine zaP (K:=K) (a:=p) (xs:=(ns.map tn).map V.str) (fun j τ G=>∃ v1,τ=[v1]∧zan H G∧G D=some (.lst ((List.replicate j true).map V.bl))) ⟨none,rfl,zan.new hD,zab⟩ ?_ ?_ ?_
  ·rintro j τ G _ ⟨_,rfl,sg,_⟩
   exact SqL.of (sg _ _ hp)
  ·rintro j y τ G hy ⟨v1,rfl,sg,hG⟩
   obtain⟨z,hz,rfl⟩:=zbB hy
   rw[List.getElem?_map] at hz
   cases en:ns[j]? with
   | none=>rw[en] at hz;cases hz
   | some n=>
   rw[en] at hz
   cases hz
   obtain⟨n0,n7⟩:=hn n (List.mem_of_getElem? en)
   have hj:j<ns.length:=(List.getElem?_eq_some_iff.mp en).1
   dsimp only[zaI,zeT]
   rw[if_pos rfl]
   refine⟨_,rfl,n,rfl,n0,n7,fun G1 sG1=>?_⟩
   refine⟨_,sG1 _ _ hG,by rw[List.length_map,List.length_replicate,sizeLine_eq];omega,_,rfl,zaF hD (sg.trans sG1),?_⟩
   rw[zab,List.replicate_succ',List.map_append]
   rfl
  rintro τ G ⟨v1,rfl,sg,hG⟩
  refine⟨D,_,rfl,SqL.of hG,_,rfl,?_⟩
  have e:∀ m:Nat,(List.replicate m true).all id=true:=fun m=>by
   rw[List.all_eq_true]
   exact fun x hx=>by rw[List.eq_of_mem_replicate hx];rfl
  rw[e]
  refine zbA (fun c=>absurd c (by decide)) (fun _=>?_)
  refine⟨_,rfl,p,rfl,⟨_,SqL.of (sg _ _ hp)⟩,fun D2 hD2=>?_⟩
  refine zaP (K:=K) (a:=p) (xs:=(ns.map tn).map V.str) (fun j τ G'=>∃ v1,τ=[v1]∧zan G G'∧G' D2=some (.lst ((ns.take j).map V.int))) ⟨none,rfl,zan.new hD2,zab⟩ ?_ ?_ ?_
  ·rintro j τ G' _ ⟨_,rfl,sg',_⟩
   exact SqL.of (sg' _ _ (sg _ _ hp))
  ·rintro j y τ G' hy ⟨v1,rfl,sg',hG'⟩
   obtain⟨z,hz,rfl⟩:=zbB hy
   rw[List.getElem?_map] at hz
   cases en:ns[j]? with
   | none=>rw[en] at hz;cases hz
   | some n=>
   rw[en] at hz
   cases hz
   obtain⟨n0,n7⟩:=hn n (List.mem_of_getElem? en)
   have hj:j<ns.length:=(List.getElem?_eq_some_iff.mp en).1
   dsimp only[zaI,zeT]
   rw[if_pos rfl]
   refine⟨_,rfl,n,rfl,n0,by omega,?_⟩
   refine⟨_,hG',by rw[List.length_map,List.length_take,sizeLine_eq];omega,_,rfl,zaF hD2 sg',?_⟩
   rw[zab,zaw en,List.map_append]
   rfl
  rintro τ G' ⟨v1',rfl,sg',hG'⟩
  rw[List.length_map,List.length_map,List.take_length] at hG'
  have s2:=sg.trans sg'
  have ht2:=(Tk.of s2).sqT ht
  have fin:∀ (q1:Addr) (G1:Hp),zan G' G1→SqT K G1 q1 ((los.drop (ns.length - k)).map V.int)→_:=fun q1 G1 s3 h1=>show ∃ p ys,[V.ref q1]=[.ref p]∧(SqL K G1 p ys∨SqT K G1 p ys)∧∀ l,G1 l=none→∃ l' b xs zs,V.ref D2=.ref l'∧V.ref l=.ref b∧(upd G1 l (.lst ys)) l'=some (.lst xs)∧(upd G1 l (.lst ys)) b=some (.lst zs)∧xs.length + zs.length≤sizeLine∧∀ p,(upd G1 l (.lst ys)) p=none→Q (.ref p) (upd (upd G1 l (.lst ys)) p (.lst (xs++zs))) from⟨q1,_,rfl,.inr h1,fun l nl=>⟨D2,l,_,_,rfl,rfl,(zan.new nl) _ _ (s3 _ _ hG'),zab,by rw[List.length_map,List.length_map,List.length_drop,sizeLine_eq];omega,fun r nr=>q r _ (((s2.trans s3).trans (zan.new nl)).trans (zan.new nr)) (zbf ((s2.trans s3).trans (zan.new nl)) nr) (by rw[zab,List.map_append])⟩⟩
  have eL:(los.length:Int) - ((k:Int) + los.length - ns.length)=((ns.length - k:Nat):Int):=by omega
  refine⟨_,rfl,_,rfl,t,_,rfl,.inr ht2,_,rfl,_,_,rfl,rfl,_,rfl,t,_,rfl,ht2,fun hw=>?_,fun hw q1 nq1=>?_⟩
  ·skip
   rw[ll,eL,zhD,List.length_map] at hw
   refine fin t G' (zan.refl _) ?_
   rw[show los.drop (ns.length - k)=los by
    by_cases z:ns.length - k=0
    ·rw[z];rfl
    ·have:los.length=0:=by have:=hw.1;omega
     rw[List.eq_nil_of_length_eq_zero this];simp]
   exact ht2
  ·rw[ll,eL,zhE,← List.map_drop]
   exact fin q1 _ (zan.new nq1) (SqT.of zab)
end
end K04
namespace K04
open PySem L2
inductive Ln where
 | pt (n:Str) (ns:List Int)
 | ar (o t:Str) (ns:List Int)
 | sm (o t:Str)
 | ms (o t:Str) (m:Int)
abbrev bk:Str:=Str.ofString " "
abbrev nl:Str:=Str.ofString "\n"
theorem bk_mk:bk=⟨#[32]⟩:=by decide
theorem nl_mk:nl=⟨#[10]⟩:=by decide
def Ln.words:Ln→List Str
 | .pt n ns=>Str.ofString "point"::n::ns.map tn
 | .ar o t ns=>Str.ofString "arrow"::o::t::ns.map tn
 | .sm o t=>[Str.ofString "same",o,t]
 | .ms o t m=>[Str.ofString "most",o,t,tn m]
def Ln.text (l:Ln):Str:=Txt.join bk l.words
def Ln.err (v:zbt):Ln→Option Er
 | .pt n ns=>zaW v.kvs n (ns.getD 0 0)
 | .ar o t ns=>zcY v o t (ns.getD 0 1) (ns.getD 1 1)
 | .sm o t=>lim v.kvs v.ss.length o t none
 | .ms o t m=>lim v.kvs v.mm.length o t (some m)
def Ln.put (v:zbt):Ln→zbt
 | .pt n ns=>{ v with kvs:=v.kvs++[(Sum.inr n,.int (ns.getD 0 0))] }
 | .ar o t ns=>{ v with arr:=v.arr++[⟨v.nn,o,t,ns.getD 0 1,ns.getD 1 1⟩],nn:=v.nn + 1 }
 | .sm o t=>{ v with ss:=v.ss++[(o,t)] }
 | .ms o t m=>{ v with mm:=v.mm++[(o,t,m)] }
def NOk (n:Int):Prop:=0≤n∧n<10000000
def Ln.Ok:Ln→Prop
 | .pt n ns=>zaE n=true∧ns.length≤1∧∀ m∈ns,NOk m
 | .ar o t ns=>zaE o=true∧zaE t=true∧ns.length≤2∧∀ m∈ns,NOk m
 | .sm o t=>zaE o=true∧zaE t=true
 | .ms o t m=>zaE o=true∧zaE t=true∧NOk m
theorem abc_lo:∀ c∈cl abc,97≤c∧c≤122:=by decide +kernel
theorem zaB {n:Str} (h:zaE n=true):(∀ c∈cl n,97≤c)∧n.length≤8:=by
 unfold zaE at h
 rw[Bool.and_eq_true,Bool.and_eq_true,decide_eq_true_iff,decide_eq_true_iff] at h
 refine⟨fun c hc=>?_,h.1.2⟩
 have:=List.all_eq_true.mp h.2 c hc
 unfold zeZ at this
 rw[StrLaws.found_one] at this
 exact(abc_lo c (of_decide_eq_true this)).1
def WOk (s:Str):Prop:=(∀ c∈cl s,48≤c)∧s.length≤8
theorem zck {n:Str} (h:zaE n=true):WOk n:=⟨fun c hc=>by have:=(zaB h).1 c hc;omega,(zaB h).2⟩
theorem zg7 {n:Int} (h:NOk n):WOk (tn n):=⟨fun c hc=>(zjw h.1 c hc).1,by have:=(zjx h.1 h.2).2;omega⟩
theorem zkl:WOk (Str.ofString "point")∧WOk (Str.ofString "arrow")∧WOk (Str.ofString "same")∧WOk (Str.ofString "most"):=by
 refine⟨⟨?_,?_⟩,⟨?_,?_⟩,⟨?_,?_⟩,⟨?_,?_⟩⟩ <;> decide
theorem Ln.wok {l:Ln} (h:l.Ok):∀ x∈l.words,WOk x:=by
 obtain⟨k1,k2,k3,k4⟩:=zkl
 intro x hx
 cases l with
 | pt n ns=>
  obtain⟨h1,h2,h3⟩:=h
  rcases List.mem_cons.mp hx with rfl|hx
  ·exact k1
  rcases List.mem_cons.mp hx with rfl|hx
  ·exact zck h1
  obtain⟨m,hm,rfl⟩:=List.mem_map.mp hx
  exact zg7 (h3 m hm)
 | ar o t ns=>
  obtain⟨h1,h1',h2,h3⟩:=h
  rcases List.mem_cons.mp hx with rfl|hx
  ·exact k2
  rcases List.mem_cons.mp hx with rfl|hx
  ·exact zck h1
  rcases List.mem_cons.mp hx with rfl|hx
  ·exact zck h1'
  obtain⟨m,hm,rfl⟩:=List.mem_map.mp hx
  exact zg7 (h3 m hm)
 | sm o t=>
  obtain⟨h1,h1'⟩:=h
  rcases List.mem_cons.mp hx with rfl|hx
  ·exact k3
  rcases List.mem_cons.mp hx with rfl|hx
  ·exact zck h1
  rw[List.mem_singleton.mp hx]
  exact zck h1'
 | ms o t m=>
  obtain⟨h1,h1',h2⟩:=h
  rcases List.mem_cons.mp hx with rfl|hx
  ·exact k4
  rcases List.mem_cons.mp hx with rfl|hx
  ·exact zck h1
  rcases List.mem_cons.mp hx with rfl|hx
  ·exact zck h1'
  rw[List.mem_singleton.mp hx]
  exact zg7 h2
theorem Ln.few {l:Ln} (h:l.Ok):1≤l.words.length∧l.words.length≤5:=by
 cases l with
 | pt n ns=>
  obtain⟨h1,h2,h3⟩:=h
  show 1≤(Str.ofString "point"::n::ns.map tn).length∧(Str.ofString "point"::n::ns.map tn).length≤5
  rw[List.length_cons,List.length_cons,List.length_map]
  omega
 | ar o t ns=>
  obtain⟨h1,h1',h2,h3⟩:=h
  show 1≤(Str.ofString "arrow"::o::t::ns.map tn).length∧(Str.ofString "arrow"::o::t::ns.map tn).length≤5
  rw[List.length_cons,List.length_cons,List.length_cons,List.length_map]
  omega
 | sm o t=>exact⟨by show 1≤3;decide,by show 3≤5;decide⟩
 | ms o t m=>exact⟨by show 1≤4;decide,by show 4≤5;decide⟩
theorem zhF {α:Type}{f:α→Nat}{n:Nat}:∀ {l:List α},(∀ x∈l,f x≤n)→(l.map f).sum≤n * l.length
 | [],_=>by simp
 | x::l,h=>by
  have h1:=h x (List.mem_cons_self ..)
  have h2:=zhF (l:=l) fun y hy=>h y (List.mem_cons_of_mem _ hy)
  rw[List.map_cons,List.sum_cons,List.length_cons,Nat.mul_succ]
  omega
theorem zhG (c:Str) (l:List Str) (hc:c.length=1){n:Nat} (h:∀ x∈l,x.length≤n):(Txt.join c l).length≤(n + 1) * l.length:=by
 have h1:=zhF (f:=fun s:Str=>s.length) h
 cases l with
 | nil=>exact Nat.zero_le _
 | cons x r=>
  show(Builtin.Str.glued c (x::r)).length≤_
  rw[StrLaws.glued_eq_join,PyProof.Rows.len_join_cons,hc,Nat.mul_one,Nat.add_mul,List.length_cons]
  rw[List.length_cons] at h1
  omega
theorem Ln.len {l:Ln} (h:l.Ok):l.text.length≤45:=by
 have h1:=zhG bk l.words (by decide) fun x hx=>(Ln.wok h x hx).2
 have:=(Ln.few h).2
 unfold Ln.text
 omega
theorem Ln.split {l:Ln} (h:l.Ok):Txt.split l.text bk=l.words:=by
 unfold Ln.text
 rw[bk_mk]
 refine zfa (fun e=>?_) fun y hy z=>?_
 ·have:=(Ln.few h).1
  rw[e] at this
  exact absurd this (by decide)
 ·have:=(Ln.wok h y hy).1 32 z
  omega
theorem Ln.noNl {l:Ln} (h:l.Ok):10∉cl l.text:=by
 unfold Ln.text
 rw[show Txt.join bk l.words=Str.join ⟨#[32]⟩ l.words by rw[← bk_mk];exact StrLaws.glued_eq_join _ _]
 show 10∉(Str.join ⟨#[32]⟩ l.words).cps.toList
 rw[zfx]
 have:∀ ws:List (List Nat),(∀ x∈ws,∀ c∈x,48≤c)→10∉jl 32 ws:=fun ws=>by
  induction ws with
  | nil=>intro _ z;cases z
  | cons x r ih=>
   intro hx z
   cases r with
   | nil=>have:=hx x (List.mem_cons_self ..) 10 z;omega
   | cons y r=>
    rcases List.mem_append.mp z with z|z
    ·have:=hx x (List.mem_cons_self ..) 10 z
     omega
    ·rcases List.mem_cons.mp z with z|z
     ·cases z
     ·exact ih (fun x' h'=>hx x' (List.mem_cons_of_mem _ h')) z
 refine this _ fun x hx c hc=>?_
 obtain⟨y,hy,rfl⟩:=List.mem_map.mp hx
 exact(Ln.wok h y hy).1 c hc
def Ln.kd:Ln→Str
 | .pt _ _=>Str.ofString "point"
 | .ar _ _ _=>Str.ofString "arrow"
 | .sm _ _=>Str.ofString "same"
 | .ms _ _ _=>Str.ofString "most"
def Ln.nms:Ln→List Str
 | .pt n _=>[n]
 | .ar o t _=>[o,t]
 | .sm o t=>[o,t]
 | .ms o t _=>[o,t]
def Ln.ns:Ln→List Int
 | .pt _ ns=>ns
 | .ar _ _ ns=>ns
 | .sm _ _=>[]
 | .ms _ _ m=>[m]
def Ln.los:Ln→List Int
 | .pt _ _=>[0]
 | .ar _ _ _=>[1,1]
 | .sm _ _=>[]
 | .ms _ _ _=>[]
def Ln.nd:Ln→Nat
 | .ms _ _ _=>1
 | _=>0
structure LnF (K:PySem.W.Frag) (a:Adr) (l:Ln) (t t2:Addr):Prop where
 wd:l.words=l.kd::(l.nms++l.ns.map tn)
 f3:l.nms.length≤3
 val:zco (zbg a) (Sum.inr l.kd)=some (.ref t)
 q1:∀ H,SqT K H t [.int (l.nms.length:Int),.int (l.nd:Int),.ref t2]
 q2:∀ H,SqT K H t2 (l.los.map V.int)
 b1:l.ns.length≤l.nd + l.los.length
 b2:l.nd≤l.ns.length
 b3:l.ns.length≤10
 b4:l.los.length≤10
 nok:∀ n∈l.ns,0≤n∧n<10000000
theorem kvL {a:Adr}:zco (zbg a) (Sum.inr (Str.ofString "point"))=some (.ref a.LINES_0)∧zco (zbg a) (Sum.inr (Str.ofString "arrow"))=some (.ref a.LINES_1)∧zco (zbg a) (Sum.inr (Str.ofString "same"))=some (.ref a.LINES_2)∧zco (zbg a) (Sum.inr (Str.ofString "most"))=some (.ref a.LINES_3):=by
 have ne:∀ x y:Str,x≠y→¬ ((Sum.inr x:Key)=Sum.inr y):=fun x y h z=>h (Sum.inr.inj z)
 unfold zbg
 refine⟨zbp rfl,?_,?_,?_⟩
 ·rw[za0 (ne _ _ (by decide)),zbp rfl]
 ·rw[za0 (ne _ _ (by decide)),za0 (ne _ _ (by decide)),zbp rfl]
 ·rw[za0 (ne _ _ (by decide)),za0 (ne _ _ (by decide)),za0 (ne _ _ (by decide)),zbp rfl]
theorem zlD {K:PySem.W.Frag}{mg:Str→Option Value}{a:Adr} (T:Tx K mg a){l:Ln} (h:l.Ok):∃ t t2,LnF K a l t t2:=by
 obtain⟨v1,v2,v3,v4⟩:=kvL (a:=a)
 cases l with
 | pt n ns=>exact⟨_,_,rfl,by show 1≤3;decide,v1,T.t_LINES_0,T.t_LINES_0_2,by have:=h.2.1;show ns.length≤0 + 1;omega,Nat.zero_le _,by have:=h.2.1;show ns.length≤10;omega,by show 1≤10;decide,h.2.2⟩
 | ar o t ns=>exact⟨_,_,rfl,by show 2≤3;decide,v2,T.t_LINES_1,T.t_LINES_1_2,by have:=h.2.2.1;show ns.length≤0 + 2;omega,Nat.zero_le _,by have:=h.2.2.1;show ns.length≤10;omega,by show 2≤10;decide,h.2.2.2⟩
 | sm o t=>exact⟨_,_,rfl,by show 2≤3;decide,v3,T.t_LINES_2,T.t_LINES_2_2,by show 0≤0 + 0;decide,by show 0≤0;decide,by show 0≤10;decide,by show 0≤10;decide,fun _ h=>by cases h⟩
 | ms o t m=>exact⟨_,_,rfl,by show 2≤3;decide,v4,T.t_LINES_3,T.t_LINES_3_2,by show 1≤1 + 0;decide,by show 1≤1;decide,by show 1≤10;decide,by show 0≤10;decide,fun n hn=>by rw[List.mem_singleton.mp hn];exact h.2.2⟩
end K04
namespace K04
open PySem L2
theorem zlE (xs:List V) (i j:Nat) (h:j≤xs.length):zfS xs (some (i:Int)) (some (j:Int))=(xs.drop (min i xs.length)).take (j - min i xs.length):=by
 unfold zfS
 have e1:HT.sIx xs.length 0 (some (i:Int))=min i xs.length:=HT.zdz _ _ i
 have e2:HT.sIx xs.length xs.length (some (j:Int))=min j xs.length:=HT.zdz _ _ j
 rw[e1,e2,Nat.min_eq_left h]
structure Few (v:zbt):Prop where
 k:v.kvs.length≤1000
 a:v.arr.length≤1000
 n:∀ q∈v.arr,q.num<v.nn
 s:v.ss.length≤1000
 m:v.mm.length≤1000
section
variable {P:Program}{w:World}{K:PySem.W.Frag}{mg:Str→Option Value}{base:Heap}{a:Adr}
theorem at_x {α:Type}{xs:List α}{i:Nat}{x:α} (h:xs[i]?=some x):atI xs (i:Int)=some x:=by
 rw[zhx (by omega),show((i:Int)).toNat=i by omega]
 exact h
def zjy (K:PySem.W.Frag) (a:Adr):Sp:=fun vs H Q _=>∃ p r v l,vs=[.ref p,.str (Ln.text l)]∧l.Ok∧za4 K a.Net H p r v∧Few v∧l.err v=none∧∀ x H',Kp p r H H'→za4 K a.Net H' p r (l.put v)→Q x H'
set_option maxHeartbeats 1000000 in
theorem zg8 (T:Tx K mg a) (Z:KD P w K a.LINES (zbg a)):Cal P w K mg base (CXe P w) 7 "put_line" ["net","line"] [] (zjy K a):=T.d_put_line.cal fun f fd F=>by
 have c_numbers_of:=zfL (P:=P) (w:=w) (base:=base) T
 have x_NoLine:=zeP (P:=P) (w:=w) (base:=base) T
 have m_Net_put_point:=zkN (P:=P) (w:=w) (base:=base) T
 have m_Net_put_arrow:=zhC (P:=P) (w:=w) (base:=base) T
 have m_Net_put_same:=zjp (P:=P) (w:=w) (base:=base) T
 have m_Net_put_most:=zjq (P:=P) (w:=w) (base:=base) T
 refine F.okX zby (fun vs H Q E h=>?_) (fun cdv A outer s H vs Q E hr h=>?_)
 ·obtain⟨p,r,v,l,rfl,_⟩:=h
  rfl
 ·obtain⟨p,r,v,l,rfl,ok,N,few,er,k⟩:=h
  obtain⟨t,t2,L⟩:=zlD T ok
  have tl:=Ln.len ok
  have f3:=L.f3
  have b3:=L.b3
  have b4:=L.b4
  refine⟨_,(zac (zaG (i:=2) zby.nd rfl (by first|exact Or.inl rfl|exact Or.inr rfl) (zbN PySem.F.plainAttrs_str PySem.F.slot_str_split PySem.F.type_str_split zhz (pv 1) (zaa zav zad)))
   (zac (zaG (i:=3) zby.nd rfl (by first|exact Or.inl rfl|exact Or.inr rfl) (za3 zaT (pv 2) zai (fun _ _=>rfl)))
   (zac (zaM (zil (zji (pv 3) (zkI rfl T.g_LINES))) (zag (zcD zaJ x_NoLine (hr.mono (by decide)) rfl (zaa zai zad))) zap)
   (zac (zaG (i:=4) zby.nd rfl (by first|exact Or.inl rfl|exact Or.inr rfl) (zls (zkI rfl T.g_LINES) (pv 3) (fun _ _=>rfl)))
   (zac (zaG (i:=5) zby.nd rfl (by first|exact Or.inl rfl|exact Or.inr rfl) (zcg zfo (pv 2) (zcf zai) (zcf (zat zbR zai (za3 zcy (pv 4) zai (fun _ _=>rfl))))))
   (zac (zaM (zaq zf0 (zar zay rfl T.n_len za6 (zaa (pv 5) zad)) (za3 zcy (pv 4) zai (fun _ _=>rfl)) (zax _)) (zag (zcD zaJ x_NoLine (hr.mono (by decide)) rfl (zaa zai zad))) zap)
   (zac (zaG (i:=6) zby.nd rfl (by first|exact Or.inl rfl|exact Or.inr rfl) (zdF c_numbers_of zaJ (hr.mono (by decide)) rfl (zaa (zcg zfo (pv 2) (zcf (zat zbR zai (za3 zcy (pv 4) zai (fun _ _=>rfl)))) zej) (zaa (za3 zcy (pv 4) zai (fun _ _=>rfl)) (zaa (za3 zcy (pv 4) zai (fun _ _=>rfl)) zad)))))
   (zac (zaM (zaq zd0 (pv 3) zav (zax _)) (zag (zaA (zaK (pv 0) T.c_Net m_Net_put_point zaJ (hr.mono (by decide)) (zaa (za3 zaT (pv 5) zai (fun _ _=>rfl)) (zaa (za3 zaT (pv 6) zai (fun _ _=>rfl)) zad))))) zap)
   (zac (zaM (zaq zd0 (pv 3) zav (zax _)) (zag (zaA (zaK (pv 0) T.c_Net m_Net_put_arrow zaJ (hr.mono (by decide)) (zaa (za3 zaT (pv 5) zai (fun _ _=>rfl)) (zaa (za3 zaT (pv 5) zai (fun _ _=>rfl)) (zaa (za3 zaT (pv 6) zai (fun _ _=>rfl)) (zaa (za3 zaT (pv 6) zai (fun _ _=>rfl)) zad))))))) zap)
   (zac (zaM (zaq zd0 (pv 3) zav (zax _)) (zag (zaA (zaK (pv 0) T.c_Net m_Net_put_same zaJ (hr.mono (by decide)) (zaa (za3 zaT (pv 5) zai (fun _ _=>rfl)) (zaa (za3 zaT (pv 5) zai (fun _ _=>rfl)) zad))))) zap)
   (zag (zaA (zaK (pv 0) T.c_Net m_Net_put_most zaJ (hr.mono (by decide)) (zaa (za3 zaT (pv 5) zai (fun _ _=>rfl)) (zaa (za3 zaT (pv 5) zai (fun _ _=>rfl)) (zaa (za3 zaT (pv 6) zai (fun _ _=>rfl)) zad)))))))))))))))),?_⟩
  refine⟨_,rfl,rfl,l.text,bk,rfl,rfl,rfl,by rw[sizeLine_eq];omega,fun wd nwd=>?_⟩
  rw[Ln.split ok,L.wd]
  have s1:zan H (upd H wd (.lst ((l.kd::(l.nms++l.ns.map tn)).map V.str))):=zan.new nwd
  have h1:upd H wd (.lst ((l.kd::(l.nms++l.ns.map tn)).map V.str)) wd=some (.lst ((l.kd::(l.nms++l.ns.map tn)).map V.str)):=zab
  generalize upd H wd (.lst ((l.kd::(l.nms++l.ns.map tn)).map V.str))=H1 at s1 h1 ⊢
  have wl:((l.kd::(l.nms++l.ns.map tn)).map V.str).length=1 + l.nms.length + l.ns.length:=by
   rw[List.length_map,List.length_cons,List.length_append,List.length_map]
   omega
  refine⟨_,rfl,wd,_,_,.str l.kd,rfl,rfl,SqL.of h1,at_x (i:=0) rfl,?_⟩
  refine⟨_,rfl,a.LINES,zbg a,Sum.inr l.kd,rfl,Z,rfl,_,rfl,?_⟩
  rw[L.val]
  refine zbA (fun c=>absurd c Bool.false_ne_true) (fun _=>?_)
  refine⟨_,rfl,a.LINES,zbg a,Sum.inr l.kd,_,rfl,Z,rfl,L.val,?_⟩
  have a0:atI [V.int (l.nms.length:Int),.int (l.nd:Int),.ref t2] 0=some (.int (l.nms.length:Int)):=rfl
  have a1:atI [V.int (l.nms.length:Int),.int (l.nd:Int),.ref t2] 1=some (.int (l.nd:Int)):=rfl
  have a2:atI [V.int (l.nms.length:Int),.int (l.nd:Int),.ref t2] 2=some (.ref t2):=rfl
  refine⟨_,rfl,_,rfl,_,rfl,t,_,_,_,rfl,rfl,L.q1 _,a0,_,_,rfl,rfl,_,rfl,wd,_,rfl,SqL.of h1,fun nm nnm=>?_⟩
  dsimp only
  have ec:zfS ((l.kd::(l.nms++l.ns.map tn)).map V.str) (some 1) (some (1 + (l.nms.length:Int)))=l.nms.map V.str:=by
   rw[show(1:Int)=((1:Nat):Int) from rfl,show((1:Nat):Int) + (l.nms.length:Int)=((1 + l.nms.length:Nat):Int) by omega,zlE _ _ _ (by rw[wl];omega),wl,Nat.min_eq_left (by omega)]
   show((l.nms++l.ns.map tn).map V.str).take (1 + l.nms.length - 1)=_
   rw[List.map_append,show 1 + l.nms.length - 1=(l.nms.map V.str).length by rw[List.length_map];omega,List.take_left]
  rw[ec]
  have s2:zan H1 (upd H1 nm (.lst (l.nms.map V.str))):=zan.new nnm
  have h2:upd H1 nm (.lst (l.nms.map V.str)) nm=some (.lst (l.nms.map V.str)):=zab
  generalize upd H1 nm (.lst (l.nms.map V.str))=H2 at s2 h2 ⊢
  refine⟨_,rfl,nm,_,rfl,.inl (SqL.of h2),_,rfl,t,_,_,_,rfl,rfl,L.q1 _,a0,_,_,rfl,rfl,_,rfl,?_⟩
  refine zbA (fun c=>absurd (of_decide_eq_true c) (by rw[List.length_map];omega)) (fun _=>?_)
  refine⟨_,rfl,_,rfl,t,_,_,_,rfl,rfl,L.q1 _,a0,_,_,rfl,rfl,_,rfl,wd,_,rfl,SqL.of (s2 _ _ h1),fun q nq=>?_⟩
  dsimp only
  have ed:zfS ((l.kd::(l.nms++l.ns.map tn)).map V.str) (some (1 + (l.nms.length:Int))) none=(l.ns.map tn).map V.str:=by
   rw[show(1:Int) + (l.nms.length:Int)=((1 + l.nms.length:Nat):Int) by omega,zhE]
   rw[Nat.add_comm 1,List.map_cons,List.drop_succ_cons,List.map_append]
   exact List.drop_left' (by rw[List.length_map])
  rw[ed]
  have s3:zan H2 (upd H2 q (.lst ((l.ns.map tn).map V.str))):=zan.new nq
  have h3:upd H2 q (.lst ((l.ns.map tn).map V.str)) q=some (.lst ((l.ns.map tn).map V.str)):=zab
  generalize upd H2 q (.lst ((l.ns.map tn).map V.str))=H3 at s3 h3 ⊢
  refine⟨_,rfl,t,_,_,_,rfl,rfl,L.q1 _,a1,_,rfl,t,_,_,_,rfl,rfl,L.q1 _,a2,q,l.ns,l.nd,t2,l.los,rfl,h3,L.nok,L.q2 _,L.b1,L.b2,L.b3,L.b4,fun nu H4 s4 nnu hnu=>?_⟩
  have s14:=s1.trans (s2.trans (s3.trans s4))
  have N4:=N.same s14
  obtain⟨dx,hp4⟩:=N4.ex
  have hnm4:=(s3.trans s4) _ _ h2
  have kp:∀ {H5:Hp},Kp p r H4 H5→Kp p r H H5:=fun k5=>(Kp.of s14).trans k5
  have no:∀ {x y:Str},x≠y→decide (V.str x=V.str y)=false:=fun h=>decide_eq_false (fun z=>h (by injection z))
  cases l with
  | pt n ns=>
   obtain⟨o1,o2,o3⟩:=ok
   have e0:(ns++([0]:List Int).drop (ns.length - 0))[0]?=some (ns.getD 0 0):=by
    match ns,o2 with
    | [],_=>rfl
    | [m],_=>rfl
   refine⟨_,rfl,rfl,_,rfl,zgn (decide_eq_true rfl) ?_⟩
   refine⟨_,rfl,p,dx,_,rfl,hp4,by rfl,_,rfl,nm,_,_,.str n,rfl,rfl,SqL.of hnm4,rfl,_,rfl,nu,_,_,.int (ns.getD 0 0),rfl,rfl,SqL.of hnu,at_x (i:=0) (by rw[List.getElem?_map];show Option.map V.int (ns++([0]:List Int).drop (ns.length - 0))[0]?=_;rw[e0];rfl),p,r,v,n,_,rfl,by have:=(zaB o1).2;omega,N4,few.k,(fun er' he=>by rw[show zaW v.kvs n (ns.getD 0 0)=none from er] at he;cases he),fun _ H5 k5 N5=>k _ H5 (kp k5) N5⟩
  | ar o t' ns=>
   obtain⟨o1,o1',o2,o3⟩:=ok
   have e0:(ns++([1,1]:List Int).drop (ns.length - 0))[0]?=some (ns.getD 0 1)∧(ns++([1,1]:List Int).drop (ns.length - 0))[1]?=some (ns.getD 1 1):=by
    match ns,o2 with
    | [],_=>exact⟨rfl,rfl⟩
    | [m],_=>exact⟨rfl,rfl⟩
    | [m,m'],_=>exact⟨rfl,rfl⟩
   refine⟨_,rfl,rfl,_,rfl,zb6 (no (show Str.ofString "arrow"≠Str.ofString "point" by decide)) ?_⟩
   refine⟨_,rfl,rfl,_,rfl,zgn (decide_eq_true rfl) ?_⟩
   refine⟨_,rfl,p,dx,_,rfl,hp4,by rfl,_,rfl,nm,_,_,.str o,rfl,rfl,SqL.of hnm4,rfl,_,rfl,nm,_,_,.str t',rfl,rfl,SqL.of hnm4,rfl,_,rfl,nu,_,_,.int (ns.getD 0 1),rfl,rfl,SqL.of hnu,at_x (i:=0) (by rw[List.getElem?_map];show Option.map V.int (ns++([1,1]:List Int).drop (ns.length - 0))[0]?=_;rw[e0.1];rfl),_,rfl,nu,_,_,.int (ns.getD 1 1),rfl,rfl,SqL.of hnu,at_x (i:=1) (by rw[List.getElem?_map];show Option.map V.int (ns++([1,1]:List Int).drop (ns.length - 0))[1]?=_;rw[e0.2];rfl),p,r,v,o,t',_,_,rfl,N4,few.a,few.n,fun _ H5 k5 N5=>k _ H5 (kp k5) N5,fun er' he=>by rw[show zcY v o t' (ns.getD 0 1) (ns.getD 1 1)=none from er] at he;cases he⟩
  | sm o t'=>
   refine⟨_,rfl,rfl,_,rfl,zb6 (no (show Str.ofString "same"≠Str.ofString "point" by decide)) ?_⟩
   refine⟨_,rfl,rfl,_,rfl,zb6 (no (show Str.ofString "same"≠Str.ofString "arrow" by decide)) ?_⟩
   refine⟨_,rfl,rfl,_,rfl,zgn (decide_eq_true rfl) ?_⟩
   refine⟨_,rfl,p,dx,_,rfl,hp4,by rfl,_,rfl,nm,_,_,.str o,rfl,rfl,SqL.of hnm4,rfl,_,rfl,nm,_,_,.str t',rfl,rfl,SqL.of hnm4,rfl,p,r,v,o,t',rfl,N4,few.s,fun _ H5 k5 N5=>k _ H5 (kp k5) N5,fun er' he=>by rw[show lim v.kvs v.ss.length o t' none=none from er] at he;cases he⟩
  | ms o t' m=>
   refine⟨_,rfl,rfl,_,rfl,zb6 (no (show Str.ofString "most"≠Str.ofString "point" by decide)) ?_⟩
   refine⟨_,rfl,rfl,_,rfl,zb6 (no (show Str.ofString "most"≠Str.ofString "arrow" by decide)) ?_⟩
   refine⟨_,rfl,rfl,_,rfl,zb6 (no (show Str.ofString "most"≠Str.ofString "same" by decide)) ?_⟩
   refine⟨_,rfl,p,dx,_,rfl,hp4,by rfl,_,rfl,nm,_,_,.str o,rfl,rfl,SqL.of hnm4,rfl,_,rfl,nm,_,_,.str t',rfl,rfl,SqL.of hnm4,rfl,_,rfl,nu,_,_,.int m,rfl,rfl,SqL.of hnu,rfl,p,r,v,o,t',m,rfl,N4,few.m,fun _ H5 k5 N5=>k _ H5 (kp k5) N5,fun er' he=>by rw[show lim v.kvs v.mm.length o t' (some m)=none from er] at he;cases he⟩
end
end K04
namespace K04
open PySem L2
def zjz (v:zbt) (ls:List Ln):zbt:=ls.foldl Ln.put v
def zie:zbt→List Ln→Prop
 | _,[]=>True
 | v,l::r=>l.Ok∧l.err v=none∧Few v∧zie (l.put v) r
theorem zie.at_:∀ {ls:List Ln}{v:zbt}{i:Nat}{l:Ln},zie v ls→ls[i]?=some l→l.Ok∧l.err (zjz v (ls.take i))=none∧Few (zjz v (ls.take i))
 | [],_,_,_,_,e=>by simp at e
 | l::r,v,0,_,h,e=>by
  cases e
  exact⟨h.1,h.2.1,h.2.2.1⟩
 | l::r,v,i + 1,l',h,e=>zie.at_ (ls:=r) (v:=l.put v) (i:=i) h.2.2.2 (by simpa using e)
def zcs (ls:List Ln):Str:=Txt.join nl (ls.map Ln.text)
theorem zh9 {ls:List Ln} (h0:ls≠[]) (h:∀ l∈ls,l.Ok):Txt.split (zcs ls) nl=ls.map Ln.text:=by
 unfold zcs
 rw[nl_mk]
 refine zfa (by simpa using h0) fun y hy=>?_
 obtain⟨l,hl,rfl⟩:=List.mem_map.mp hy
 exact Ln.noNl (h l hl)
theorem zkm {ls:List Ln} (h:∀ l∈ls,l.Ok):(zcs ls).length≤46 * ls.length:=by
 have:=zhG nl (ls.map Ln.text) (by decide) (n:=45) fun x hx=>by
  obtain⟨l,hl,rfl⟩:=List.mem_map.mp hx
  exact Ln.len (h l hl)
 rw[List.length_map] at this
 exact this
theorem ln_pos {l:Ln}:l.text.length≠0:=by
 have e:∃ x r,l.words=x::r∧x.length≠0:=by
  cases l with
  | pt n ns=>exact⟨_,_,rfl,by decide⟩
  | ar o t ns=>exact⟨_,_,rfl,by decide⟩
  | sm o t=>exact⟨_,_,rfl,by decide⟩
  | ms o t m=>exact⟨_,_,rfl,by decide⟩
 obtain⟨x,r,e,hx⟩:=e
 unfold Ln.text
 rw[e]
 show(Builtin.Str.glued bk (x::r)).length≠0
 rw[StrLaws.glued_eq_join,PyProof.Rows.len_join_cons,List.map_cons,List.sum_cons]
 omega
theorem zlF {ls:List Ln} (h0:ls≠[]):zcs ls≠Str.ofString "":=by
 cases ls with
 | nil=>exact absurd rfl h0
 | cons l r=>
  intro e
  have e2:(zcs (l::r)).length=0:=by rw[e];rfl
  unfold zcs at e2
  rw[List.map_cons] at e2
  have e3:(Builtin.Str.glued nl (l.text::r.map Ln.text)).length=0:=e2
  rw[StrLaws.glued_eq_join,PyProof.Rows.len_join_cons,List.map_cons,List.sum_cons] at e3
  exact ln_pos (l:=l) (by omega)
theorem zie.all:∀ {ls:List Ln}{v:zbt},zie v ls→∀ l∈ls,l.Ok
 | [],_,_,_,h=>by cases h
 | _::_,_,h,_,hl=>by
  rcases List.mem_cons.mp hl with rfl|hl
  ·exact h.1
  ·exact h.2.2.2.all _ hl
def zkn (H:Hp) (x:Addr) (r:Rec):Prop:=∀ b o,H b=some o→b≠x∧b≠r.dh∧b≠r.da∧b≠r.ls∧b≠r.lm
theorem zkn.kp {H H1 H2:Hp}{x:Addr}{r:Rec} (a:zkn H x r) (s:zan H H1) (k:Kp x r H1 H2):zan H H2:=fun b o e=>by
 obtain⟨e1,e2,e3,e4,e5⟩:=a b o e
 exact k b o (s _ _ e) e1 e2 e3 e4 e5
section
variable {P:Program}{w:World}{K:PySem.W.Frag}{mg:Str→Option Value}{base:Heap}{a:Adr}
def zjA (K:PySem.W.Frag) (a:Adr):Sp:=fun vs H Q _=>∃ ls,vs=[.str (zcs ls)]∧zie emp ls∧ls.length≤200∧∀ x r H',zan H H'→zkn H x r→za4 K a.Net H' x r (zjz emp ls)→Q (.ref x) H'
set_option maxHeartbeats 1000000 in
theorem zeQ (T:Tx K mg a) (Z:KD P w K a.LINES (zbg a)):Cal P w K mg base (CXe P w) 8 "read_net" ["text"] [] (zjA K a):=T.d_read_net.cal fun f fd F=>by
 have c_put_line:=zg8 (P:=P) (w:=w) (base:=base) T Z
 have i_Net:=zjl (P:=P) (w:=w) (base:=base) T
 have x_NoLine:=zeP (P:=P) (w:=w) (base:=base) T
 refine F.okX zcj (fun vs H Q E h=>?_) (fun cdv A outer s H vs Q E hr h=>?_)
 ·obtain⟨ls,rfl,_⟩:=h
  rfl
 ·obtain⟨ls,rfl,R,l200,k⟩:=h
  have tl:=zkm R.all
  refine⟨_,(zac (zaG (i:=1) zcj.nd rfl (by first|exact Or.inl rfl|exact Or.inr rfl) (zhu i_Net (hr.mono (by decide)) rfl))
   (zac (zaM (zaq zd0 (pv 0) zav (zax _)) (zag (zaA (pv 1))) zap)
   (zac (zc9 PassesOwn.leaving rfl (zbY rfl T.n_enumerate (zaa (zbN PySem.F.plainAttrs_str PySem.F.slot_str_split PySem.F.type_str_split zhz (pv 0) (zaa zav zad)) zad)) (zbW rfl (zaj (zak (i:=2) zcj.nd rfl (by first|exact Or.inl rfl|exact Or.inr rfl)) (zaj (zak (i:=3) zcj.nd rfl (by first|exact Or.inl rfl|exact Or.inr rfl)) zaN))) (zag (ps_try ⟨rfl,rfl⟩ rfl (PHs.one rfl T.g_DrawError T.xb_DrawError T.xt_DrawError (by decide) (fun a H₀=>(zag ps_not)) PHs.nil) (fun pn E1 R1 hp1 po1=>(zag (zaC (zdF c_put_line hp1 (hr.mono (by decide)) rfl (zaa (pv 1) (zaa (pv 3) zad)))))) zap)))
   (zag (zaA (pv 1)))))),?_⟩
  refine fun x dx nx ndx nex=>⟨x,dx,rfl,zab,fun r H2 fr fo N2=>⟨rfl,?_⟩⟩
  have s2:zan H H2:=fun b o e=>fr b o (by rw[zaf (zae e nx),zaf (zae e ndx)];exact e) (zae e nx)
  have ap:zkn H x r:=fun b o e=>⟨zae e nx,fo b o (by rw[zaf (zae e nx),zaf (zae e ndx)];exact e)⟩
  refine⟨_,rfl,rfl,_,rfl,?_⟩
  by_cases h0:ls=[]
  ·subst h0
   refine zgn (decide_eq_true rfl) ?_
   exact⟨_,rfl,k x r H2 s2 ap N2⟩
  ·refine zb6 (decide_eq_false (fun z=>zlF h0 (by injection z))) ?_
   refine⟨_,rfl,rfl,zcs ls,nl,rfl,rfl,rfl,by rw[sizeLine_eq];omega,fun y ny=>?_⟩
   rw[zh9 h0 R.all]
   have s3:zan H2 (upd H2 y (.lst ((ls.map Ln.text).map V.str))):=zan.new ny
   have h3:upd H2 y (.lst ((ls.map Ln.text).map V.str)) y=some (.lst ((ls.map Ln.text).map V.str)):=zab
   have apy:y≠x∧y≠r.dh∧y≠r.da∧y≠r.ls∧y≠r.lm:=by
    have nyx:∀ b o,H2 b=some o→b≠y:=fun b o e=>zae e ny
    obtain⟨⟨dx,e1⟩,e2,⟨avs,e3,_⟩,⟨xs,e4,_⟩,⟨ys,e5,_⟩,_⟩:=N2
    exact⟨Ne.symm (nyx _ _ e1),Ne.symm (nyx _ _ e2),Ne.symm (nyx _ _ e3),Ne.symm (nyx _ _ e4),Ne.symm (nyx _ _ e5)⟩
   have N3:=N2.same s3
   generalize upd H2 y (.lst ((ls.map Ln.text).map V.str))=H3 at s3 h3 N3 ⊢
   refine⟨y,rfl,⟨_,SqL.of h3⟩,zfv (K:=K) (l:=y) (xs:=(ls.map Ln.text).map V.str) (fun i σ G=>∃ v2 v3,σ=[some (.str (zcs ls)),some (.ref x),v2,v3]∧zan H G∧G y=some (.lst ((ls.map Ln.text).map V.str))∧za4 K a.Net G x r (zjz emp (ls.take i))) ⟨none,none,rfl,s2.trans s3,h3,N3⟩ ?_ ?_ ?_⟩
   ·rintro i σ G _ ⟨_,_,rfl,_,hy,_⟩
    exact SqL.of hy
   ·rintro i z t σ G hz nt ⟨v2,v3,rfl,sg,hy,NG⟩
    obtain⟨tx,htx,rfl⟩:=zbB hz
    rw[List.getElem?_map] at htx
    cases el:ls[i]? with
    | none=>rw[el] at htx;cases htx
    | some l=>
    rw[el] at htx
    cases htx
    obtain⟨lo,le,lf⟩:=R.at_ el
    have st:zan G (upd G t (.tup [.int (i:Int),.str l.text])):=zan.new nt
    have ht:SqT K (upd G t (.tup [.int (i:Int),.str l.text])) t [.int (i:Int),.str l.text]:=SqT.of zab
    generalize upd G t (.tup [.int (i:Int),.str l.text])=G1 at st ht ⊢
    refine⟨t,_,rfl,ht,rfl,_,_,rfl,_,_,rfl,rfl,?_⟩
    dsimp only[zaI]
    refine⟨_,rfl,_,rfl,x,r,_,l,rfl,lo,NG.same st,lf,le,fun vx H4 kp4 N4=>?_⟩
    refine⟨_,_,rfl,ap.kp (sg.trans st) kp4,kp4 _ _ (st _ _ hy) apy.1 apy.2.1 apy.2.2.1 apy.2.2.2.1 apy.2.2.2.2,?_⟩
    rw[zaw el]
    unfold zjz at N4 ⊢
    rw[List.foldl_append]
    exact N4
   ·rintro σ G ⟨v2,v3,rfl,sg,hy,NG⟩
    rw[List.length_map,List.length_map,List.take_length] at NG
    exact⟨_,rfl,k x r G sg ap NG⟩
end
end K04
namespace K04
open PySem L2
theorem jn2 (x y:Str):Txt.join bk [x,y]=x++bk++y:=StrLaws.glued_eq_join _ _
theorem jn3 (x y z:Str):Txt.join bk [x,y,z]=x++bk++(y++bk++z):=StrLaws.glued_eq_join _ _
theorem jn4 (x y z u:Str):Txt.join bk [x,y,z,u]=x++bk++(y++bk++(z++bk++u)):=StrLaws.glued_eq_join _ _
theorem jn5 (x y z u v:Str):Txt.join bk [x,y,z,u,v]=x++bk++(y++bk++(z++bk++(u++bk++v))):=StrLaws.glued_eq_join _ _
def ptL (n:Str) (h:Int):Ln:=if h=0 then .pt n [] else .pt n [h]
def arL (o t:Str) (s w:Int):Ln:=if w≠1 then .ar o t [s,w] else if s≠1 then .ar o t [s] else .ar o t []
theorem zg9 (s:Str):Str.empty++s=s:=PySem.W.KT.empty_app s
theorem zlY:Str.ofString "point "=Str.ofString "point"++bk:=by decide
theorem zlZ:Str.ofString "arrow "=Str.ofString "arrow"++bk:=by decide
theorem k_sm:Str.ofString "same "=Str.ofString "same"++bk:=by decide
theorem k_ms:Str.ofString "most "=Str.ofString "most"++bk:=by decide
theorem la {x y:Str}{m n:Nat} (h1:x.length≤m) (h2:y.length≤n):(x++y).length≤m + n:=by
 rw[PySem.Str.length_append]
 omega
theorem ls {x:Str}{m:Nat} (h:x.length≤m) (hm:m≤1000):x.length≤sizeLine:=by
 rw[sizeLine_eq]
 omega
theorem zbM {n:Int} (h:NOk n):n.natAbs.log2<1920:=by
 obtain⟨h0,h1⟩:=h
 by_cases z:n.natAbs=0
 ·rw[z]
  decide
 ·have:n.natAbs.log2<24:=(Nat.log2_lt z).mpr (by show n.natAbs<16777216;omega)
  omega
theorem tn7 {n:Int} (h:NOk n):(tn n).length≤7:=(zjx h.1 h.2).2
theorem c10:(Str.ofString "point ").length≤6∧(Str.ofString "arrow ").length≤6∧(Str.ofString "same ").length≤6∧(Str.ofString "most ").length≤6∧bk.length≤1∧Str.empty.length≤0:=by decide
section
variable {P:Program}{w:World}{K:PySem.W.Frag}{mg:Str→Option Value}{base:Heap}{a:Adr}
def zha:Sp:=fun vs H Q _=>∃ n h,vs=[.str n,.int h]∧zaE n=true∧NOk h∧Q (.str (ptL n h).text) H
theorem zfM (T:Tx K mg a):Cal P w K mg base CX0 1 "point_line" ["name","half"] [] zha:=T.d_point_line.cal fun f fd F=>by
 refine F.ok zfA (fun vs H Q E h=>?_) (fun cdv A outer s H vs Q E hr h=>?_)
 ·obtain⟨n,h,rfl,_⟩:=h
  rfl
 ·obtain⟨n,h,rfl,hn,hh,k⟩:=h
  have n8:=(zaB hn).2
  obtain⟨p6,a6,s6,m6,b1,e0⟩:=c10
  have l1:=la e0 p6
  have l2:=la l1 n8
  refine⟨_,(zac (zaM (zaq zd0 (pv 1) zai (zax _)) (zag (zaA (zbT (zaz zav (zaz (zbK (pv 0)) zeC))))) zap)
   (zag (zaA (zbT (zaz zav (zaz (zbK (pv 0)) (zaz zav (zaz (zeB (pv 1)) zeC)))))))),?_⟩
  refine⟨_,rfl,rfl,_,rfl,?_⟩
  refine zbA (fun c=>?_) (fun c=>?_)
  ·have e:h=0:=by simpa using c
   refine⟨_,rfl,ls l1 (by decide),_,rfl,n,rfl,ls n8 (by decide),_,rfl,ls l2 (by decide),ls l2 (by decide),?_⟩
   rw[show(ptL n h).text=Str.empty++Str.ofString "point "++n by unfold ptL;rw[if_pos e,zg9,zlY];exact jn2 _ _] at k
   exact k
  ·have e:¬ h=0:=by simpa using c
   have l3:=la l2 b1
   have l4:=la l3 (tn7 hh)
   refine⟨_,rfl,ls l1 (by decide),_,rfl,n,rfl,ls n8 (by decide),_,rfl,ls l2 (by decide),_,rfl,ls l3 (by decide),_,rfl,h,rfl,zbM hh,_,rfl,ls l4 (by decide),ls l4 (by decide),?_⟩
   rw[show(ptL n h).text=Str.empty++Str.ofString "point "++n++bk++tn h by unfold ptL;rw[if_neg e,zg9,zlY,PySem.Str.append_assoc,PySem.Str.append_assoc,← PySem.Str.append_assoc n];exact jn3 _ _ _] at k
   exact k
def zhb:Sp:=fun vs H Q _=>∃ o t s w,vs=[.str o,.str t,.int s,.int w]∧zaE o=true∧zaE t=true∧NOk s∧NOk w∧Q (.str (arL o t s w).text) H
theorem zfN (T:Tx K mg a):Cal P w K mg base CX0 1 "arrow_line" ["one","other","span","weight"] [] zhb:=T.d_arrow_line.cal fun f fd F=>by
 refine F.ok zfB (fun vs H Q E h=>?_) (fun cdv A outer s H vs Q E hr h=>?_)
 ·obtain⟨o,t,s,w,rfl,_⟩:=h
  rfl
 ·obtain⟨o,t,sp,wt,rfl,ho,ht,hs,hw,k⟩:=h
  have o8:=(zaB ho).2
  have t8:=(zaB ht).2
  obtain⟨p6,a6,s6,m6,b1,e0⟩:=c10
  have l1:=la e0 a6
  have l2:=la l1 o8
  have l3:=la l2 b1
  have l4:=la l3 t8
  have l5:=la l4 b1
  have l6:=la l5 (tn7 hs)
  have l7:=la l6 b1
  have l8:=la l7 (tn7 hw)
  refine⟨_,(zac (zaM (zaq zgO (pv 3) zai (zax _)) (zag (zaA (zbT (zaz zav (zaz (zbK (pv 0)) (zaz zav (zaz (zbK (pv 1)) (zaz zav (zaz (zeB (pv 2)) (zaz zav (zaz (zeB (pv 3)) zeC))))))))))) zap)
   (zac (zaM (zaq zgO (pv 2) zai (zax _)) (zag (zaA (zbT (zaz zav (zaz (zbK (pv 0)) (zaz zav (zaz (zbK (pv 1)) (zaz zav (zaz (zeB (pv 2)) zeC))))))))) zap)
   (zag (zaA (zbT (zaz zav (zaz (zbK (pv 0)) (zaz zav (zaz (zbK (pv 1)) zeC))))))))),?_⟩
  refine⟨_,rfl,rfl,_,rfl,?_⟩
  refine zbA (fun c=>?_) (fun c=>?_)
  ·have e:wt≠1:=by simpa using c
   refine⟨_,rfl,ls l1 (by decide),_,rfl,o,rfl,ls o8 (by decide),_,rfl,ls l2 (by decide),_,rfl,ls l3 (by decide),_,rfl,t,rfl,ls t8 (by decide),_,rfl,ls l4 (by decide),_,rfl,ls l5 (by decide),_,rfl,sp,rfl,zbM hs,_,rfl,ls l6 (by decide),_,rfl,ls l7 (by decide),_,rfl,wt,rfl,zbM hw,_,rfl,ls l8 (by decide),ls l8 (by decide),?_⟩
   rw[show(arL o t sp wt).text=Str.empty++Str.ofString "arrow "++o++bk++t++bk++tn sp++bk++tn wt by
    unfold arL
    rw[if_pos e,zg9,zlZ]
    refine(jn5 _ _ _ _ _).trans ?_
    simp only[PySem.Str.append_assoc]] at k
   exact k
  ·have e:¬ wt≠1:=by simpa using c
   refine⟨_,rfl,rfl,_,rfl,?_⟩
   refine zbA (fun c2=>?_) (fun c2=>?_)
   ·have e2:sp≠1:=by simpa using c2
    refine⟨_,rfl,ls l1 (by decide),_,rfl,o,rfl,ls o8 (by decide),_,rfl,ls l2 (by decide),_,rfl,ls l3 (by decide),_,rfl,t,rfl,ls t8 (by decide),_,rfl,ls l4 (by decide),_,rfl,ls l5 (by decide),_,rfl,sp,rfl,zbM hs,_,rfl,ls l6 (by decide),ls l6 (by decide),?_⟩
    rw[show(arL o t sp wt).text=Str.empty++Str.ofString "arrow "++o++bk++t++bk++tn sp by
     unfold arL
     rw[if_neg e,if_pos e2,zg9,zlZ]
     refine(jn4 _ _ _ _).trans ?_
     simp only[PySem.Str.append_assoc]] at k
    exact k
   ·have e2:¬ sp≠1:=by simpa using c2
    refine⟨_,rfl,ls l1 (by decide),_,rfl,o,rfl,ls o8 (by decide),_,rfl,ls l2 (by decide),_,rfl,ls l3 (by decide),_,rfl,t,rfl,ls t8 (by decide),_,rfl,ls l4 (by decide),ls l4 (by decide),?_⟩
    rw[show(arL o t sp wt).text=Str.empty++Str.ofString "arrow "++o++bk++t by
     unfold arL
     rw[if_neg e,if_neg e2,zg9,zlZ]
     refine(jn3 _ _ _).trans ?_
     simp only[PySem.Str.append_assoc]] at k
    exact k
def zko (K:PySem.W.Frag) (a:Adr):Sp:=fun vs H Q E=>∃ p r v n x,vs=[.ref p,.str n]∧za4 K a.Net H p r v∧zco v.kvs (Sum.inr n)=some x∧∀ H',zan H H'→Q x H'
theorem zdJ (T:Tx K mg a):zgH P w K mg base (CXe P w) 4 a.Net "half_of" ["self","name"] [] (zko K a):=T.m_Net_half_of.cal fun f fd F=>by
 have m_Net_need_point:=zjm (P:=P) (w:=w) (base:=base) T
 refine F.okX zeY (fun vs H Q E h=>?_) (fun cdv A outer s H vs Q E hr h=>?_)
 ·obtain⟨p,r,v,n,x,rfl,_⟩:=h
  rfl
 ·obtain⟨p,r,v,n,x,rfl,N,hv,k⟩:=h
  obtain⟨dx,hp⟩:=N.ex
  have hh:has v.kvs n=true:=by unfold has;rw[hv];rfl
  refine⟨_,(zac (zaC (zaK (pv 0) T.c_Net m_Net_need_point zaJ (hr.mono (by decide)) (zaa (pv 1) zad)))
   (zag (zaA (zb3 (zcL hr) (zbD (pv 0) rfl) (pv 1) (fun _ _=>rfl))))),?_⟩
  refine⟨_,rfl,p,dx,_,rfl,hp,by rfl,_,rfl,p,r,v,n,rfl,N,fun _ H1 s1=>?_,fun c=>absurd c (by rw[hh];decide)⟩
  have N1:=N.same s1
  obtain⟨dx1,hp1⟩:=N1.ex
  exact⟨_,rfl,p,a.Net,dx1,_,_,rfl,hp1,T.c_Net,T.na_Net_halves,zcF,_,rfl,r.dh,x,rfl,by rw[← hv];exact zgF.k (k:=Sum.inr n) N1.hh,k H1 s1⟩
end
end K04
namespace K04
open PySem L2
abbrev Pt:=Str×Int
def zct (q:Pt):Key×V:=(Sum.inr q.1,.int q.2)
structure zkP (pts:List Pt) (v:zbt):Prop where
 kv:v.kvs=pts.map zct
 nd:(pts.map Prod.fst).Nodup
 nm:∀ q∈pts,zaE q.1=true∧0≤q.2∧q.2≤50
 ar:∀ q∈v.arr,zaE q.one=true∧zaE q.other=true∧NOk q.span∧NOk q.weight
 ss:∀ q∈v.ss,zaE q.1=true∧zaE q.2=true
 mm:∀ q∈v.mm,zaE q.1=true∧zaE q.2.1=true∧NOk q.2.2
 l1:pts.length≤20
 l2:v.arr.length≤40
 l3:v.ss.length≤20
 l4:v.mm.length≤20
def zgv (pts:List Pt):List Ln:=pts.map fun q=>ptL q.1 q.2
def ze1 (ar:List Ar):List Ln:=ar.map fun q=>arL q.one q.other q.span q.weight
def zeR (ss:List (Str×Str)):List Ln:=ss.map fun q=>.sm q.1 q.2
def zfT (mm:List (Str×Str×Int)):List Ln:=mm.map fun q=>.ms q.1 q.2.1 q.2.2
def zfO (pts:List Pt) (v:zbt):List Ln:=zgv pts++ze1 v.arr++zeR v.ss++zfT v.mm
theorem zgw:∀ {l:List Str},l.Nodup→(l.map fun s=>(Sum.inr s:Key)).Nodup
 | [],_=>List.nodup_nil
 | x::l,h=>by
  rw[List.nodup_cons] at h
  rw[List.map_cons,List.nodup_cons]
  refine⟨fun z=>?_,zgw h.2⟩
  obtain⟨y,hy,e⟩:=List.mem_map.mp z
  rw[Sum.inr.inj e] at hy
  exact h.1 hy
theorem un_ar {K:PySem.W.Frag}{H:Hp}{x:V}{q:Ar} (h:DtV K H (arD q) x):∃ t,x=.ref t∧SqT K H t [.int q.num,.str q.one,.str q.other,.int q.span,.int q.weight]:=by
 obtain⟨t,xs,rfl,h1,y1,ys1,rfl,rfl,y2,ys2,rfl,rfl,y3,ys3,rfl,rfl,y4,ys4,rfl,rfl,y5,ys5,rfl,rfl,h2⟩:=h
 rw[show ys5=[] from h2] at h1
 exact⟨t,rfl,h1⟩
theorem zlG {K:PySem.W.Frag}{H:Hp}{x:V}{q:Str×Str} (h:DtV K H (zcO q) x):∃ t,x=.ref t∧SqT K H t [.str q.1,.str q.2]:=by
 obtain⟨t,xs,rfl,h1,y1,ys1,rfl,rfl,y2,ys2,rfl,rfl,h2⟩:=h
 rw[show ys2=[] from h2] at h1
 exact⟨t,rfl,h1⟩
theorem zlH {K:PySem.W.Frag}{H:Hp}{x:V}{q:Str×Str×Int} (h:DtV K H (zcP q) x):∃ t,x=.ref t∧SqT K H t [.str q.1,.str q.2.1,.int q.2.2]:=by
 obtain⟨t,xs,rfl,h1,y1,ys1,rfl,rfl,y2,ys2,rfl,rfl,y3,ys3,rfl,rfl,h2⟩:=h
 rw[show ys3=[] from h2] at h1
 exact⟨t,rfl,h1⟩
theorem zbb {K:PySem.W.Frag}{H:Hp}:∀ {ds:List Dt}{ys:List V},zbu K H ds ys→ds.length=ys.length
 | [],_,h=>by rw[show _=[] from h];rfl
 | d::ds,_,h=>by
  obtain⟨x,xs,rfl,h1,h2⟩:=h
  rw[List.length_cons,List.length_cons,zbb h2]
abbrev txs (l:List Ln):List V:=(l.map Ln.text).map V.str
theorem zaU (l:List Ln):(txs l).length=l.length:=by rw[List.length_map,List.length_map]
theorem zbL (l m:List Ln):txs (l++m)=txs l++txs m:=by
 unfold txs
 rw[List.map_append,List.map_append]
theorem zb2 {α:Type}{f:α→Ln}{xs:List α}{i:Nat}{x:α} (h:xs[i]?=some x):txs ((xs.take (i + 1)).map f)=txs ((xs.take i).map f)++[.str (f x).text]:=by
 rw[zaw h,List.map_append,zbL]
 rfl
theorem zd8 {ls:List Ln} (h:∀ l∈ls,l.Ok) (hl:ls.length≤200):((ls.map Ln.text).map (·.length)).sum + (ls.map Ln.text).length * nl.length≤16777216:=by
 have:=zhF (f:=fun s:Str=>s.length) (n:=45) (l:=ls.map Ln.text) fun x hx=>by
  obtain⟨l,hl,rfl⟩:=List.mem_map.mp hx
  exact Ln.len (h l hl)
 rw[List.length_map] at this ⊢
 rw[show nl.length=1 from rfl]
 omega
theorem ptL_ok {n:Str}{h:Int} (hn:zaE n=true) (hh:NOk h):(ptL n h).Ok:=by
 unfold ptL
 split
 ·exact⟨hn,by decide,fun _ z=>by cases z⟩
 ·exact⟨hn,by show 1≤1;decide,fun m hm=>by rw[List.mem_singleton.mp hm];exact hh⟩
theorem arL_ok {o t:Str}{s w:Int} (ho:zaE o=true) (ht:zaE t=true) (hs:NOk s) (hw:NOk w):(arL o t s w).Ok:=by
 unfold arL
 split
 ·refine⟨ho,ht,by show 2≤2;decide,fun m hm=>?_⟩
  rcases List.mem_cons.mp hm with rfl|hm
  ·exact hs
  ·rw[List.mem_singleton.mp hm]
   exact hw
 ·split
  ·exact⟨ho,ht,by show 1≤2;decide,fun m hm=>by rw[List.mem_singleton.mp hm];exact hs⟩
  ·exact⟨ho,ht,by decide,fun _ z=>by cases z⟩
theorem zkP.oks {pts:List Pt}{v:zbt} (W:zkP pts v):(∀ l∈zgv pts,l.Ok)∧(∀ l∈ze1 v.arr,l.Ok)∧(∀ l∈zeR v.ss,l.Ok)∧(∀ l∈zfT v.mm,l.Ok):=by
 refine⟨fun l hl=>?_,fun l hl=>?_,fun l hl=>?_,fun l hl=>?_⟩ <;> obtain⟨q,hq,rfl⟩:=List.mem_map.mp hl
 ·have:=W.nm q hq
  exact ptL_ok this.1 ⟨this.2.1,by omega⟩
 ·obtain⟨h1,h2,h3,h4⟩:=W.ar q hq
  exact arL_ok h1 h2 h3 h4
 ·exact W.ss q hq
 ·exact W.mm q hq
theorem zd9 {pts:List Pt} (nd:(pts.map Prod.fst).Nodup){q:Pt} (h:q∈pts):zco (pts.map zct) (Sum.inr q.1)=some (.int q.2):=by
 have n2:((pts.map zct).map (·.1)).Nodup:=by
  rw[List.map_map,show((fun x:Key×V=>x.1) ∘ zct)=(fun s:Str=>(Sum.inr s:Key)) ∘ Prod.fst from rfl,← List.map_map]
  exact zgw nd
 exact zhy n2 (zct q) (List.mem_map_of_mem h)
section
variable {P:Program}{w:World}{K:PySem.W.Frag}{mg:Str→Option Value}{base:Heap}{a:Adr}
def zjB (K:PySem.W.Frag) (a:Adr):Sp:=fun vs H Q _=>∃ p r v pts,vs=[.ref p]∧za4 K a.Net H p r v∧zkP pts v∧∀ H',zan H H'→Q (.str (zcs (zfO pts v))) H'
set_option maxHeartbeats 1000000 in
theorem zhc (T:Tx K mg a):Cal P w K mg base CX0 6 "net_text" ["net"] [] (zjB K a):=T.d_net_text.cal fun f fd F=>by
 have c_point_line:=zfM (P:=P) (w:=w) (base:=base) T
 have c_arrow_line:=zfN (P:=P) (w:=w) (base:=base) T
 have m_Net_half_of:=zdJ (P:=P) (w:=w) (base:=base) T
 have m_Net_points:=zdp (P:=P) (w:=w) (base:=base) T
 have m_Net_arrows:=zdq (P:=P) (w:=w) (base:=base) T
 have m_Net_sames:=zfI (P:=P) (w:=w) (base:=base) T
 have m_Net_mosts:=zfJ (P:=P) (w:=w) (base:=base) T
 refine F.ok zeI (fun vs H Q E h=>?_) (fun cdv A outer s H vs Q E hr h=>?_)
 ·obtain⟨p,r,v,pts,rfl,_⟩:=h
  rfl
 ·obtain⟨p,r,v,pts,rfl,N,W,k⟩:=h
  obtain⟨dx,hp⟩:=N.ex
  refine⟨_,(zac (zdC (i:=1) zeI.nd rfl rfl (N:=["name","net"]) (cap:=[none,some 0]) rfl (zbd (osc:=zah zbP) (XN:=["net","lines"]) rfl rfl (by decide +kernel)) (zaS (za1 (pv 0) T.c_Net m_Net_points (hr.mono (by decide)))) (fun cl C s H fp pins=>(zak (i:=0) (show(["name","net"]:List Str).Nodup by decide +kernel) rfl (by first|exact Or.inl rfl|exact Or.inr rfl))) (fun cl C s H fp pins=>zaY) (fun cl C s H fp pins=>(zaD c_point_line (hr.mono (by decide)) rfl (zaa (pv 0) (zaa (zaK (pv 1) T.c_Net m_Net_half_of za5 (hr.mono (by decide)) (zaa (pv 0) zad)) zad)))) (hsw:=rfl))
   (zac (zaC (zbN PySem.F.plainAttrs_list PySem.F.slot_list_extend PySem.F.type_list_extend zen (pv 1) (zaa (zbh (N:=["number","one","other","span","weight"]) (cap:=[none,none,none,none,none]) rfl (zbd (osc:=zah zbP) (XN:=["net","lines"]) rfl rfl (by decide +kernel)) (zaS (za1 (pv 0) T.c_Net m_Net_arrows (hr.mono (by decide)))) (fun cl C s H fp pins=>(zb5 (K:=K) (n:=5) rfl rfl (zaj (zak (i:=0) (show(["number","one","other","span","weight"]:List Str).Nodup by decide +kernel) rfl (by first|exact Or.inl rfl|exact Or.inr rfl)) (zaj (zak (i:=1) (show(["number","one","other","span","weight"]:List Str).Nodup by decide +kernel) rfl (by first|exact Or.inl rfl|exact Or.inr rfl)) (zaj (zak (i:=2) (show(["number","one","other","span","weight"]:List Str).Nodup by decide +kernel) rfl (by first|exact Or.inl rfl|exact Or.inr rfl)) (zaj (zak (i:=3) (show(["number","one","other","span","weight"]:List Str).Nodup by decide +kernel) rfl (by first|exact Or.inl rfl|exact Or.inr rfl)) (zaj (zak (i:=4) (show(["number","one","other","span","weight"]:List Str).Nodup by decide +kernel) rfl (by first|exact Or.inl rfl|exact Or.inr rfl)) zaN))))))) (fun cl C s H fp pins=>zaY) (fun cl C s H fp pins=>(zaD c_arrow_line (hr.mono (by decide)) rfl (zaa (pv 1) (zaa (pv 2) (zaa (pv 3) (zaa (pv 4) zad))))))) zad)))
   (zac (zaC (zbN PySem.F.plainAttrs_list PySem.F.slot_list_extend PySem.F.type_list_extend zen (pv 1) (zaa (zbh (N:=["one","other"]) (cap:=[none,none]) rfl (zbd (osc:=zah zbP) (XN:=["net","lines"]) rfl rfl (by decide +kernel)) (zaS (za1 (pv 0) T.c_Net m_Net_sames (hr.mono (by decide)))) (fun cl C s H fp pins=>(zb5 (K:=K) (n:=2) rfl rfl (zaj (zak (i:=0) (show(["one","other"]:List Str).Nodup by decide +kernel) rfl (by first|exact Or.inl rfl|exact Or.inr rfl)) (zaj (zak (i:=1) (show(["one","other"]:List Str).Nodup by decide +kernel) rfl (by first|exact Or.inl rfl|exact Or.inr rfl)) zaN)))) (fun cl C s H fp pins=>zaY) (fun cl C s H fp pins=>(zbT (zaz zav (zaz (zbK (pv 0)) (zaz zav (zaz (zbK (pv 1)) zeC))))))) zad)))
   (zac (zaC (zbN PySem.F.plainAttrs_list PySem.F.slot_list_extend PySem.F.type_list_extend zen (pv 1) (zaa (zbh (N:=["one","other","number"]) (cap:=[none,none,none]) rfl (zbd (osc:=zah zbP) (XN:=["net","lines"]) rfl rfl (by decide +kernel)) (zaS (za1 (pv 0) T.c_Net m_Net_mosts (hr.mono (by decide)))) (fun cl C s H fp pins=>(zb5 (K:=K) (n:=3) rfl rfl (zaj (zak (i:=0) (show(["one","other","number"]:List Str).Nodup by decide +kernel) rfl (by first|exact Or.inl rfl|exact Or.inr rfl)) (zaj (zak (i:=1) (show(["one","other","number"]:List Str).Nodup by decide +kernel) rfl (by first|exact Or.inl rfl|exact Or.inr rfl)) (zaj (zak (i:=2) (show(["one","other","number"]:List Str).Nodup by decide +kernel) rfl (by first|exact Or.inl rfl|exact Or.inr rfl)) zaN))))) (fun cl C s H fp pins=>zaY) (fun cl C s H fp pins=>(zbT (zaz zav (zaz (zbK (pv 0)) (zaz zav (zaz (zbK (pv 1)) (zaz zav (zaz (zeB (pv 2)) zeC))))))))) zad)))
   (zag (zaA (zbN PySem.F.plainAttrs_str PySem.F.slot_str_join PySem.F.type_str_join zdD zav (zaa (pv 1) zad)))))))),?_⟩
  refine⟨_,rfl,p,dx,_,rfl,hp,by rfl,p,r,v,rfl,N,fun l nl_=>?_⟩
  rw[W.kv,show zc3 (pts.map zct)=(pts.map Prod.fst).map V.str by unfold zc3;rw[List.map_map,List.map_map];rfl]
  have w1:=W.l1
  have w2:=W.l2
  have w3:=W.l3
  have w4:=W.l4
  have s1:zan H (upd H l (.lst ((pts.map Prod.fst).map V.str))):=zan.new nl_
  have h1:upd H l (.lst ((pts.map Prod.fst).map V.str)) l=some (.lst ((pts.map Prod.fst).map V.str)):=zab
  generalize upd H l (.lst ((pts.map Prod.fst).map V.str))=H1 at s1 h1 ⊢
  refine⟨l,rfl,⟨_,SqL.of h1⟩,fun D hD=>?_⟩
  refine zaP (K:=K) (a:=l) (xs:=(pts.map Prod.fst).map V.str) (fun j τ G=>∃ v1,τ=[v1,some (.ref p)]∧zan H1 G∧G D=some (.lst (txs (zgv (pts.take j))))) ⟨none,rfl,zan.new hD,zab⟩ ?_ ?_ ?_
  ·rintro j τ G _ ⟨_,rfl,sg,_⟩
   exact SqL.of (sg _ _ h1)
  ·rintro j y τ G hy ⟨v1,rfl,sg,hG⟩
   obtain⟨z,hz,rfl⟩:=zbB hy
   rw[List.getElem?_map] at hz
   cases eq:pts[j]? with
   | none=>rw[eq] at hz;cases hz
   | some q=>
   rw[eq] at hz
   cases hz
   have mq:=List.mem_of_getElem? eq
   have hj:j<pts.length:=(List.getElem?_eq_some_iff.mp eq).1
   obtain⟨n1,n2,n3⟩:=W.nm q mq
   have NG:=N.same (s1.trans sg)
   obtain⟨dxg,hpg⟩:=NG.ex
   dsimp only[zaI,zeT]
   rw[if_pos rfl]
   refine⟨_,rfl,_,rfl,p,dxg,_,rfl,hpg,by rfl,_,rfl,p,r,v,q.1,.int q.2,rfl,NG,by rw[W.kv];exact zd9 W.nd mq,fun G1 sG1=>?_⟩
   refine⟨q.1,q.2,rfl,n1,⟨n2,by omega⟩,?_⟩
   refine⟨_,sG1 _ _ hG,by rw[zaU];unfold zgv;rw[List.length_map,List.length_take,sizeLine_eq];omega,_,rfl,zaF hD (sg.trans sG1),?_⟩
   rw[zab]
   unfold zgv
   rw[zb2 eq]
  rintro τ G ⟨v1,rfl,sg,hG⟩
  rw[List.length_map,List.length_map,List.take_length] at hG
  have sA:=s1.trans sg
  have nD:H D=none:=zbf s1 hD
  have NA:=N.same sA
  obtain⟨dxa,hpa⟩:=NA.ex
  refine⟨_,rfl,.inl ⟨rfl,_,SqL.of hG⟩,_,rfl,p,dxa,_,rfl,hpa,by rfl,p,r,v,rfl,NA,by rw[List.length_map];omega,fun l2 H2 xs2 s2 n2 h2 d2 _=>?_⟩
  refine⟨l2,rfl,⟨_,SqL.of h2⟩,fun D2 hD2=>?_⟩
  refine zaP (K:=K) (a:=l2) (xs:=xs2) (fun j τ G'=>∃ v1 v2 v3 v4 v5,τ=[v1,v2,v3,v4,v5]∧zan H2 G'∧G' D2=some (.lst (txs (ze1 (v.arr.take j))))) ⟨none,none,none,none,none,rfl,zan.new hD2,zab⟩ ?_ ?_ ?_
  ·rintro j τ G' _ ⟨_,_,_,_,_,rfl,sg',_⟩
   exact SqL.of (sg' _ _ h2)
  ·rintro j y τ G' hy ⟨v1,v2,v3,v4,v5,rfl,sg',hG'⟩
   obtain⟨q,eq,dq⟩:=zbS d2 hy
   obtain⟨t,rfl,ht⟩:=un_ar dq
   have hj:j<v.arr.length:=(List.getElem?_eq_some_iff.mp eq).1
   obtain⟨q1,q2,q3,q4⟩:=W.ar q (List.mem_of_getElem? eq)
   refine⟨t,_,rfl,(Tk.of sg').sqT ht,rfl,_,_,rfl,_,_,rfl,_,_,rfl,_,_,rfl,_,_,rfl,rfl,?_⟩
   dsimp only[zaI,zeT]
   rw[if_pos rfl]
   refine⟨_,rfl,_,rfl,_,rfl,_,rfl,q.one,q.other,q.span,q.weight,rfl,q1,q2,q3,q4,?_⟩
   refine⟨_,hG',by rw[zaU];unfold ze1;rw[List.length_map,List.length_take,sizeLine_eq];omega,_,_,_,_,_,rfl,zaF hD2 sg',?_⟩
   rw[zab]
   unfold ze1
   rw[zb2 eq]
  rintro τ G' ⟨v1,v2,v3,v4,v5,rfl,sg',hG'⟩
  rw[← zbb d2,List.length_map,List.take_length] at hG'
  have sB:=s2.trans sg'
  refine⟨D,D2,_,_,rfl,rfl,sB _ _ hG,hG',by rw[zaU,zaU];unfold zgv ze1;rw[List.length_map,List.length_map,sizeLine_eq];omega,?_⟩
  have s3:zan H (upd G' D (.lst (txs (zgv pts)++txs (ze1 v.arr)))):=zaF nD (sA.trans sB)
  have h3:upd G' D (.lst (txs (zgv pts)++txs (ze1 v.arr))) D=some (.lst (txs (zgv pts++ze1 v.arr))):=by rw[zab,zbL]
  generalize upd G' D (.lst (txs (zgv pts)++txs (ze1 v.arr)))=H3 at s3 h3 ⊢
  have N3:=N.same s3
  obtain⟨dx3,hp3⟩:=N3.ex
  refine⟨_,rfl,.inl ⟨rfl,_,SqL.of h3⟩,_,rfl,p,dx3,_,rfl,hp3,by rfl,p,r,v,rfl,N3,by rw[List.length_map];omega,fun l4 H4 xs4 s4 n4 h4 d4 _=>?_⟩
  refine⟨l4,rfl,⟨_,SqL.of h4⟩,fun D4 hD4=>?_⟩
  refine zaP (K:=K) (a:=l4) (xs:=xs4) (fun j τ G'=>∃ v1 v2,τ=[v1,v2]∧zan H4 G'∧G' D4=some (.lst (txs (zeR (v.ss.take j))))) ⟨none,none,rfl,zan.new hD4,zab⟩ ?_ ?_ ?_
  ·rintro j τ G' _ ⟨_,_,rfl,sg',_⟩
   exact SqL.of (sg' _ _ h4)
  ·rintro j y τ G' hy ⟨v1,v2,rfl,sg',hG'⟩
   obtain⟨q,eq,dq⟩:=zbS d4 hy
   obtain⟨t,rfl,ht⟩:=zlG dq
   have hj:j<v.ss.length:=(List.getElem?_eq_some_iff.mp eq).1
   obtain⟨q1,q2⟩:=W.ss q (List.mem_of_getElem? eq)
   have o8:=(zaB q1).2
   have t8:=(zaB q2).2
   obtain⟨p6,a6,s6,m6,b1,e0⟩:=c10
   have k1:=la e0 s6
   have k2:=la k1 o8
   have k3:=la k2 b1
   have k4:=la k3 t8
   refine⟨t,_,rfl,(Tk.of sg').sqT ht,rfl,_,_,rfl,_,_,rfl,rfl,?_⟩
   dsimp only[zaI,zeT]
   rw[if_pos rfl]
   refine⟨_,rfl,ls k1 (by decide),_,rfl,q.1,rfl,ls o8 (by decide),_,rfl,ls k2 (by decide),_,rfl,ls k3 (by decide),_,rfl,q.2,rfl,ls t8 (by decide),_,rfl,ls k4 (by decide),ls k4 (by decide),?_⟩
   refine⟨_,hG',by rw[zaU];unfold zeR;rw[List.length_map,List.length_take,sizeLine_eq];omega,_,_,rfl,zaF hD4 sg',?_⟩
   rw[zab]
   unfold zeR
   rw[zb2 eq,show(Ln.sm q.1 q.2).text=Str.empty++Str.ofString "same "++q.1++bk++q.2 by
    rw[zg9,k_sm]
    refine(jn3 _ _ _).trans ?_
    simp only[PySem.Str.append_assoc]]
  rintro τ G4 ⟨v1,v2,rfl,sg4,hG4⟩
  rw[← zbb d4,List.length_map,List.take_length] at hG4
  have sC:=s4.trans sg4
  refine⟨D,D4,_,_,rfl,rfl,sC _ _ h3,hG4,by rw[zaU,zaU,List.length_append];unfold zgv ze1 zeR;rw[List.length_map,List.length_map,List.length_map,sizeLine_eq];omega,?_⟩
  have s5:zan H (upd G4 D (.lst (txs (zgv pts++ze1 v.arr)++txs (zeR v.ss)))):=zaF nD (s3.trans sC)
  have h5:upd G4 D (.lst (txs (zgv pts++ze1 v.arr)++txs (zeR v.ss))) D=some (.lst (txs (zgv pts++ze1 v.arr++zeR v.ss))):=by rw[zab,zbL (zgv pts++ze1 v.arr)]
  generalize upd G4 D (.lst (txs (zgv pts++ze1 v.arr)++txs (zeR v.ss)))=H5 at s5 h5 ⊢
  have N5:=N.same s5
  obtain⟨dx5,hp5⟩:=N5.ex
  refine⟨_,rfl,.inl ⟨rfl,_,SqL.of h5⟩,_,rfl,p,dx5,_,rfl,hp5,by rfl,p,r,v,rfl,N5,by rw[List.length_map];omega,fun l6 H6 xs6 s6' n6 h6 d6 _=>?_⟩
  refine⟨l6,rfl,⟨_,SqL.of h6⟩,fun D6 hD6=>?_⟩
  refine zaP (K:=K) (a:=l6) (xs:=xs6) (fun j τ G'=>∃ v1 v2 v3,τ=[v1,v2,v3]∧zan H6 G'∧G' D6=some (.lst (txs (zfT (v.mm.take j))))) ⟨none,none,none,rfl,zan.new hD6,zab⟩ ?_ ?_ ?_
  ·rintro j τ G' _ ⟨_,_,_,rfl,sg',_⟩
   exact SqL.of (sg' _ _ h6)
  ·rintro j y τ G' hy ⟨v1,v2,v3,rfl,sg',hG'⟩
   obtain⟨q,eq,dq⟩:=zbS d6 hy
   obtain⟨t,rfl,ht⟩:=zlH dq
   have hj:j<v.mm.length:=(List.getElem?_eq_some_iff.mp eq).1
   obtain⟨q1,q2,q3⟩:=W.mm q (List.mem_of_getElem? eq)
   have o8:=(zaB q1).2
   have t8:=(zaB q2).2
   obtain⟨p6,a6,s6,m6,b1,e0⟩:=c10
   have k1:=la e0 m6
   have k2:=la k1 o8
   have k3:=la k2 b1
   have k4:=la k3 t8
   have k5:=la k4 b1
   have k6:=la k5 (tn7 q3)
   refine⟨t,_,rfl,(Tk.of sg').sqT ht,rfl,_,_,rfl,_,_,rfl,_,_,rfl,rfl,?_⟩
   dsimp only[zaI,zeT]
   rw[if_pos rfl]
   refine⟨_,rfl,ls k1 (by decide),_,rfl,q.1,rfl,ls o8 (by decide),_,rfl,ls k2 (by decide),_,rfl,ls k3 (by decide),_,rfl,q.2.1,rfl,ls t8 (by decide),_,rfl,ls k4 (by decide),_,rfl,ls k5 (by decide),_,rfl,q.2.2,rfl,zbM q3,_,rfl,ls k6 (by decide),ls k6 (by decide),?_⟩
   refine⟨_,hG',by rw[zaU];unfold zfT;rw[List.length_map,List.length_take,sizeLine_eq];omega,_,_,_,rfl,zaF hD6 sg',?_⟩
   rw[zab]
   unfold zfT
   rw[zb2 eq,show(Ln.ms q.1 q.2.1 q.2.2).text=Str.empty++Str.ofString "most "++q.1++bk++q.2.1++bk++tn q.2.2 by
    rw[zg9,k_ms]
    refine(jn4 _ _ _ _).trans ?_
    simp only[PySem.Str.append_assoc]]
   rfl
  rintro τ G6 ⟨v1,v2,v3,rfl,sg6,hG6⟩
  rw[← zbb d6,List.length_map,List.take_length] at hG6
  have sD:=s6'.trans sg6
  have ll:(zfO pts v).length≤100:=by
   unfold zfO zgv ze1 zeR zfT
   simp only[List.length_append,List.length_map]
   omega
  refine⟨D,D6,_,_,rfl,rfl,sD _ _ h5,hG6,by rw[← List.length_append,← zbL,zaU,sizeLine_eq];unfold zfO at ll;omega,?_⟩
  rw[← zbL]
  obtain⟨o1,o2,o3,o4⟩:=W.oks
  refine⟨rfl,_,rfl,_,D,(zfO pts v).map Ln.text,rfl,rfl,SqL.of zab,?_,k _ (zaF nD (s5.trans sD))⟩
  refine zd8 (fun l hl=>?_) (by omega)
  rcases List.mem_append.mp hl with hl|hl
  ·rcases List.mem_append.mp hl with hl|hl
   ·rcases List.mem_append.mp hl with hl|hl
    ·exact o1 l hl
    ·exact o2 l hl
   ·exact o3 l hl
  ·exact o4 l hl
end
end K04
namespace K04
open PySem L2
section
variable {P:Program}{w:World}{K:PySem.W.Frag}{mg:Str→Option Value}{base:Heap}{a:Adr}
def num (c k:Int):Int:=(c + 7919 * k + 1) * 48271 % 2147483647
def zbl (c k:Int):Int:=num c k * (num c k / 1009 + 69621) % 2147483647
theorem num_lo (c k:Int):0≤num c k:=Int.emod_nonneg _ (by decide)
theorem num_hi (c k:Int):num c k<2147483647:=Int.emod_lt_of_pos _ (by decide)
def zlI:Sp:=fun vs H Q _=>∃ c k,vs=[.int c,.int k]∧Q (.int (zbl c k)) H
theorem zea (T:Tx K mg a):Cal P w K mg base CX0 1 "_law_mixed" ["_law_cell","_law_k"] [] zlI:=T.d__law_mixed.cal fun f fd F=>by
 refine F.ok zdo (fun vs H Q E h=>?_) (fun cdv A outer s H vs Q E hr h=>?_)
 ·obtain⟨c,k,rfl,_⟩:=h
  rfl
 ·obtain⟨c,k,rfl,q⟩:=h
  refine⟨_,(zac (zaG (i:=2) zdo.nd rfl (by first|exact Or.inl rfl|exact Or.inr rfl) (zat zbc (zat zir (zat zbR (zat zbR (pv 0) (zat zir zai (pv 1))) zai) zai) zai))
   (zag (zaA (zat zbc (zat zir (pv 2) (zat zbR (zat zfl (pv 2) zai) zai)) zai)))),?_⟩
  refine⟨_,rfl,_,rfl,_,_,rfl,rfl,.inl ⟨by decide,by decide⟩,_,_,rfl,rfl,_,_,rfl,rfl,_,_,rfl,rfl,.inr ⟨by decide,by decide⟩,_,_,rfl,rfl,(by show(0:Int)<2147483647;decide),?_⟩
  have h1:=num_lo c k
  have h2:=num_hi c k
  refine⟨_,rfl,_,rfl,_,_,rfl,rfl,⟨by decide,by decide⟩,_,_,rfl,rfl,_,_,rfl,rfl,.inl ⟨?_,?_⟩,_,_,rfl,rfl,(by show(0:Int)<2147483647;decide),q⟩
  ·show -(2 ^ 64)<num c k
   omega
  ·show num c k<2 ^ 64
   omega
def zkp (K:PySem.W.Frag):Sp:=fun vs H Q _=>∃ p,∃ ns:List Int,∃ k,vs=[.ref p,.int k]∧SqL K H p (ns.map V.int)∧0≤k∧∀ c,Q (.int c) H
theorem zia (T:Tx K mg a):Cal P w K mg base CX0 1 "_law_cell_at" ["_law_script","_law_k"] [] (zkp K):=T.d__law_cell_at.cal fun f fd F=>by
 refine F.ok zeJ (fun vs H Q E h=>?_) (fun cdv A outer s H vs Q E hr h=>?_)
 ·obtain⟨p,ns,k,rfl,_⟩:=h
  rfl
 ·obtain⟨p,ns,k,rfl,hS,h0,q⟩:=h
  refine⟨_,(zac (zaM (zaq zf0 (pv 1) (zar zay rfl T.n_len za6 (zaa (pv 0) zad)) (zax _)) (zag (zaA (za3 zaT (pv 0) (pv 1) (fun _ _=>rfl)))) zap)
   (zag (zaA zai))),?_⟩
  refine⟨_,rfl,_,rfl,p,_,rfl,.inl hS,_,_,rfl,rfl,_,rfl,?_⟩
  refine zbA (fun c=>?_) (fun c=>?_)
  ·have h1:k<ns.length:=by
    have:=of_decide_eq_true c
    rwa [List.length_map] at this
   obtain⟨z,hz⟩:=at_int h0 h1
   exact⟨_,rfl,_,rfl,p,_,_,_,rfl,rfl,hS,hz,q z⟩
  ·exact q 0
end
end K04
namespace K04
open PySem L2
section
variable {P:Program}{w:World}{K:PySem.W.Frag}{mg:Str→Option Value}{base:Heap}{a:Adr}
theorem at_abc {z:Int} (h1:0≤z) (h2:z<26):atI abc.cps.toList z=some (abc.cps.toList.getD z.toNat 0):=by
 have hl:abc.cps.toList.length=26:=by decide +kernel
 have h3:z.toNat<abc.cps.toList.length:=by rw[hl];omega
 unfold atI ixN
 rw[if_pos h1,if_pos (by rw[hl];omega)]
 show abc.cps.toList[z.toNat]?=_
 rw[List.getD_eq_getElem?_getD,List.getElem?_eq_getElem h3]
 rfl
def ltr:Str:="bcdefghijklmnopqrstuv"
theorem at_ltr {k:Nat} (h:k<21):atI ltr.cps.toList (0 + (k:Int))=some (ltr.cps.toList.getD k 0):=by
 have hl:ltr.cps.toList.length=21:=by decide +kernel
 unfold atI ixN
 rw[if_pos (by omega),if_pos (by rw[hl];omega)]
 show ltr.cps.toList[(0 + (k:Int)).toNat]?=_
 rw[show(0 + (k:Int)).toNat=k by omega,List.getD_eq_getElem?_getD,List.getElem?_eq_getElem (by rw[hl];exact h)]
 rfl
theorem zjC:∀ k:Fin 21,zeZ (ltr.cps.toList.getD k.val 0)=true:=by decide +kernel
theorem zlJ:∀ i j:Fin 21,ltr.cps.toList.getD i.val 0=ltr.cps.toList.getD j.val 0→i=j:=by decide +kernel
theorem zjD:∀ k:Fin 26,zeZ (abc.cps.toList.getD k.val 0)=true:=by decide +kernel
theorem zhd (x y:Str):(x++y).length=x.length + y.length:=by
 show(x.cps++y.cps).size=_
 rw[Array.size_append]
 rfl
theorem zc8 (x y:Str):(x++y).cps.toList=x.cps.toList++y.cps.toList:=by
 show(x.cps++y.cps).toList=_
 rw[Array.toList_append]
theorem zjE (l:List Str):(Txt.join "" l).length=(l.map (·.length)).sum:=by
 cases l with
 | nil=>rfl
 | cons x r=>
  show(Builtin.Str.glued "" (x::r)).length=_
  rw[StrLaws.glued_eq_join,PyProof.Rows.len_join_cons,show(Str.ofString "").length=0 from by decide +kernel,Nat.mul_zero,Nat.add_zero]
theorem zkq:∀ {l:List Str}{c:Nat},c∈(Txt.join "" l).cps.toList→∃ x∈l,c∈x.cps.toList:=by
 intro l c h
 have e:Txt.join "" l=Str.join ⟨#[]⟩ l:=by
  show Builtin.Str.glued "" l=_
  rw[StrLaws.glued_eq_join,show(Str.ofString "")=(⟨#[]⟩:Str) from by decide +kernel]
 rw[e] at h
 clear e
 induction l with
 | nil=>exact absurd h (by show ¬ c∈(#[]:Array Nat).toList;simp)
 | cons x r ih=>
  rw[PyProof.Rows.join_nil_cons,zc8] at h
  rcases List.mem_append.mp h with z|z
  ·exact⟨x,List.mem_cons_self,z⟩
  ·obtain⟨y,hy,hc⟩:=ih z
   exact⟨y,List.mem_cons_of_mem _ hy,hc⟩
theorem zgx {x:Str}{lo hi:Option Int}{c:Nat} (h:c∈(Txt.slice x lo hi).cps.toList):c∈x.cps.toList:=by
 unfold Txt.slice at h
 split at h
 ·exact h
 ·have h':c∈(Builtin.Str.strSliceIndices lo hi 1 x.length).filterMap (x.cps[·]?):=by simpa using h
  obtain⟨i,_,e⟩:=List.mem_filterMap.mp h'
  rw[← Array.getElem?_toList] at e
  exact List.mem_of_getElem? e
def ze2 (st:Str) (at_:Int) (k:Nat):Str:=Txt.slice st none (some at_)++⟨#[ltr.cps.toList.getD k 0]⟩++Txt.slice st (some at_) none
theorem zgy {st:Str}{z:Int} (h0:0≤z) (h1:z≤st.length) (k:Nat):(ze2 st z k).length=st.length + 1:=by
 have e1:((Txt.slice st none (some z)).length:Int)=z:=by
  rcases PyProof.Rows.slice_ns_cases st z h0 with⟨_,e⟩|⟨e,_⟩
  ·exact e
  ·omega
 have e2:(Txt.slice st (some z) none).length=st.length - z.toNat:=by
  rw[PyProof.Rows.slice_from_eq h0 h1 rfl]
  show(List.toArray _).size=_
  rw[List.size_toArray,List.length_take,List.length_drop,Array.length_toList]
  have:st.cps.size=st.length:=rfl
  omega
 unfold ze2
 rw[zhd,zhd,e2]
 show _ + 1 + _=_
 omega
theorem zkr {st:Str}{z:Int}{k:Nat} (h0:0≤z) (h1:z≤st.length) (hs:st.length≤7) (hk:k<21) (ha:∀ c∈st.cps.toList,zeZ c=true):zaE (ze2 st z k)=true:=by
 have hl:=zgy h0 h1 k
 unfold zaE
 rw[decide_eq_true (by omega),decide_eq_true (by omega),Bool.true_and,Bool.true_and]
 refine List.all_eq_true.mpr fun c hc=>?_
 unfold ze2 at hc
 rw[zc8,zc8] at hc
 rcases List.mem_append.mp hc with z1|z1
 ·rcases List.mem_append.mp z1 with z2|z2
  ·exact ha c (zgx z2)
  ·have:c=ltr.cps.toList.getD k 0:=by simpa using z2
   rw[this]
   exact zjC ⟨k,hk⟩
 ·exact ha c (zgx z1)
theorem zjF {st:Str}{z:Int}{i j:Nat} (hi:i<21) (hj:j<21) (h:ze2 st z i=ze2 st z j):i=j:=by
 have h':(ze2 st z i).cps.toList=(ze2 st z j).cps.toList:=by rw[h]
 unfold ze2 at h'
 rw[zc8,zc8,zc8,zc8] at h'
 have h2:=List.append_cancel_right h'
 have h3:=List.append_cancel_left h2
 have h4:ltr.cps.toList.getD i 0=ltr.cps.toList.getD j 0:=by simpa using h3
 have:=zlJ ⟨i,hi⟩ ⟨j,hj⟩ h4
 exact Fin.mk.inj this
def zlK:Sp:=fun vs H Q _=>∃ c,vs=[.int c]∧∀ (l:Addr) (ws:List Str) (H':Hp),zan H H'→H' l=some (.lst (ws.map V.str))→ws.length≤20→(∀ x∈ws,zaE x=true∧x.length≤7)→ws.Nodup→Q (.ref l) H'
set_option maxHeartbeats 4000000 in
theorem zks (T:Tx K mg a):Cal P w K mg base CX0 2 "_law_names" ["_law_first"] [] zlK:=T.d__law_names.cal fun f fd F=>by
 have c__law_mixed:=zea (P:=P) (w:=w) (base:=base) T
 refine F.ok zbr (fun vs H Q E h=>?_) (fun cdv A outer s H vs Q E hr h=>?_)
 ·obtain⟨c,rfl,_⟩:=h
  rfl
 ·obtain⟨c,rfl,k⟩:=h
  have b0:0≤c % 7:=Int.emod_nonneg _ (by decide)
  have b1:c % 7<7:=Int.emod_lt_of_pos _ (by decide)
  refine⟨_,(zac (zaG (i:=1) zbr.nd rfl (by first|exact Or.inl rfl|exact Or.inr rfl) (zbN PySem.F.plainAttrs_str PySem.F.slot_str_join PySem.F.type_str_join zdD zav (zaa (zbh (N:=["_law_k","_law_first"]) (cap:=[none,some 0]) rfl (zbd (osc:=zah zb1) (XN:=["_law_first","_law_stem","_law_at","_law_many"]) rfl rfl (by decide +kernel)) (zfY rfl T.n_range (zaa (zat zbc (pv 0) zai) zad)) (fun cl C s H fp pins=>(zak (i:=0) (show(["_law_k","_law_first"]:List Str).Nodup by decide +kernel) rfl (by first|exact Or.inl rfl|exact Or.inr rfl))) (fun cl C s H fp pins=>zaY) (fun cl C s H fp pins=>(za3 ziD zav (zat zbc (zaD c__law_mixed (hr.mono (by decide)) rfl (zaa (pv 1) (zaa (pv 0) zad))) zai) (fun _ _=>rfl)))) zad)))
   (zac (zaG (i:=2) zbr.nd rfl (by first|exact Or.inl rfl|exact Or.inr rfl) (zat zbc (zat zfl (pv 0) zai) (zat zbR (zar zbG rfl T.n_len za6 (zaa (pv 1) zad)) zai)))
   (zac (zaG (i:=3) zbr.nd rfl (by first|exact Or.inl rfl|exact Or.inr rfl) (zat zbc (zat zfl (pv 0) zai) zai))
   (zac (zaM (zaq zd0 (zat zbc (zat zfl (pv 0) zai) zai) zai (zax _)) (zag (zaG (i:=3) zbr.nd rfl (by first|exact Or.inl rfl|exact Or.inr rfl) zai)) zap)
   (zag (zaA (zbh (N:=["_law_k","_law_stem","_law_at"]) (cap:=[none,some 1,some 2]) rfl (zbd (osc:=zah zb1) (XN:=["_law_first","_law_stem","_law_at","_law_many"]) rfl rfl (by decide +kernel)) (zfY rfl T.n_range (zaa (pv 3) zad)) (fun cl C s H fp pins=>(zak (i:=0) (show(["_law_k","_law_stem","_law_at"]:List Str).Nodup by decide +kernel) rfl (by first|exact Or.inl rfl|exact Or.inr rfl))) (fun cl C s H fp pins=>zaY) (fun cl C s H fp pins=>(zat zao (zat zao (zcg zkL (pv 1) zej (zcf (pv 2))) (za3 ziD zav (pv 0) (fun _ _=>rfl))) (zcg zkL (pv 1) (zcf (pv 2)) zej)))))))))),?_⟩
  refine⟨rfl,_,rfl,_,_,rfl,rfl,(by show(0:Int)<7;decide),c % 7,rfl,by omega,by omega,fun D hD=>?_⟩
  refine ze6 (n:=(c % 7).toNat) (fun i τ H'=>∃ v ys,τ=[v,some (.int c)]∧zan H H'∧H' D=some (.lst ((ys:List Str).map V.str))∧ys.length=i∧(ys.map (·.length)).sum=i∧∀ y∈ys,∀ ch∈y.cps.toList,zeZ ch=true) ⟨none,[],rfl,zan.new hD,zab,rfl,rfl,fun y hy=>by simp at hy⟩ ?_ ?_
  ·rintro i τ H' hi ⟨v,ys,rfl,sm,hl,y1,y2,y3⟩
   dsimp only[zaI,zeT]
   rw[if_pos rfl]
   have m0:0≤zbl c (0 + (i:Int)) % 26:=Int.emod_nonneg _ (by decide)
   have m1:zbl c (0 + (i:Int)) % 26<26:=Int.emod_lt_of_pos _ (by decide)
   refine⟨_,rfl,_,rfl,c,0 + (i:Int),rfl,_,_,rfl,rfl,(by show(0:Int)<26;decide),abc,_,_,rfl,rfl,(by decide +kernel),at_abc m0 m1,_,hl,?_,_,ys++[⟨#[abc.cps.toList.getD (zbl c (0 + (i:Int)) % 26).toNat 0]⟩],rfl,?_,?_,?_,?_,?_⟩
   ·rw[List.length_map,y1,sizeLine_eq]
    omega
   ·intro b o e
    rw[zaf (zae e hD)]
    exact sm b o e
   ·rw[zab,List.map_append]
    rfl
   ·rw[List.length_append,y1]
    rfl
   ·rw[List.map_append,List.sum_append,y2]
    rfl
   ·intro y hy ch hc
    rcases List.mem_append.mp hy with z|z
    ·exact y3 y z ch hc
    ·have:y=⟨#[abc.cps.toList.getD (zbl c (0 + (i:Int)) % 26).toNat 0]⟩:=List.mem_singleton.mp z
     subst this
     have:ch=abc.cps.toList.getD (zbl c (0 + (i:Int)) % 26).toNat 0:=by simpa using hc
     rw[this]
     exact zjD ⟨(zbl c (0 + (i:Int)) % 26).toNat,by omega⟩
  ·rintro τ H1 ⟨v,ys,rfl,s1,hl,y1,y2,y3⟩
   refine⟨_,D,ys,rfl,rfl,SqL.of hl,by rw[y1,y2];show(c % 7).toNat + (c % 7).toNat * 0≤16777216;omega,?_⟩
   have hj:=zjE ys
   rw[y2] at hj
   have l2:(Txt.join "" ys).length≤6:=by omega
   have hz:(Txt.join "" ys).length≤sizeLine:=by rw[sizeLine_eq];omega
   have sma:∀ ch∈(Txt.join "" ys).cps.toList,zeZ ch=true:=fun ch hc=>by
    obtain⟨y,hy,hc'⟩:=zkq hc
    exact y3 y hy ch hc'
   dsimp only[zaI]
   generalize Txt.join "" ys=st at l2 hz sma
   refine⟨_,rfl,_,_,rfl,rfl,⟨by decide,by decide⟩,_,rfl,st,rfl,hz,_,_,rfl,rfl,_,_,rfl,rfl,(by show(0:Int)<(st.length:Int) + 1;omega),?_⟩
   have a0:0≤c / 7 % ((st.length:Int) + 1):=Int.emod_nonneg _ (by omega)
   have a1:c / 7 % ((st.length:Int) + 1)<(st.length:Int) + 1:=Int.emod_lt_of_pos _ (by omega)
   dsimp only
   generalize c / 7 % ((st.length:Int) + 1)=at_ at a0 a1
   refine⟨_,rfl,_,_,rfl,rfl,⟨by decide,by decide⟩,_,_,rfl,rfl,(by show(0:Int)<13;decide),?_⟩
   dsimp only[zaI]
   have n0:0≤c / 49 % 13:=Int.emod_nonneg _ (by decide)
   have n1:c / 49 % 13<13:=Int.emod_lt_of_pos _ (by decide)
   generalize c / 49 % 13=m0 at n0 n1 ⊢
   apply zi8 (fun y:Int=>[some (.int c),some (.str st),some (.int at_),some (.int y)]) (fun y H'=>0≤y∧y≤20∧H1=H')
   case g=>
    intro zbx
    refine⟨_,rfl,_,_,rfl,rfl,⟨by decide,by decide⟩,_,_,rfl,rfl,(by show(0:Int)<8;decide),rfl,_,rfl,?_⟩
    refine zbA (fun _=>?_) (fun _=>?_)
    ·exact zbx 20 H1 ⟨by decide,by decide,rfl⟩
    ·exact zbx m0 H1 ⟨n0,by omega,rfl⟩
   case h=>
   rintro mny H1' ⟨y0,y20,rfl⟩
   refine⟨_,rfl,mny,rfl,by omega,by omega,fun D2 hD2=>?_⟩
   refine ze6 (n:=mny.toNat) (fun i τ H'=>∃ v,τ=[v,some (.str st),some (.int at_)]∧zan H1 H'∧H' D2=some (.lst (((List.range i).map (ze2 st at_)).map V.str))) ⟨none,rfl,zan.new hD2,zab⟩ ?_ ?_
   ·rintro i τ H' hi ⟨v,rfl,sm,hl2⟩
    have hi12:i<21:=by omega
    have sl:∀ lo hi,(Txt.slice st lo hi).length≤6:=fun lo hi=>Nat.le_trans (Txt.slice_le st lo hi) l2
    have one:∀ c:Nat,(⟨#[c]⟩:Str).length=1:=fun _=>rfl
    dsimp only[zaI,zeT]
    rw[if_pos rfl]
    refine⟨_,rfl,_,rfl,_,rfl,_,rfl,hz,_,rfl,ltr,_,_,rfl,rfl,(by decide +kernel),at_ltr hi12,_,_,rfl,rfl,?_,_,rfl,_,rfl,_,rfl,_,rfl,hz,_,_,rfl,rfl,?_,_,hl2,?_,_,rfl,?_,?_⟩
    ·have:=sl none (some at_)
     rw[sizeLine_eq,one]
     omega
    ·have:=sl none (some at_)
     have:=sl (some at_) none
     rw[sizeLine_eq,zhd,one]
     omega
    ·rw[List.length_map,List.length_map,List.length_range,sizeLine_eq]
     omega
    ·intro b o e
     rw[zaf (zae e hD2)]
     exact sm b o e
    ·rw[zab,List.range_succ,List.map_append,List.map_append]
     rfl
   ·rintro τ H2 ⟨v,rfl,sm,hl2⟩
    refine k D2 _ H2 (s1.trans sm) hl2 ?_ ?_ ?_
    ·rw[List.length_map,List.length_range]
     omega
    ·intro x hx
     obtain⟨i,hi,rfl⟩:=List.mem_map.mp hx
     have:=List.mem_range.mp hi
     exact⟨zkr a0 (by omega) (by omega) (by omega) sma,by rw[zgy a0 (by omega)];omega⟩
    ·refine List.nodup_iff_pairwise_ne.mpr ?_
     rw[List.pairwise_map]
     refine List.Pairwise.imp_of_mem ?_ List.nodup_range
     intro i j hi hj ne e
     have h1:=List.mem_range.mp hi
     have h2:=List.mem_range.mp hj
     exact ne (zjF (by omega) (by omega) e)
end
end K04
namespace K04
open PySem L2
structure zfU (K:PySem.W.Frag) (H:Hp) (d l m:Addr) (v:zbt):Prop where
 ar:∃ avs,H d=some (.dK avs)∧ze0 K H v.arr avs
 sm:∃ xs,H l=some (.lst xs)∧zbu K H (v.ss.map zcO) xs
 ms:∃ xs,H m=some (.lst xs)∧zbu K H (v.mm.map zcP) xs
 ne:l≠m
theorem zfU.same {K:PySem.W.Frag}{H H':Hp}{d l m:Addr}{v:zbt} (h:zfU K H d l m v) (s:zan H H'):zfU K H' d l m v:=by
 obtain⟨⟨avs,a1,a2⟩,⟨xs,b1,b2⟩,⟨ys,c1,c2⟩,n⟩:=h
 exact⟨⟨avs,s _ _ a1,(Tk.of s).arr a2⟩,⟨xs,s _ _ b1,s.dts b2⟩,⟨ys,s _ _ c1,s.dts c2⟩,n⟩
def zl0 (ar:List Ar):Prop:=ar.Pairwise fun x y=>x.num<y.num
structure Nw (pts:List Pt) (v:zbt) (i:Nat):Prop where
 w:zkP pts v
 rise:zl0 v.arr
 nn:∀ q∈v.arr,q.num<v.nn
 n0:0≤v.nn
 few:v.arr.length≤i
 ends:∀ q∈v.arr,q.one∈pts.map Prod.fst∧q.other∈pts.map Prod.fst∧q.one≠q.other∧1≤q.span∧q.span≤20∧1≤q.weight∧q.weight≤1000000
 es:∀ q∈v.ss,q.1∈pts.map Prod.fst∧q.2∈pts.map Prod.fst∧q.1≠q.2
 em:∀ q∈v.mm,q.1∈pts.map Prod.fst∧q.2.1∈pts.map Prod.fst∧q.1≠q.2.1∧0≤q.2.2∧q.2.2≤99
theorem zkQ {pts:List Pt}{x:Str} (h:x∈pts.map Prod.fst):has (pts.map zct) x=true:=by
 obtain⟨q,hq,rfl⟩:=List.mem_map.mp h
 unfold has
 cases e:zco (pts.map zct) (Sum.inr q.1) with
 | some x=>rfl
 | none=>exact absurd (List.mem_map.mpr ⟨zct q,List.mem_map_of_mem hq,rfl⟩) (zj6 e)
theorem zkR {pts:List Pt}{o t:Str} (ho:o∈pts.map Prod.fst) (ht:t∈pts.map Prod.fst) (ne:o≠t):two (pts.map zct) o t=none:=by
 unfold two
 rw[zkQ ho,zkQ ht]
 simp[ne]
theorem at2 {x y m:Int} (h0:0≤m) (h1:m<2):∃ u,atI [V.int x,V.int y] m=some (V.int u)∧(u=x∨u=y):=by
 rcases(by omega:m=0∨m=1) with e|e
 ·exact⟨x,by rw[e];rfl,.inl rfl⟩
 ·exact⟨y,by rw[e];rfl,.inr rfl⟩
theorem at3 {x y z m:Int} (h0:0≤m) (h1:m<3):∃ u,atI [V.int x,V.int y,V.int z] m=some (V.int u)∧(u=x∨u=y∨u=z):=by
 rcases(by omega:m=0∨m=1∨m=2) with e|e|e
 ·exact⟨x,by rw[e];rfl,.inl rfl⟩
 ·exact⟨y,by rw[e];rfl,.inr (.inl rfl)⟩
 ·exact⟨z,by rw[e];rfl,.inr (.inr rfl)⟩
theorem zjG {ws:List Str}{k:Int} (h0:0≤k) (h1:k<ws.length):∃ s,ws[k.toNat]?=some s∧atI (ws.map V.str) k=some (.str s):=by
 obtain⟨s,hs⟩:=zb9 (l:=ws) (j:=k.toNat) (by omega)
 exact⟨s,hs,by rw[zhx h0,List.getElem?_map,hs];rfl⟩
section
variable {P:Program}{w:World}{K:PySem.W.Frag}{mg:Str→Option Value}{base:Heap}{a:Adr}
def zkt (K:PySem.W.Frag):Sp:=fun vs H Q _=>∃ p,∃ ws:List Str,∃ c:Int,vs=[.ref p,.int c]∧H p=some (.lst (ws.map V.str))∧2≤ws.length∧ws.length≤20∧ws.Nodup ∧
 ∀ t o e s u H',zan H H'→SqT K H' t [.str o,.str e,.int s,.int u]→o∈ws→e∈ws→o≠e→1≤s→s≤20→1≤u→u≤1000000→Q (.ref t) H'
set_option maxHeartbeats 4000000 in
theorem zjH (T:Tx K mg a):Cal P w K mg base CX0 2 "_law_arrow" ["_law_names_here","_law_cell"] [] (zkt K):=T.d__law_arrow.cal fun f fd F=>by
 have c__law_mixed:=zea (P:=P) (w:=w) (base:=base) T
 refine F.ok zbs (fun vs H Q E h=>?_) (fun cdv A outer s H vs Q E hr h=>?_)
 ·obtain⟨p,ws,c,rfl,_⟩:=h
  rfl
 ·obtain⟨p,ws,c,rfl,hp,w2,w20,nd,k⟩:=h
  have wl:((ws.map V.str).length:Int)=(ws.length:Int):=by rw[List.length_map]
  refine⟨_,(zac (zaG (i:=2) zbs.nd rfl (by first|exact Or.inl rfl|exact Or.inr rfl) (zat zbc (zaD c__law_mixed (hr.mono (by decide)) rfl (zaa (pv 1) (zaa zai zad))) (zar zay rfl T.n_len za6 (zaa (pv 0) zad))))
   (zac (zaG (i:=3) zbs.nd rfl (by first|exact Or.inl rfl|exact Or.inr rfl) (zat zbc (zat zbR (zat zbR (pv 2) zai) (zat zbc (zaD c__law_mixed (hr.mono (by decide)) rfl (zaa (pv 1) (zaa zai zad))) (zat ziq (zar zay rfl T.n_len za6 (zaa (pv 0) zad)) zai))) (zar zay rfl T.n_len za6 (zaa (pv 0) zad))))
   (zac (zaG (i:=4) zbs.nd rfl (by first|exact Or.inl rfl|exact Or.inr rfl) (za3 zaT (zbE (zaa zai (zaa (zat zbR zai (zat zbc (zaD c__law_mixed (hr.mono (by decide)) rfl (zaa (pv 1) (zaa zai zad))) zai)) zad))) (zat zbc (zaD c__law_mixed (hr.mono (by decide)) rfl (zaa (pv 1) (zaa zai zad))) zai) (fun _ _=>rfl)))
   (zac (zaG (i:=5) zbs.nd rfl (by first|exact Or.inl rfl|exact Or.inr rfl) (za3 zaT (zbE (zaa zai (zaa (zat zbR zai (zat zbc (zaD c__law_mixed (hr.mono (by decide)) rfl (zaa (pv 1) (zaa zai zad))) zai)) (zaa (zat zbR zai (zat zbc (pv 1) (zat op_pow zai zai))) zad)))) (zat zbc (zaD c__law_mixed (hr.mono (by decide)) rfl (zaa (pv 1) (zaa zai zad))) zai) (fun _ _=>rfl)))
   (zag (zaA (zbv (zaa (za3 zaT (pv 0) (pv 2) (fun _ _=>rfl)) (zaa (za3 zaT (pv 0) (pv 3) (fun _ _=>rfl)) (zaa (pv 4) (zaa (pv 5) zad))))))))))),?_⟩
  refine⟨_,rfl,c,1,rfl,_,rfl,p,_,rfl,.inl (SqL.of hp),_,_,rfl,rfl,(by show(0:Int)<_;rw[wl];omega),?_⟩
  dsimp only[zaI]
  rw[wl]
  have a0:0≤zbl c 1 % (ws.length:Int):=Int.emod_nonneg _ (by omega)
  have a1:zbl c 1 % (ws.length:Int)<ws.length:=Int.emod_lt_of_pos _ (by omega)
  generalize zbl c 1 % (ws.length:Int)=x1 at a0 a1 ⊢
  refine⟨_,rfl,_,_,rfl,rfl,_,rfl,c,2,rfl,_,rfl,p,_,rfl,.inl (SqL.of hp),_,_,rfl,rfl,_,_,rfl,rfl,(by show(0:Int)<_ - 1;rw[wl];omega),_,_,rfl,rfl,_,rfl,p,_,rfl,.inl (SqL.of hp),_,_,rfl,rfl,(by show(0:Int)<_;rw[wl];omega),?_⟩
  dsimp only[zaI]
  rw[wl]
  have m0:0≤zbl c 2 % ((ws.length:Int) - 1):=Int.emod_nonneg _ (by omega)
  have m1:zbl c 2 % ((ws.length:Int) - 1)<(ws.length:Int) - 1:=Int.emod_lt_of_pos _ (by omega)
  generalize zbl c 2 % ((ws.length:Int) - 1)=y1 at m0 m1 ⊢
  have z0:0≤(x1 + 1 + y1) % (ws.length:Int):=Int.emod_nonneg _ (by omega)
  have z1:(x1 + 1 + y1) % (ws.length:Int)<ws.length:=Int.emod_lt_of_pos _ (by omega)
  have zn:(x1 + 1 + y1) % (ws.length:Int)≠x1:=by
   intro e
   by_cases hlt:x1 + 1 + y1<ws.length
   ·rw[Int.emod_eq_of_lt (by omega) hlt] at e
    omega
   ·have e2:(x1 + 1 + y1) % (ws.length:Int)=x1 + 1 + y1 - ws.length:=by
     rw[← Int.sub_emod_right]
     exact Int.emod_eq_of_lt (by omega) (by omega)
    rw[e2] at e
    omega
  generalize (x1 + 1 + y1) % (ws.length:Int)=x2 at z0 z1 zn ⊢
  refine⟨_,rfl,c,3,rfl,_,_,rfl,rfl,(by show(0:Int)<20;decide),_,_,rfl,rfl,(by show 2≤sizeLine;decide),fun l nl_=>?_⟩
  dsimp only
  have b0:0≤zbl c 3 % 20:=Int.emod_nonneg _ (by decide)
  have b1:zbl c 3 % 20<20:=Int.emod_lt_of_pos _ (by decide)
  generalize zbl c 3 % 20=s1 at b0 b1 ⊢
  have t1:zan H (upd H l (.lst [.int 1,.int (1 + s1)])):=zan.new nl_
  have h1:upd H l (.lst [.int 1,.int (1 + s1)]) l=some (.lst [.int 1,.int (1 + s1)]):=zab
  generalize upd H l (.lst [.int 1,.int (1 + s1)])=H1 at t1 h1 ⊢
  obtain⟨sp,asp,hsp⟩:=at2 (x:=1) (y:=1 + s1) (m:=zbl c 4 % 2) (Int.emod_nonneg _ (by decide)) (Int.emod_lt_of_pos _ (by decide))
  refine⟨_,rfl,c,4,rfl,_,_,rfl,rfl,(by show(0:Int)<2;decide),l,_,_,_,rfl,rfl,SqL.of h1,asp,?_⟩
  refine⟨_,rfl,c,5,rfl,_,_,rfl,rfl,(by show(0:Int)<9;decide),_,_,rfl,rfl,_,rfl,_,_,rfl,rfl,⟨by decide,by decide,by decide⟩,_,_,rfl,rfl,(by show(0:Int)<10 ^ Int.toNat 6;decide),_,_,rfl,rfl,(by show 3≤sizeLine;decide),fun l2 nl2=>?_⟩
  dsimp only
  have c0:0≤zbl c 5 % 9:=Int.emod_nonneg _ (by decide)
  have c1:zbl c 5 % 9<9:=Int.emod_lt_of_pos _ (by decide)
  have d0:0≤c % 10 ^ Int.toNat 6:=Int.emod_nonneg _ (by decide)
  have d1:c % 10 ^ Int.toNat 6<1000000:=Int.emod_lt_of_pos _ (by decide)
  generalize zbl c 5 % 9=u1 at c0 c1 ⊢
  generalize c % 10 ^ Int.toNat 6=u2 at d0 d1 ⊢
  have t2:zan H1 (upd H1 l2 (.lst [.int 1,.int (1 + u1),.int (1 + u2)])):=zan.new nl2
  have h2:upd H1 l2 (.lst [.int 1,.int (1 + u1),.int (1 + u2)]) l2=some (.lst [.int 1,.int (1 + u1),.int (1 + u2)]):=zab
  generalize upd H1 l2 (.lst [.int 1,.int (1 + u1),.int (1 + u2)])=H2 at t2 h2 ⊢
  obtain⟨wt,awt,hwt⟩:=at3 (x:=1) (y:=1 + u1) (z:=1 + u2) (m:=zbl c 6 % 3) (Int.emod_nonneg _ (by decide)) (Int.emod_lt_of_pos _ (by decide))
  refine⟨_,rfl,c,6,rfl,_,_,rfl,rfl,(by show(0:Int)<3;decide),l2,_,_,_,rfl,rfl,SqL.of h2,awt,?_⟩
  obtain⟨o,ho,ao⟩:=zjG a0 a1
  obtain⟨e,he,ae⟩:=zjG z0 z1
  have t12:=t1.trans t2
  refine⟨_,rfl,_,rfl,p,_,_,_,rfl,rfl,SqL.of (t12 _ _ hp),ao,_,rfl,_,rfl,p,_,_,_,rfl,rfl,SqL.of (t12 _ _ hp),ae,_,rfl,_,rfl,(by show 4≤sizeLine;decide),fun t nt=>?_⟩
  refine k t o e sp wt _ (t12.trans (zan.new nt)) (SqT.of zab) (List.mem_of_getElem? ho) (List.mem_of_getElem? he) (fun z=>?_) (by omega) (by omega) (by omega) (by omega)
  subst z
  have:=(List.getElem?_inj (List.getElem?_eq_some_iff.mp ho).1 nd).mp (ho.trans he.symm)
  exact zn (by omega)
end
end K04
namespace K04
open PySem L2
def Off (p:Addr) (r:Rec) (b:Addr):Prop:=b≠p∧b≠r.dh∧b≠r.da∧b≠r.ls∧b≠r.lm
theorem Off.kp {p:Addr}{r:Rec}{b:Addr}{H H':Hp}{o:HO} (h:Off p r b) (k:Kp p r H H') (e:H b=some o):H' b=some o:=k b o e h.1 h.2.1 h.2.2.1 h.2.2.2.1 h.2.2.2.2
theorem za4.upd {K:PySem.W.Frag}{C:Addr}{H:Hp}{p:Addr}{r:Rec}{v:zbt}{b:Addr}{o o':HO} (n:za4 K C H p r v) (off:Off p r b) (hb:H b=some o) (ht:zlo o=false):za4 K C (L2.upd H b o') p r v:=by
 obtain⟨⟨dx,h1⟩,h2,⟨avs,h3,h4⟩,⟨xs,h5,h6⟩,⟨ys,h7,h8⟩,n1,n2⟩:=n
 have tk:Tk H (L2.upd H b o'):=Tk.upd hb ht
 exact⟨⟨dx,by rw[zaf (Ne.symm off.1)];exact h1⟩,by rw[zaf (Ne.symm off.2.1)];exact h2,⟨avs,by rw[zaf (Ne.symm off.2.2.1)];exact h3,tk.arr h4⟩,⟨xs,by rw[zaf (Ne.symm off.2.2.2.1)];exact h5,tk.dts (zal (fun _=>rfl) _) h6⟩,⟨ys,by rw[zaf (Ne.symm off.2.2.2.2)];exact h7,tk.dts (zal (fun _=>rfl) _) h8⟩,n1,n2⟩
theorem zfU.kp {K:PySem.W.Frag}{C:Addr}{H H':Hp}{p:Addr}{r:Rec}{v0 v:zbt}{d l m:Addr} (h:zfU K H d l m v) (n:za4 K C H p r v0) (k:Kp p r H H') (od:Off p r d) (ol:Off p r l) (om:Off p r m):zfU K H' d l m v:=by
 obtain⟨⟨avs,a1,a2⟩,⟨xs,b1,b2⟩,⟨ys,c1,c2⟩,ne⟩:=h
 have tk:=k.tk n
 exact⟨⟨avs,od.kp k a1,tk.arr a2⟩,⟨xs,ol.kp k b1,tk.dts (zal (fun _=>rfl) _) b2⟩,⟨ys,om.kp k c1,tk.dts (zal (fun _=>rfl) _) c2⟩,ne⟩
def KpA (p:Addr) (r:Rec) (d l m:Addr) (H H':Hp):Prop:=∀ b o,H b=some o→Off p r b→b≠d→b≠l→b≠m→H' b=some o
theorem KpA.trans {p:Addr}{r:Rec}{d l m:Addr}{H H1 H2:Hp} (h:KpA p r d l m H H1) (k:KpA p r d l m H1 H2):KpA p r d l m H H2:=fun b o e f z1 z2 z3=>k b o (h b o e f z1 z2 z3) f z1 z2 z3
theorem KpA.of {p:Addr}{r:Rec}{d l m:Addr}{H H':Hp} (s:zan H H'):KpA p r d l m H H':=fun b o e _ _ _ _=>s b o e
theorem zlL {K:PySem.W.Frag}{H:Hp}{ar:List Ar}{avs:Kvs}{n:Int}{q:Ar}{t:Addr} (h:ze0 K H ar avs) (hn:∀ q∈ar,q.num<n) (hq:q.num=n) (ht:SqT K H t (arV q)):ze0 K H (ar++[q]) (zgQ avs (Sum.inl n) (.ref t)):=by
 rw[zd4 _ (zg6 h hn),← hq]
 exact ze0.snoc ht h
theorem zjI {ar:List Ar}{q:Ar} (h:zl0 ar) (hn:∀ x∈ar,x.num<q.num):zl0 (ar++[q]):=by
 refine List.pairwise_append.mpr ⟨h,List.pairwise_singleton ..,fun x hx y hy=>?_⟩
 rw[List.mem_singleton.mp hy]
 exact hn x hx
theorem zdK {pts:List Pt}{v:zbt} (W:zkP pts v){x:Str} (h:x∈pts.map Prod.fst):zaE x=true:=by
 obtain⟨q,hq,rfl⟩:=List.mem_map.mp h
 exact(W.nm q hq).1
theorem Nw.up {pts:List Pt}{v:zbt}{i:Nat} (h:Nw pts v i):Nw pts v (i + 1):={ h with few:=Nat.le_succ_of_le h.few }
theorem Nw.put {pts:List Pt}{v:zbt}{i:Nat}{o e:Str}{s u:Int} (h:Nw pts v i) (hi:i<40) (ho:o∈pts.map Prod.fst) (he:e∈pts.map Prod.fst) (ne:o≠e) (s1:1≤s) (s2:s≤20) (u1:1≤u) (u2:u≤1000000):Nw pts { v with arr:=v.arr++[⟨v.nn,o,e,s,u⟩],nn:=v.nn + 1 } (i + 1):=by
 have W:=h.w
 have few:=h.few
 have n0:=h.n0
 have len:(v.arr++[(⟨v.nn,o,e,s,u⟩:Ar)]).length≤i + 1:=by rw[List.length_append];show v.arr.length + 1≤i + 1;omega
 refine⟨{ W with ar:=fun q hq=>?_,l2:=by show(v.arr++[_]).length≤40;omega },zjI h.rise fun x hx=>h.nn x hx,fun q hq=>?_,by show 0≤v.nn + 1;omega,len,fun q hq=>?_,h.es,h.em⟩
 ·rcases List.mem_append.mp hq with hq|hq
  ·exact W.ar q hq
  ·rw[List.mem_singleton.mp hq]
   exact⟨zdK W ho,zdK W he,⟨by show 0≤s;omega,by show s<10000000;omega⟩,⟨by show 0≤u;omega,by show u<10000000;omega⟩⟩
 ·show q.num<v.nn + 1
  rcases List.mem_append.mp hq with hq|hq
  ·have:=h.nn q hq
   omega
  ·rw[List.mem_singleton.mp hq]
   show v.nn<v.nn + 1
   omega
 ·rcases List.mem_append.mp hq with hq|hq
  ·exact h.ends q hq
  ·rw[List.mem_singleton.mp hq]
   exact⟨ho,he,ne,s1,s2,u1,u2⟩
theorem Nw.sm {pts:List Pt}{v:zbt}{i:Nat}{o e:Str} (h:Nw pts v i) (hl:v.ss.length<20) (ho:o∈pts.map Prod.fst) (he:e∈pts.map Prod.fst) (ne:o≠e):Nw pts { v with ss:=v.ss++[(o,e)] } i:=by
 have W:=h.w
 refine⟨{ W with ss:=fun q hq=>?_,l3:=by show(v.ss++[_]).length≤20;rw[List.length_append];exact hl },h.rise,h.nn,h.n0,h.few,h.ends,fun q hq=>?_,h.em⟩
 ·rcases List.mem_append.mp hq with hq|hq
  ·exact W.ss q hq
  ·rw[List.mem_singleton.mp hq]
   exact⟨zdK W ho,zdK W he⟩
 ·rcases List.mem_append.mp hq with hq|hq
  ·exact h.es q hq
  ·rw[List.mem_singleton.mp hq]
   exact⟨ho,he,ne⟩
theorem Nw.ms {pts:List Pt}{v:zbt}{i:Nat}{o e:Str}{n:Int} (h:Nw pts v i) (hl:v.mm.length<20) (ho:o∈pts.map Prod.fst) (he:e∈pts.map Prod.fst) (ne:o≠e) (n0:0≤n) (n1:n≤99):Nw pts { v with mm:=v.mm++[(o,e,n)] } i:=by
 have W:=h.w
 refine⟨{ W with mm:=fun q hq=>?_,l4:=by show(v.mm++[_]).length≤20;rw[List.length_append];exact hl },h.rise,h.nn,h.n0,h.few,h.ends,h.es,fun q hq=>?_⟩
 ·rcases List.mem_append.mp hq with hq|hq
  ·exact W.mm q hq
  ·rw[List.mem_singleton.mp hq]
   exact⟨zdK W ho,zdK W he,⟨n0,by show n<10000000;omega⟩⟩
 ·rcases List.mem_append.mp hq with hq|hq
  ·exact h.em q hq
  ·rw[List.mem_singleton.mp hq]
   exact⟨ho,he,ne,n0,n1⟩
theorem Nw.take {pts:List Pt}{v:zbt}{i:Nat} (h:Nw pts v i) (n:Int):Nw pts { v with arr:=zbV v.arr n } i:=by
 have W:=h.w
 have sub:∀ q∈zbV v.arr n,q∈v.arr:=fun q hq=>(List.mem_filter.mp hq).1
 have ln:(zbV v.arr n).length≤v.arr.length:=List.length_filter_le _ _
 have:=h.few
 have:=W.l2
 exact⟨{ W with ar:=fun q hq=>W.ar q (sub q hq),l2:=by show(zbV v.arr n).length≤40;omega },List.Pairwise.filter _ h.rise,fun q hq=>h.nn q (sub q hq),h.n0,by show(zbV v.arr n).length≤i;omega,fun q hq=>h.ends q (sub q hq),h.es,h.em⟩
theorem zdr {K:PySem.W.Frag}{H:Hp}:∀ {ar:List Ar}{avs:Kvs},ze0 K H ar avs→(avs.map fun kv=>kV kv.1)=(ar.map Ar.num).map V.int
 | [],_,h=>by rw[show _=[] from h];rfl
 | q::ar,_,h=>by
  obtain⟨t,r,rfl,h1,h2⟩:=h
  rw[List.map_cons,List.map_cons,List.map_cons,zdr h2]
  rfl
end K04
namespace K04
open PySem L2
theorem mix0 (c k m:Int) (hm:0<m):0≤zbl c k % m∧zbl c k % m<m:=⟨Int.emod_nonneg _ (by omega),Int.emod_lt_of_pos _ hm⟩
section
variable {P:Program}{w:World}{K:PySem.W.Frag}{mg:Str→Option Value}{base:Heap}{a:Adr}
def spDeed (K:PySem.W.Frag) (a:Adr):Sp:=fun vs H Q _=>∃ p r v nm t d l m pts i c,vs=[.ref p,.ref nm,.ref t,.int c]∧H nm=some (.lst ((pts.map Prod.fst).map V.str))∧2≤(pts:List Pt).length∧za4 K a.Net H p r v∧SqT K H t [.ref d,.ref l,.ref m]∧zfU K H d l m v∧Nw pts v i∧i<40∧Off p r d∧Off p r l∧Off p r m∧Off p r nm∧nm≠d∧nm≠l∧nm≠m ∧
 ∀ v' H',KpA p r d l m H H'→Tk H H'→za4 K a.Net H' p r v'→zfU K H' d l m v'→Nw pts v' (i + 1)→Q .non H'
set_option maxHeartbeats 4000000 in
theorem zlM (T:Tx K mg a):Cal P w K mg base CX0 7 "_law_deed" ["_law_net","_law_names_here","_law_kept","_law_cell"] [] (spDeed K a):=T.d__law_deed.cal fun f fd F=>by
 have c__law_mixed:=zea (P:=P) (w:=w) (base:=base) T
 have c__law_arrow:=zjH (P:=P) (w:=w) (base:=base) T
 have m_Net_put_arrow:=zhC (P:=P) (w:=w) (base:=base) T
 have m_Net_put_same:=zjp (P:=P) (w:=w) (base:=base) T
 have m_Net_put_most:=zjq (P:=P) (w:=w) (base:=base) T
 have m_Net_take_arrow:=zju (P:=P) (w:=w) (base:=base) T
 refine F.ok zaH (fun vs H Q E h=>?_) (fun cdv A outer s H vs Q E hr h=>?_)
 ·obtain⟨p,r,v,nm,t,d,l,m,pts,i,c,rfl,_⟩:=h
  rfl
 ·obtain⟨p,r,v,nm,t,d,l,m,pts,i,c,rfl,hnm,p2,N,ht,Kk,W,i40,od,ol,om,on,nd,nl_,nm_,k⟩:=h
  have w20:=W.w.l1
  refine⟨_,(zac (zdM (zaD c__law_arrow (hr.mono (by decide)) rfl (zaa (pv 1) (zaa (pv 3) zad))) (zbW rfl (zaj (zak (i:=4) zaH.nd rfl (by first|exact Or.inl rfl|exact Or.inr rfl)) (zaj (zak (i:=5) zaH.nd rfl (by first|exact Or.inl rfl|exact Or.inr rfl)) (zaj (zak (i:=6) zaH.nd rfl (by first|exact Or.inl rfl|exact Or.inr rfl)) (zaj (zak (i:=7) zaH.nd rfl (by first|exact Or.inl rfl|exact Or.inr rfl)) zaN))))))
   (zac (zaG (i:=8) zaH.nd rfl (by first|exact Or.inl rfl|exact Or.inr rfl) (zat zbc (zaD c__law_mixed (hr.mono (by decide)) rfl (zaa (pv 3) (zaa zai zad))) zai))
   (zac (zdM (pv 2) (zbW rfl (zaj (zak (i:=9) zaH.nd rfl (by first|exact Or.inl rfl|exact Or.inr rfl)) (zaj (zak (i:=10) zaH.nd rfl (by first|exact Or.inl rfl|exact Or.inr rfl)) (zaj (zak (i:=11) zaH.nd rfl (by first|exact Or.inl rfl|exact Or.inr rfl)) zaN)))))
   (zac (zaM (zaq zeU (pv 8) zai (zax _)) (zac (zaG (i:=12) zaH.nd rfl (by first|exact Or.inl rfl|exact Or.inr rfl) (zaK (pv 0) T.c_Net m_Net_put_arrow za5 (hr.mono (by decide)) (zaa (pv 4) (zaa (pv 5) (zaa (pv 6) (zaa (pv 7) zad))))))
   (zag (zfp (zcL hr) (pv 9) (pv 12) (zbv (zaa (pv 4) (zaa (pv 5) (zaa (pv 6) (zaa (pv 7) zad))))) rfl))) (zag (zaM (PW.pt (zim (zaq zd0 (pv 8) zai (zax _)) (zgN (zaq zf0 (zar zay rfl T.n_len za6 (zaa (pv 10) zad)) zai (zax _))))) (zac (zaC (zaK (pv 0) T.c_Net m_Net_put_same za5 (hr.mono (by decide)) (zaa (pv 4) (zaa (pv 5) zad))))
   (zag (zaC (zbN PySem.F.plainAttrs_list PySem.F.slot_list_append PySem.F.type_list_append zaQ (pv 10) (zaa (zbv (zaa (pv 4) (zaa (pv 5) zad))) zad))))) (zag (zaM (PW.pt (zim (zaq zd0 (pv 8) zai (zax _)) (zgN (zaq zf0 (zar zay rfl T.n_len za6 (zaa (pv 11) zad)) zai (zax _))))) (zac (zaG (i:=12) zaH.nd rfl (by first|exact Or.inl rfl|exact Or.inr rfl) (zat zbc (zaD c__law_mixed (hr.mono (by decide)) rfl (zaa (pv 3) (zaa zai zad))) zai))
   (zac (zaC (zaK (pv 0) T.c_Net m_Net_put_most za5 (hr.mono (by decide)) (zaa (pv 4) (zaa (pv 5) (zaa (pv 12) zad)))))
   (zag (zaC (zbN PySem.F.plainAttrs_list PySem.F.slot_list_append PySem.F.type_list_append zaQ (pv 11) (zaa (zbv (zaa (pv 4) (zaa (pv 5) (zaa (pv 12) zad)))) zad)))))) zap)))))
   (zag (zaM (PW.pt (zim (zaq zd0 (zat zbc (zaD c__law_mixed (hr.mono (by decide)) rfl (zaa (pv 3) (zaa zai zad))) zai) zai (zax _)) (zgN (zaq (op_neE hr.units) (pv 9) zde (zax _))))) (zac (zaG (i:=12) zaH.nd rfl (by first|exact Or.inl rfl|exact Or.inr rfl) (za3 zaT (zar zbX rfl T.n_sorted zdj (zaa (pv 9) zad)) (zat zbc (zaD c__law_mixed (hr.mono (by decide)) rfl (zaa (pv 3) (zaa zai zad))) (zar zer rfl T.n_len za6 (zaa (pv 9) zad))) (fun _ _=>rfl)))
   (zac (zaC (zaK (pv 0) T.c_Net m_Net_take_arrow za5 (hr.mono (by decide)) (zaa (pv 12) zad)))
   (zag (zaC (zho (pv 9) (pv 12) ⟨rfl,rfl,rfl,rfl⟩))))) zap)))))),?_⟩
  refine⟨_,rfl,_,rfl,nm,pts.map Prod.fst,c,rfl,hnm,by rw[List.length_map];exact p2,by rw[List.length_map];exact w20,W.w.nd,fun ta o e sp wt H1 s1 hta ho he ne sp1 sp2 wt1 wt2=>?_⟩
  refine⟨ta,_,rfl,hta,rfl,_,_,rfl,_,_,rfl,_,_,rfl,_,_,rfl,rfl,?_⟩
  dsimp only[zaI]
  refine⟨_,rfl,c,7,rfl,_,_,rfl,rfl,(by show(0:Int)<8;decide),?_⟩
  dsimp only[zaI]
  obtain⟨y0,y1⟩:=mix0 c 7 8 (by decide)
  generalize zbl c 7 % 8=way at y0 y1 ⊢
  refine⟨_,rfl,t,_,rfl,(Tk.of s1).sqT ht,rfl,_,_,rfl,_,_,rfl,_,_,rfl,rfl,?_⟩
  dsimp only[zaI]
  have N1:=N.same s1
  have K1:=Kk.same s1
  obtain⟨dx,hp1⟩:=N1.ex
  have tw:=zkR (pts:=pts) ho he ne
  rw[← W.w.kv] at tw
  have few:=W.few
  apply zi8 (fun y:Option V×zbt=>[some (.ref p),some (.ref nm),some (.ref t),some (.int c),some (.str o),some (.str e),some (.int sp),some (.int wt),some (.int way),some (.ref d),some (.ref l),some (.ref m),y.1]) (fun y H'=>KpA p r d l m H H'∧Tk H H'∧za4 K a.Net H' p r y.2∧zfU K H' d l m y.2∧Nw pts y.2 (i + 1))
  case g=>
   intro zbx
   refine⟨_,rfl,_,_,rfl,rfl,_,rfl,?_⟩
   refine zbA (fun c1=>?_) (fun c1=>?_)
   ·have ae:zcY v o e sp wt=none:=by rw[zfG tw,if_neg (by omega),if_neg (by omega)]
    refine⟨_,rfl,p,dx,_,rfl,hp1,by rfl,_,rfl,_,rfl,_,rfl,_,rfl,p,r,v,o,e,sp,wt,rfl,N1,by omega,W.nn,fun _ H2 k2 N2=>?_,fun er hh=>by rw[ae] at hh;cases hh⟩
    have K2:=K1.kp N1 k2 od ol om
    have tk2:Tk H H2:=(Tk.of s1).trans (k2.tk N1)
    refine⟨_,rfl,_,rfl,_,rfl,_,rfl,(by show 4≤sizeLine;decide),fun tu ntu=>?_⟩
    have s3:zan H2 (upd H2 tu (.tup [.str o,.str e,.int sp,.int wt])):=zan.new ntu
    have h3:SqT K (upd H2 tu (.tup [.str o,.str e,.int sp,.int wt])) tu [.str o,.str e,.int sp,.int wt]:=SqT.of zab
    generalize upd H2 tu (.tup [.str o,.str e,.int sp,.int wt])=H3 at s3 h3 ⊢
    obtain⟨⟨avs,a1,a2⟩,⟨xs,b1,b2⟩,⟨ys,c1',c2'⟩,nlm⟩:=K2.same s3
    have al:avs.length≤40:=by rw[← a2.length];have:=W.w.l2;omega
    refine⟨_,rfl,_,rfl,d,_,rfl,zkG.k (k:=Sum.inl v.nn) a1 (by rw[sizeLine_eq];omega),?_⟩
    have tk4:Tk H3 (upd H3 d (.dK (zgQ avs (Sum.inl v.nn) (.ref tu)))):=Tk.upd a1 rfl
    refine zbx (_,{ v with arr:=v.arr++[⟨v.nn,o,e,sp,wt⟩],nn:=v.nn + 1 }) _ ⟨?_,(tk2.trans (Tk.of s3)).trans tk4,(N2.same s3).upd od a1 rfl,⟨⟨_,zab,tk4.arr (zlL a2 W.nn rfl h3)⟩,⟨xs,by rw[zaf (zbC b1 a1 (by intro z;cases z))];exact b1,tk4.dts (zal (fun _=>rfl) _) b2⟩,⟨ys,by rw[zaf (zbC c1' a1 (by intro z;cases z))];exact c1',tk4.dts (zal (fun _=>rfl) _) c2'⟩,nlm⟩,W.put i40 ho he ne sp1 sp2 wt1 wt2⟩
    exact fun b u hb off z1 z2 z3=>by
     rw[zaf z1]
     exact s3 _ _ (off.kp k2 (s1 _ _ hb))
   ·refine⟨_,rfl,rfl,_,rfl,?_⟩
    obtain⟨⟨avs,a1,a2⟩,⟨xs,b1,b2⟩,⟨ys,c1',c2'⟩,nlm⟩:=K1
    have xl:xs.length=v.ss.length:=by rw[← zbb b2,List.length_map]
    have yl:ys.length=v.mm.length:=by rw[← zbb c2',List.length_map]
    have K1:zfU K H1 d l m v:=⟨⟨avs,a1,a2⟩,⟨xs,b1,b2⟩,⟨ys,c1',c2'⟩,nlm⟩
    have stay:KpA p r d l m H H1∧Tk H H1∧za4 K a.Net H1 p r v∧zfU K H1 d l m v∧Nw pts v (i + 1):=⟨KpA.of s1,Tk.of s1,N1,K1,W.up⟩
    have w3:=W.w.l3
    have w4:=W.w.l4
    refine zbA (fun c2=>?_) (fun c2=>?_)
    ·refine⟨_,rfl,l,_,rfl,.inl (SqL.of b1),_,_,rfl,rfl,_,rfl,?_⟩
     refine zbA (fun c3=>?_) (fun c3=>?_)
     ·have l20:v.ss.length<20:=by have:=of_decide_eq_true c3;rw[xl] at this;omega
      have le:lim v.kvs v.ss.length o e none=none:=by rw[zcK tw,if_neg (by decide),if_neg (by omega)]
      refine⟨_,rfl,p,dx,_,rfl,hp1,by rfl,_,rfl,_,rfl,p,r,v,o,e,rfl,N1,by omega,fun _ H2 k2 N2=>?_,fun er hh=>by rw[le] at hh;cases hh⟩
      have K2:=K1.kp N1 k2 od ol om
      have tk2:Tk H H2:=(Tk.of s1).trans (k2.tk N1)
      obtain⟨⟨avs,a1,a2⟩,⟨xs,b1,b2⟩,⟨ys,c1',c2'⟩,nlm⟩:=K2
      have xl:xs.length=v.ss.length:=by rw[← zbb b2,List.length_map]
      refine⟨_,rfl,.inl ⟨rfl,_,SqL.of b1⟩,_,rfl,_,rfl,(by show 2≤sizeLine;decide),fun tu ntu=>?_⟩
      have s3:zan H2 (upd H2 tu (.tup [.str o,.str e])):=zan.new ntu
      have h3:SqT K (upd H2 tu (.tup [.str o,.str e])) tu [.str o,.str e]:=SqT.of zab
      generalize upd H2 tu (.tup [.str o,.str e])=H3 at s3 h3 ⊢
      refine⟨l,xs,_,rfl,rfl,s3 _ _ b1,by rw[sizeLine_eq];omega,?_⟩
      have tk4:Tk H3 (upd H3 l (.lst (xs++[.ref tu]))):=Tk.upd (s3 _ _ b1) rfl
      refine zbx (none,{ v with ss:=v.ss++[(o,e)] }) _ ⟨?_,(tk2.trans (Tk.of s3)).trans tk4,(N2.same s3).upd ol (s3 _ _ b1) rfl,⟨⟨avs,by rw[zaf (zbC a1 b1 (by intro z;cases z))];exact s3 _ _ a1,tk4.arr ((Tk.of s3).arr a2)⟩,⟨_,zab,by rw[List.map_append];exact zbu.snoc (zfE (tk4.sqT h3)) (tk4.dts (zal (fun _=>rfl) _) (s3.dts b2))⟩,⟨ys,by rw[zaf (Ne.symm nlm)];exact s3 _ _ c1',tk4.dts (zal (fun _=>rfl) _) (s3.dts c2')⟩,nlm⟩,(W.sm l20 ho he ne).up⟩
      exact fun b u hb off z1 z2 z3=>by
       rw[zaf z2]
       exact s3 _ _ (off.kp k2 (s1 _ _ hb))
     ·refine⟨_,rfl,rfl,_,rfl,?_⟩
      have w0:way=0:=by simpa using c2
      refine zbA (fun c4=>absurd (show way=1 by simpa using c4) (by omega)) (fun c4=>zlg (zbx (none,v) H1 stay))
    ·refine zlg ?_
     refine⟨_,rfl,rfl,_,rfl,?_⟩
     refine zbA (fun c4=>?_) (fun c4=>zlg (zbx (none,v) H1 stay))
     refine⟨_,rfl,m,_,rfl,.inl (SqL.of c1'),_,_,rfl,rfl,_,rfl,?_⟩
     refine zbA (fun c5=>?_) (fun c5=>zbx (none,v) H1 stay)
     have l20:v.mm.length<20:=by have:=of_decide_eq_true c5;rw[yl] at this;omega
     obtain⟨z0,z1⟩:=mix0 c 10 100 (by decide)
     refine⟨_,rfl,c,10,rfl,_,_,rfl,rfl,(by show(0:Int)<100;decide),?_⟩
     dsimp only[zaI]
     generalize zbl c 10 % 100=n at z0 z1 ⊢
     have le:lim v.kvs v.mm.length o e (some n)=none:=by
      rw[zcK tw,if_neg ?_,if_neg (by omega)]
      show ¬ (decide (n<0) || decide (99<n))=true
      rw[decide_eq_false (show ¬ n<0 by omega),decide_eq_false (show ¬ 99<n by omega)]
      decide
     refine⟨_,rfl,p,dx,_,rfl,hp1,by rfl,_,rfl,_,rfl,_,rfl,p,r,v,o,e,n,rfl,N1,by omega,fun _ H2 k2 N2=>?_,fun er hh=>by rw[le] at hh;cases hh⟩
     have K2:=K1.kp N1 k2 od ol om
     have tk2:Tk H H2:=(Tk.of s1).trans (k2.tk N1)
     obtain⟨⟨avs,a1,a2⟩,⟨xs,b1,b2⟩,⟨ys,c1',c2'⟩,nlm⟩:=K2
     have yl:ys.length=v.mm.length:=by rw[← zbb c2',List.length_map]
     refine⟨_,rfl,.inl ⟨rfl,_,SqL.of c1'⟩,_,rfl,_,rfl,_,rfl,(by show 3≤sizeLine;decide),fun tu ntu=>?_⟩
     have s3:zan H2 (upd H2 tu (.tup [.str o,.str e,.int n])):=zan.new ntu
     have h3:SqT K (upd H2 tu (.tup [.str o,.str e,.int n])) tu [.str o,.str e,.int n]:=SqT.of zab
     generalize upd H2 tu (.tup [.str o,.str e,.int n])=H3 at s3 h3 ⊢
     refine⟨m,ys,_,rfl,rfl,s3 _ _ c1',by rw[sizeLine_eq];omega,?_⟩
     have tk4:Tk H3 (upd H3 m (.lst (ys++[.ref tu]))):=Tk.upd (s3 _ _ c1') rfl
     refine zbx (_,{ v with mm:=v.mm++[(o,e,n)] }) _ ⟨?_,(tk2.trans (Tk.of s3)).trans tk4,(N2.same s3).upd om (s3 _ _ c1') rfl,⟨⟨avs,by rw[zaf (zbC a1 c1' (by intro z;cases z))];exact s3 _ _ a1,tk4.arr ((Tk.of s3).arr a2)⟩,⟨xs,by rw[zaf nlm];exact s3 _ _ b1,tk4.dts (zal (fun _=>rfl) _) (s3.dts b2)⟩,⟨_,zab,by rw[List.map_append];exact zbu.snoc (zfF (tk4.sqT h3)) (tk4.dts (zal (fun _=>rfl) _) (s3.dts c2'))⟩,nlm⟩,(W.ms l20 ho he ne z0 (by omega)).up⟩
     exact fun b u hb off z1 z2 z3=>by
      rw[zaf z3]
      exact s3 _ _ (off.kp k2 (s1 _ _ hb))
  case h=>
   rintro⟨v12,v2⟩ H2 ⟨kp,tk,N2,K2,W2⟩
   dsimp only at N2 K2 W2 ⊢
   refine⟨_,rfl,c,8,rfl,_,_,rfl,rfl,(by show(0:Int)<7;decide),rfl,_,rfl,?_⟩
   refine zbA (fun cc=>?_) (fun cc=>zlg (k v2 H2 kp tk N2 K2 W2))
   obtain⟨⟨avs,a1,a2⟩,⟨xs,b1,b2⟩,⟨ys,c1',c2'⟩,nlm⟩:=K2
   have K2:zfU K H2 d l m v2:=⟨⟨avs,a1,a2⟩,⟨xs,b1,b2⟩,⟨ys,c1',c2'⟩,nlm⟩
   refine⟨_,rfl,fun z nz=>?_⟩
   have s3:zan H2 (upd H2 z (.dK [])):=zan.new nz
   have h3:upd H2 z (.dK []) z=some (.dK []):=zab
   generalize upd H2 z (.dK [])=H3 at s3 h3 ⊢
   refine⟨d,z,avs,rfl,rfl,s3 _ _ a1,h3,_,rfl,?_⟩
   have tk3:=tk.trans (Tk.of s3)
   have kp3:=kp.trans (KpA.of s3)
   refine zbA (fun cd=>?_) (fun cd=>k v2 H3 kp3 tk3 (N2.same s3) (K2.same s3) W2)
   have al:avs.length=v2.arr.length:=a2.length.symm
   have ane:avs≠[]:=fun e=>by rw[e] at cd;exact absurd cd (by decide)
   have apos:0<avs.length:=List.length_pos_iff.mpr ane
   have l40:=W2.w.l2
   refine⟨_,rfl,d,avs,v2.arr.map Ar.num,rfl,s3 _ _ a1,zdr a2,by rw[List.length_map];omega,fun q ns nq pm _=>?_⟩
   have s4:zan H3 (upd H3 q (.lst (ns.map V.int))):=zan.new nq
   have h4:upd H3 q (.lst (ns.map V.int)) q=some (.lst (ns.map V.int)):=zab
   generalize upd H3 q (.lst (ns.map V.int))=H4 at s4 h4 ⊢
   have nl4:ns.length=avs.length:=by rw[pm.length_eq,List.length_map,al]
   have s34:=s3.trans s4
   have a14:=s34 _ _ a1
   refine⟨_,rfl,c,9,rfl,_,rfl,d,_,rfl,a14,_,_,rfl,rfl,(by show(0:Int)<_;omega),?_⟩
   obtain⟨j0,j1⟩:=mix0 c 9 (avs.length:Int) (by omega)
   obtain⟨n,hn⟩:=zb9 (l:=ns) (j:=(zbl c 9 % (avs.length:Int)).toNat) (by omega)
   refine⟨q,_,_,.int n,rfl,rfl,SqL.of h4,by rw[zhx j0,List.getElem?_map,hn];rfl,?_⟩
   have mn:n∈v2.arr.map Ar.num:=pm.mem_iff.mp (List.mem_of_getElem? hn)
   have hN:zkO v2.arr n=true:=by
    obtain⟨x,hx,rfl⟩:=List.mem_map.mp mn
    exact List.any_eq_true.mpr ⟨x,hx,decide_eq_true rfl⟩
   have N4:=N2.same s34
   obtain⟨dx4,hp4⟩:=N4.ex
   refine⟨_,rfl,p,dx4,_,rfl,hp4,by rfl,_,rfl,p,r,v2,n,rfl,N4,fun _ H5 k5 N5=>?_,fun hh=>by rw[hN] at hh;cases hh⟩
   obtain⟨⟨avs5,e1,e2⟩,⟨xs5,f1,f2⟩,⟨ys5,g1,g2⟩,_⟩:=(K2.same s34).kp N4 k5 od ol om
   obtain⟨y,hy⟩:=Option.isSome_iff_exists.mp ((zfK (i:=n) e2).trans hN)
   have tk5:Tk H5 (upd H5 d (.dK (zdc avs5 (Sum.inl n)))):=Tk.upd e1 rfl
   refine⟨_,rfl,d,rfl,.inl ⟨_,.inl e1⟩,_,rfl,avs5,Sum.inl n,y,e1,rfl,hy,?_⟩
   refine k { v2 with arr:=zbV v2.arr n } _ (fun b u hb off z1 z2 z3=>?_) (((tk3.trans (Tk.of s4)).trans (k5.tk N4)).trans tk5) (N5.upd od e1 rfl) ⟨⟨_,zab,tk5.arr (zd7 e2)⟩,⟨xs5,by rw[zaf (zbC f1 e1 (by intro z;cases z))];exact f1,tk5.dts (zal (fun _=>rfl) _) f2⟩,⟨ys5,by rw[zaf (zbC g1 e1 (by intro z;cases z))];exact g1,tk5.dts (zal (fun _=>rfl) _) g2⟩,nlm⟩ (W2.take n)
   rw[zaf z1]
   exact off.kp k5 (s4 _ _ (kp3 b u hb off z1 z2 z3))
end
end K04
namespace K04
open PySem L2
theorem zds:∀ {l m:List Int},l.Perm m→l.Pairwise (·≤·)→m.Pairwise (·≤·)→l=m
 | [],m,h,_,_=>(List.Perm.nil_eq h)
 | x::l,[],h,_,_=>absurd h.length_eq (by simp)
 | x::l,y::m,h,h1,h2=>by
  rw[List.pairwise_cons] at h1 h2
  have e:x=y:=by
   have a1:y∈x::l:=h.mem_iff.mpr (List.mem_cons_self ..)
   have a2:x∈y::m:=h.mem_iff.mp (List.mem_cons_self ..)
   rcases List.mem_cons.mp a1 with z|z
   ·exact z.symm
   ·rcases List.mem_cons.mp a2 with z'|z'
    ·exact z'
    ·have:=h1.1 y z
     have:=h2.1 x z'
     omega
  subst e
  rw[zds (List.Perm.cons_inv h) h1.2 h2.2]
theorem zhe {ar:List Ar} (h:zl0 ar):(ar.map Ar.num).Pairwise (·≤·):=by
 rw[List.pairwise_map]
 exact h.imp fun h=>by omega
theorem zeb {ws:List Int}{i:Nat}{y:V} (h:(ws.map V.int)[i]?=some y):∃ s,ws[i]?=some s∧y=.int s:=by
 rw[List.getElem?_map] at h
 cases e:ws[i]? with
 | none=>rw[e] at h;cases h
 | some s=>rw[e] at h;cases h;exact⟨s,rfl,rfl⟩
theorem zfP {K:PySem.W.Frag}{H:Hp}:∀ {ar:List Ar}{avs:Kvs}{q:Ar},ze0 K H ar avs→zl0 ar→q∈ar→∃ t,zco avs (Sum.inl q.num)=some (.ref t)∧SqT K H t (arV q)
 | x::ar,_,q,h,hr,hq=>by
  obtain⟨t,r,rfl,h1,h2⟩:=h
  rw[zl0,List.pairwise_cons] at hr
  rcases List.mem_cons.mp hq with rfl|hq
  ·exact⟨t,zbp rfl,h1⟩
  ·have:=hr.1 q hq
   obtain⟨t',e1,e2⟩:=zfP h2 hr.2 hq
   refine⟨t',?_,e2⟩
   rw[za0 (fun z=>?_)]
   ·exact e1
   ·have:x.num=q.num:=Sum.inl.inj z
    omega
def ptB (b:Bool) (n:Str) (h:Int):Ln:=if b then ptL n h else .pt n [h]
def arB (b:Bool) (o t:Str) (s w:Int):Ln:=if b then arL o t s w else .ar o t [s,w]
def zhf (b:Bool) (pts:List Pt):List Ln:=pts.map fun q=>ptB b q.1 q.2
def zif (b:Bool) (ar:List Ar):List Ln:=ar.map fun q=>arB b q.one q.other q.span q.weight
def zcc (b:Bool) (pts:List Pt) (v:zbt):List Ln:=if b then zhf b pts++zif b v.arr++zeR v.ss++zfT v.mm else zhf b pts++zfT v.mm++zeR v.ss++zif b v.arr
theorem mul_one (x:Str):Txt.mul x 1=x:=rfl
theorem mul_zero (x:Str):Txt.mul x 0=Str.empty:=rfl
theorem app_e (s:Str):s++Str.empty=s:=PySem.Str.append_empty s
theorem zku {b:Bool}{n:Str}{h:Int} (h0:0≤h):(ptB b n h).text=Str.ofString "point "++n++Txt.mul (bk++tn h) (if (decide (0<h) || !b)=true then 1 else 0):=by
 unfold ptB ptL
 by_cases e:h=0
 ·subst e
  cases b with
  | true=>exact(jn2 _ _).trans (by rw[if_neg (by decide),mul_zero,app_e,zlY])
  | false=>exact(jn3 _ _ _).trans (by rw[if_pos (by decide),mul_one,zlY];simp only[PySem.Str.append_assoc])
 ·rw[if_neg e,decide_eq_true (show 0<h by omega),Bool.true_or,if_pos rfl,mul_one,show(if b=true then Ln.pt n [h] else Ln.pt n [h])=Ln.pt n [h] by split <;> rfl,zlY]
  exact(jn3 _ _ _).trans (by simp only[PySem.Str.append_assoc])
theorem zkv {b:Bool}{o t:Str}{s w:Int} (s1:1≤s) (w1:1≤w):(arB b o t s w).text=(if (decide (1<w) || !b)=true then(if (decide (1<s) || (decide (1<w) || !b))=true then Str.ofString "arrow "++o++bk++t++bk++tn s else Str.ofString "arrow "++o++bk++t)++bk++tn w else(if (decide (1<s) || (decide (1<w) || !b))=true then Str.ofString "arrow "++o++bk++t++bk++tn s else Str.ofString "arrow "++o++bk++t)):=by
 have f5:(Ln.ar o t [s,w]).text=Str.ofString "arrow "++o++bk++t++bk++tn s++bk++tn w:=(jn5 _ _ _ _ _).trans (by rw[zlZ];simp only[PySem.Str.append_assoc])
 have f4:(Ln.ar o t [s]).text=Str.ofString "arrow "++o++bk++t++bk++tn s:=(jn4 _ _ _ _).trans (by rw[zlZ];simp only[PySem.Str.append_assoc])
 have f3:(Ln.ar o t []).text=Str.ofString "arrow "++o++bk++t:=(jn3 _ _ _).trans (by rw[zlZ];simp only[PySem.Str.append_assoc])
 unfold arB arL
 cases b with
 | false=>
  rw[if_neg (by decide),f5]
  simp
 | true=>
  rw[if_pos rfl]
  by_cases e:w=1
  ·subst e
   by_cases e2:s=1
   ·subst e2
    simpa using f3
   ·have:(1:Int)<s:=by omega
    simp[e2,this]
    exact f4
  ·have:(1:Int)<w:=by omega
   simp[e,this]
   exact f5
end K04
namespace K04
open PySem L2
section
variable {P:Program}{w:World}{K:PySem.W.Frag}{mg:Str→Option Value}{base:Heap}{a:Adr}
theorem lw {x y:Str}{m:Nat} (h:(x++y).length≤m) (hm:m≤1000):x.length + y.length≤sizeLine:=by
 rw[PySem.Str.length_append] at h
 rw[sizeLine_eq]
 omega
theorem zeS {pts:List Pt} (nd:(pts.map Prod.fst).Nodup){H:Hp}{hd:Addr} (h:H hd=some (.dK (pts.map zct))){q:Pt} (hq:q∈pts):zgF H hd (.str q.1) (some (.int q.2)):=by
 have:=zgF.k (k:=Sum.inr q.1) h
 rw[zd9 nd hq] at this
 exact this
def zlN (K:PySem.W.Frag):Sp:=fun vs H Q _=>∃ nm hd t d l m pts v i b,vs=[.ref nm,.ref hd,.ref t,.bl b]∧H nm=some (.lst (((pts:List Pt).map Prod.fst).map V.str))∧H hd=some (.dK (pts.map zct))∧SqT K H t [.ref d,.ref l,.ref m]∧zfU K H d l m v∧Nw pts v i ∧
 ∀ q H',zan H H'→H q=none→H' q=some (.lst (txs (zcc b pts v)))→Q (.ref q) H'
set_option maxHeartbeats 4000000 in
theorem zkw (T:Tx K mg a):Cal P w K mg base CX0 2 "_law_lines" ["_law_names_here","_law_halves","_law_kept","_law_bare"] [] (zlN K):=T.d__law_lines.cal fun f fd F=>by
 refine F.ok zau (fun vs H Q E h=>?_) (fun cdv A outer s H vs Q E hr h=>?_)
 ·obtain⟨nm,hd,t,d,l,m,pts,v,i,b,rfl,_⟩:=h
  rfl
 ·obtain⟨nm,hd,t,d,l,m,pts,v,i,b,rfl,hnm,hhd,ht,Kk,W,k⟩:=h
  have w1:=W.w.l1
  have w2:=W.w.l2
  have w3:=W.w.l3
  have w4:=W.w.l4
  obtain⟨p6,a6,s6,m6,b1,e0⟩:=c10
  refine⟨_,(zac (zdM (pv 2) (zbW rfl (zaj (zak (i:=4) zau.nd rfl (by first|exact Or.inl rfl|exact Or.inr rfl)) (zaj (zak (i:=5) zau.nd rfl (by first|exact Or.inl rfl|exact Or.inr rfl)) (zaj (zak (i:=6) zau.nd rfl (by first|exact Or.inl rfl|exact Or.inr rfl)) zaN)))))
   (zac (zdC (i:=7) zau.nd rfl rfl (N:=["_law_name","_law_halves","_law_bare"]) (cap:=[none,some 1,some 3]) rfl (zbd (osc:=zah zbJ) (XN:=["_law_names_here","_law_halves","_law_kept","_law_bare","_law_arrows","_law_sames","_law_mosts","_law_points","_law_ways","_law_number","_law_one","_law_other","_law_span","_law_weight","_law_line","_law_level","_law_near"]) rfl rfl (by decide +kernel)) (zaS (pv 0)) (fun cl C s H fp pins=>(zak (i:=0) (show(["_law_name","_law_halves","_law_bare"]:List Str).Nodup by decide +kernel) rfl (by first|exact Or.inl rfl|exact Or.inr rfl))) (fun cl C s H fp pins=>zaY) (fun cl C s H fp pins=>(zat zao (zat zao zav (pv 0)) (zat zlr (zat zao zav (za2 zaZ rfl T.n_str zcR (zaa (zb3 (zcL hr) (pv 1) (pv 0) (fun _ _=>rfl)) zad))) (za2 ziw rfl T.n_int zi3 (zaa (pe_or (zbo zeU (zb3 (zcL hr) (pv 1) (pv 0) (fun _ _=>rfl)) zai (zax _)) (zed (zkC (pv 2)))) zad))))) (hsw:=rfl))
   (zac (zaG (i:=8) zau.nd rfl (by first|exact Or.inl rfl|exact Or.inr rfl) (zbE zad))
   (zac (zc9 PassesOwn.never rfl (zaS (zar zbX rfl T.n_sorted zdj (zaa (pv 4) zad))) (zak (i:=9) zau.nd rfl (by first|exact Or.inl rfl|exact Or.inr rfl)) (zac (zdM (zb3 (zcL hr) (pv 4) (pv 9) (fun _ _=>rfl)) (zbW rfl (zaj (zak (i:=10) zau.nd rfl (by first|exact Or.inl rfl|exact Or.inr rfl)) (zaj (zak (i:=11) zau.nd rfl (by first|exact Or.inl rfl|exact Or.inr rfl)) (zaj (zak (i:=12) zau.nd rfl (by first|exact Or.inl rfl|exact Or.inr rfl)) (zaj (zak (i:=13) zau.nd rfl (by first|exact Or.inl rfl|exact Or.inr rfl)) zaN))))))
   (zac (zaG (i:=14) zau.nd rfl (by first|exact Or.inl rfl|exact Or.inr rfl) (zat zao (zat zao (zat zao zav (pv 10)) zav) (pv 11)))
   (zac (zaM (PW.pt (zcZ (zaq zeU (pv 12) zai (zax _)) (zcZ (zaq zeU (pv 13) zai (zax _)) (zcx (zbQ (zbn (pv 3))))))) (zag (zaG (i:=14) zau.nd rfl (by first|exact Or.inl rfl|exact Or.inr rfl) (zat zao (zat zao (pv 14) zav) (za2 zaZ rfl T.n_str zcR (zaa (pv 12) zad))))) zap)
   (zac (zaM (PW.pt (zcZ (zaq zeU (pv 13) zai (zax _)) (zcx (zbQ (zbn (pv 3)))))) (zag (zaG (i:=14) zau.nd rfl (by first|exact Or.inl rfl|exact Or.inr rfl) (zat zao (zat zao (pv 14) zav) (za2 zaZ rfl T.n_str zcR (zaa (pv 13) zad))))) zap)
   (zag (zaC (zbN PySem.F.plainAttrs_list PySem.F.slot_list_append PySem.F.type_list_append zaQ (pv 8) (zaa (pv 14) zad)))))))))
   (zac (zdC (i:=15) zau.nd rfl rfl (N:=["_law_one","_law_other"]) (cap:=[none,none]) rfl (zbd (osc:=zah zbJ) (XN:=["_law_names_here","_law_halves","_law_kept","_law_bare","_law_arrows","_law_sames","_law_mosts","_law_points","_law_ways","_law_number","_law_one","_law_other","_law_span","_law_weight","_law_line","_law_level","_law_near"]) rfl rfl (by decide +kernel)) (zaS (pv 5)) (fun cl C s H fp pins=>(zb5 (K:=K) (n:=2) rfl rfl (zaj (zak (i:=0) (show(["_law_one","_law_other"]:List Str).Nodup by decide +kernel) rfl (by first|exact Or.inl rfl|exact Or.inr rfl)) (zaj (zak (i:=1) (show(["_law_one","_law_other"]:List Str).Nodup by decide +kernel) rfl (by first|exact Or.inl rfl|exact Or.inr rfl)) zaN)))) (fun cl C s H fp pins=>zaY) (fun cl C s H fp pins=>(zat zao (zat zao (zat zao zav (pv 0)) zav) (pv 1))) (hsw:=rfl))
   (zac (zdC (i:=16) zau.nd rfl rfl (N:=["_law_one","_law_other","_law_number"]) (cap:=[none,none,none]) rfl (zbd (osc:=zah zbJ) (XN:=["_law_names_here","_law_halves","_law_kept","_law_bare","_law_arrows","_law_sames","_law_mosts","_law_points","_law_ways","_law_number","_law_one","_law_other","_law_span","_law_weight","_law_line","_law_level","_law_near"]) rfl rfl (by decide +kernel)) (zaS (pv 6)) (fun cl C s H fp pins=>(zb5 (K:=K) (n:=3) rfl rfl (zaj (zak (i:=0) (show(["_law_one","_law_other","_law_number"]:List Str).Nodup by decide +kernel) rfl (by first|exact Or.inl rfl|exact Or.inr rfl)) (zaj (zak (i:=1) (show(["_law_one","_law_other","_law_number"]:List Str).Nodup by decide +kernel) rfl (by first|exact Or.inl rfl|exact Or.inr rfl)) (zaj (zak (i:=2) (show(["_law_one","_law_other","_law_number"]:List Str).Nodup by decide +kernel) rfl (by first|exact Or.inl rfl|exact Or.inr rfl)) zaN))))) (fun cl C s H fp pins=>zaY) (fun cl C s H fp pins=>(zat zao (zat zao (zat zao (zat zao (zat zao zav (pv 0)) zav) (pv 1)) zav) (za2 zaZ rfl T.n_str zcR (zaa (pv 2) zad)))) (hsw:=rfl))
   (zac (zaM (zbn (pv 3)) (zag (zaA (zat zeo (zat zeo (zat zeo (pv 7) (pv 8)) (pv 15)) (pv 16)))) zap)
   (zag (zaA (zat zeo (zat zeo (zat zeo (pv 7) (pv 16)) (pv 15)) (pv 8))))))))))),?_⟩
  refine⟨_,rfl,t,_,rfl,ht,rfl,_,_,rfl,_,_,rfl,_,_,rfl,rfl,?_⟩
  dsimp only[zaI]
  refine⟨_,rfl,nm,rfl,⟨_,SqL.of hnm⟩,fun D hD=>?_⟩
  refine zaP (K:=K) (a:=nm) (xs:=(pts.map Prod.fst).map V.str) (fun j τ G=>∃ v1,τ=[v1,some (.ref hd),some (.bl b)]∧zan H G∧G D=some (.lst (txs (zhf b (pts.take j))))) ⟨none,rfl,zan.new hD,zab⟩ ?_ ?_ ?_
  ·rintro j τ G _ ⟨_,rfl,sg,_⟩
   exact SqL.of (sg _ _ hnm)
  ·rintro j y τ G hy ⟨v1,rfl,sg,hG⟩
   obtain⟨z,hz,rfl⟩:=zbB hy
   rw[List.getElem?_map] at hz
   cases eq:pts[j]? with
   | none=>rw[eq] at hz;cases hz
   | some q=>
   rw[eq] at hz
   cases hz
   have mq:=List.mem_of_getElem? eq
   have hj:j<pts.length:=(List.getElem?_eq_some_iff.mp eq).1
   obtain⟨n1,n2,n3⟩:=W.w.nm q mq
   have n8:=(zaB n1).2
   have nk:NOk q.2:=⟨n2,by omega⟩
   have k2:=la p6 n8
   have k3:=la b1 (tn7 nk)
   have dg:=zeS W.w.nd (sg _ _ hhd) mq
   have mk:∀ c:Bool,MulOk (bk++tn q.2) (if c=true then 1 else 0):=fun c=>PyProof.Rows.mulOk_of 8 1 (by omega) (by cases c <;> decide) (by cases c <;> decide) (by decide) (by decide)
   have ml:∀ c:Bool,(Txt.mul (bk++tn q.2) (if c=true then 1 else 0)).length≤8:=fun c=>by
    cases c with
    | true=>exact k3
    | false=>exact(by decide:Str.empty.length≤8)
   have fin:∀ c:Bool,c=(decide (0<q.2) || !b)→∃ ys,G D=some (.lst ys)∧ys.length<sizeLine∧∃ v1,[some (V.str q.1),some (.ref hd),some (.bl b)]=[v1,some (.ref hd),some (.bl b)]∧zan H (upd G D (.lst (ys++[.str (Str.ofString "point "++q.1++Txt.mul (bk++tn q.2) (if c=true then 1 else 0))])))∧upd G D (.lst (ys++[.str (Str.ofString "point "++q.1++Txt.mul (bk++tn q.2) (if c=true then 1 else 0))])) D=some (.lst (txs (zhf b (pts.take (j + 1))))):=fun c ec=>by
    refine⟨_,hG,by rw[zaU];unfold zhf;rw[List.length_map,List.length_take,sizeLine_eq];omega,_,rfl,zaF hD sg,?_⟩
    rw[zab]
    unfold zhf
    rw[zb2 eq,zku n2,ec]
   dsimp only[zaI,zeT]
   rw[if_pos rfl]
   refine⟨_,rfl,_,_,rfl,rfl,lw k2 (by decide),_,rfl,_,rfl,hd,_,rfl,dg,q.2,rfl,zbM nk,_,_,rfl,rfl,lw k3 (by decide),_,rfl,_,rfl,hd,_,rfl,dg,_,_,rfl,rfl,_,rfl,?_⟩
   refine zbA (fun c1=>?_) (fun c1=>?_)
   ·refine .inr ⟨_,rfl,_,_,rfl,rfl,mk _,_,_,rfl,rfl,lw (la k2 (ml _)) (by decide),?_⟩
    refine fin true ?_
    rw[show decide (0<q.2)=true from c1]
    rfl
   ·refine⟨_,rfl,_,rfl,?_⟩
    refine .inr ⟨_,rfl,_,_,rfl,rfl,mk _,_,_,rfl,rfl,lw (la k2 (ml _)) (by decide),?_⟩
    refine fin (!b) ?_
    rw[show decide (0<q.2)=false from c1]
    rfl
  rintro τ G ⟨v1,rfl,sg,hG⟩
  rw[List.length_map,List.length_map,List.take_length] at hG
  refine⟨(by show 0≤sizeLine;decide),fun g ng=>?_⟩
  have s1:zan G (upd G g (.lst [])):=zan.new ng
  have h1:upd G g (.lst []) g=some (.lst []):=zab
  generalize upd G g (.lst [])=H1 at s1 h1 ⊢
  have t1:=sg.trans s1
  have hD1:=s1 _ _ hG
  have K1:=Kk.same t1
  obtain⟨⟨avs,a1,a2⟩,⟨xs,b1',b2⟩,⟨ys,c1,c2⟩,nlm⟩:=K1
  refine⟨_,rfl,d,avs,v.arr.map Ar.num,rfl,a1,zdr a2,by rw[List.length_map];omega,fun q ns nq pm so=>?_⟩
  have ens:ns=v.arr.map Ar.num:=zds pm so (zhe W.rise)
  subst ens
  have s2:zan H1 (upd H1 q (.lst ((v.arr.map Ar.num).map V.int))):=zan.new nq
  have h2:upd H1 q (.lst ((v.arr.map Ar.num).map V.int)) q=some (.lst ((v.arr.map Ar.num).map V.int)):=zab
  have h2g:=s2 _ _ h1
  have qg:q≠g:=Ne.symm (zae h1 nq)
  generalize upd H1 q (.lst ((v.arr.map Ar.num).map V.int))=H2 at s2 h2 h2g ⊢
  have ngH:H g=none:=zbf sg ng
  have gD:g≠D:=Ne.symm (zae hG ng)
  refine⟨q,rfl,⟨_,SqL.of h2⟩,zcI (K:=K) (a:=q) (xs:=(v.arr.map Ar.num).map V.int) (fun j σ G'=>∃ v9 v10 v11 v12 v13 v14,σ=[some (.ref nm),some (.ref hd),some (.ref t),some (.bl b),some (.ref d),some (.ref l),some (.ref m),some (.ref D),some (.ref g),v9,v10,v11,v12,v13,v14,none,none]∧zan H G'∧G' D=some (.lst (txs (zhf b pts)))∧G' q=some (.lst ((v.arr.map Ar.num).map V.int))∧G' g=some (.lst (txs (zif b (v.arr.take j))))) ⟨none,none,none,none,none,none,rfl,t1.trans s2,s2 _ _ hD1,h2,h2g⟩ ?_ ?_ ?_⟩
  ·rintro j σ G' _ ⟨_,_,_,_,_,_,rfl,_,_,hq,_⟩
   exact SqL.of hq
  ·rintro j y σ G' hy ⟨v9,v10,v11,v12,v13,v14,rfl,sg',hD',hq',hg'⟩
   obtain⟨n,hn,rfl⟩:=zeb hy
   rw[List.getElem?_map] at hn
   cases ea:v.arr[j]? with
   | none=>rw[ea] at hn;cases hn
   | some x=>
   rw[ea] at hn
   cases hn
   have mx:=List.mem_of_getElem? ea
   have hj:j<v.arr.length:=(List.getElem?_eq_some_iff.mp ea).1
   obtain⟨x1,x2,x3,x4⟩:=W.w.ar x mx
   obtain⟨_,_,_,sp1,sp2,wt1,wt2⟩:=W.ends x mx
   obtain⟨⟨avs',a1',a2'⟩,_,_,_⟩:=Kk.same sg'
   obtain⟨ta,va,sa⟩:=zfP a2' W.rise mx
   have o8:=(zaB x1).2
   have t8:=(zaB x2).2
   have k1:=la a6 o8
   have k2:=la k1 b1
   have k3:=la k2 t8
   have k4:=la k3 b1
   have k5:=la k4 (tn7 x3)
   dsimp only[zaI]
   refine⟨_,rfl,_,rfl,d,_,rfl,zjc (k:=Sum.inl x.num) a1' va,ta,_,rfl,sa,rfl,_,_,rfl,_,_,rfl,_,_,rfl,_,_,rfl,rfl,?_⟩
   dsimp only[zaI]
   refine⟨_,rfl,_,_,rfl,rfl,lw k1 (by decide),_,_,rfl,rfl,lw k2 (by decide),_,rfl,_,_,rfl,rfl,lw k3 (by decide),?_⟩
   dsimp only[zaI]
   apply zi8 (fun y:Str=>[some (.ref nm),some (.ref hd),some (.ref t),some (.bl b),some (.ref d),some (.ref l),some (.ref m),some (.ref D),some (.ref g),some (.int x.num),some (.str x.one),some (.str x.other),some (.int x.span),some (.int x.weight),some (.str y),none,none]) (fun y H'=>G'=H'∧y=if (decide (1<x.span) || (decide (1<x.weight) || !b))=true then Str.ofString "arrow "++x.one++bk++x.other++bk++tn x.span else Str.ofString "arrow "++x.one++bk++x.other)
   case g=>
    intro zbx
    have yes:(decide (1<x.span) || (decide (1<x.weight) || !b))=true→_:=fun e=>zbx (Str.ofString "arrow "++x.one++bk++x.other++bk++tn x.span) G' ⟨rfl,by rw[if_pos e]⟩
    refine⟨_,rfl,_,_,rfl,rfl,_,rfl,?_⟩
    refine zbA (fun c1=>ziK ?_) (fun c1=>?_)
    ·refine⟨_,rfl,_,_,rfl,rfl,lw k4 (by decide),_,rfl,x.span,rfl,zbM x3,_,_,rfl,rfl,lw k5 (by decide),?_⟩
     exact yes (by rw[show decide (1<x.span)=true from c1];rfl)
    refine⟨_,rfl,_,_,rfl,rfl,_,rfl,?_⟩
    refine zbA (fun c2=>ziK ?_) (fun c2=>?_)
    ·refine⟨_,rfl,_,_,rfl,rfl,lw k4 (by decide),_,rfl,x.span,rfl,zbM x3,_,_,rfl,rfl,lw k5 (by decide),?_⟩
     exact yes (by rw[show decide (1<x.span)=false from c1,show decide (1<x.weight)=true from c2];rfl)
    refine⟨_,rfl,_,rfl,?_⟩
    refine zbA (fun c3=>?_) (fun c3=>?_)
    ·refine⟨_,rfl,_,_,rfl,rfl,lw k4 (by decide),_,rfl,x.span,rfl,zbM x3,_,_,rfl,rfl,lw k5 (by decide),?_⟩
     exact yes (by rw[show decide (1<x.span)=false from c1,show decide (1<x.weight)=false from c2];exact c3)
    ·exact zbx (Str.ofString "arrow "++x.one++bk++x.other) G' ⟨rfl,by rw[if_neg (by rw[show decide (1<x.span)=false from c1,show decide (1<x.weight)=false from c2,show(!b)=false from c3];decide)]⟩
   case h=>
    rintro ly _ ⟨rfl,ely⟩
    have lyl:ly.length≤6 + 8 + 1 + 8 + 1 + 7:=by
     rw[ely]
     split
     ·exact k5
     ·omega
    have k6:=la lyl b1
    have k7:=la k6 (tn7 x4)
    dsimp only
    apply zi8 (fun y:Str=>[some (.ref nm),some (.ref hd),some (.ref t),some (.bl b),some (.ref d),some (.ref l),some (.ref m),some (.ref D),some (.ref g),some (.int x.num),some (.str x.one),some (.str x.other),some (.int x.span),some (.int x.weight),some (.str y),none,none]) (fun y H'=>G'=H'∧y=(arB b x.one x.other x.span x.weight).text)
    case g=>
     intro zbx
     have et:=zkv (b:=b) (o:=x.one) (t:=x.other) sp1 wt1
     rw[← ely] at et
     refine⟨_,rfl,_,_,rfl,rfl,_,rfl,?_⟩
     refine zbA (fun c1=>ziK ?_) (fun c1=>?_)
     ·refine⟨_,rfl,_,_,rfl,rfl,lw k6 (by decide),_,rfl,x.weight,rfl,zbM x4,_,_,rfl,rfl,lw k7 (by decide),?_⟩
      refine zbx (ly++bk++tn x.weight) G' ⟨rfl,?_⟩
      rw[et,show decide (1<x.weight)=true from c1,Bool.true_or,if_pos rfl]
     refine⟨_,rfl,_,rfl,?_⟩
     refine zbA (fun c2=>?_) (fun c2=>?_)
     ·refine⟨_,rfl,_,_,rfl,rfl,lw k6 (by decide),_,rfl,x.weight,rfl,zbM x4,_,_,rfl,rfl,lw k7 (by decide),?_⟩
      refine zbx (ly++bk++tn x.weight) G' ⟨rfl,?_⟩
      rw[et,show decide (1<x.weight)=false from c1,Bool.false_or,if_pos c2]
     ·refine zbx ly G' ⟨rfl,?_⟩
      rw[et,show decide (1<x.weight)=false from c1,Bool.false_or,if_neg (by rw[show(!b)=false from c2];decide)]
    case h=>
     rintro lz _ ⟨rfl,elz⟩
     dsimp only
     refine⟨_,rfl,.inl ⟨rfl,_,SqL.of hg'⟩,_,rfl,g,_,_,rfl,rfl,hg',by rw[zaU];unfold zif;rw[List.length_map,List.length_take,sizeLine_eq];omega,?_⟩
     refine⟨_,_,_,_,_,_,rfl,zaF ngH sg',by rw[zaf (Ne.symm gD)];exact hD',by rw[zaf qg];exact hq',?_⟩
     rw[zab]
     unfold zif
     rw[zb2 ea,elz]
  ·rintro σ G' ⟨v9,v10,v11,v12,v13,v14,rfl,sg',hD',hq',hg'⟩
   rw[List.length_map,List.length_map,List.take_length] at hg'
   obtain⟨_,⟨xs,b1',b2⟩,⟨ys,c1,c2⟩,_⟩:=Kk.same sg'
   refine⟨_,rfl,l,rfl,⟨_,SqL.of b1'⟩,fun D4 hD4=>?_⟩
   refine zaP (K:=K) (a:=l) (xs:=xs) (fun j τ G3=>∃ v1 v2,τ=[v1,v2]∧zan G' G3∧G3 D4=some (.lst (txs (zeR (v.ss.take j))))) ⟨none,none,rfl,zan.new hD4,zab⟩ ?_ ?_ ?_
   ·rintro j τ G3 _ ⟨_,_,rfl,s3,_⟩
    exact SqL.of (s3 _ _ b1')
   ·rintro j y τ G3 hy ⟨v1,v2,rfl,s3,hG3⟩
    obtain⟨x,ex,dx⟩:=zbS b2 hy
    obtain⟨tx,rfl,htx⟩:=zlG dx
    have hj:j<v.ss.length:=(List.getElem?_eq_some_iff.mp ex).1
    obtain⟨q1,q2⟩:=W.w.ss x (List.mem_of_getElem? ex)
    have k1:=la s6 (zaB q1).2
    have k2:=la k1 b1
    have k3:=la k2 (zaB q2).2
    refine⟨tx,_,rfl,(Tk.of s3).sqT htx,rfl,_,_,rfl,_,_,rfl,rfl,?_⟩
    dsimp only[zaI,zeT]
    rw[if_pos rfl]
    refine⟨_,rfl,_,_,rfl,rfl,lw k1 (by decide),_,_,rfl,rfl,lw k2 (by decide),_,rfl,_,_,rfl,rfl,lw k3 (by decide),?_⟩
    refine⟨_,hG3,by rw[zaU];unfold zeR;rw[List.length_map,List.length_take,sizeLine_eq];omega,_,_,rfl,zaF hD4 s3,?_⟩
    rw[zab]
    unfold zeR
    rw[zb2 ex,show(Ln.sm x.1 x.2).text=Str.ofString "same "++x.1++bk++x.2 by
     rw[k_sm]
     refine(jn3 _ _ _).trans ?_
     simp only[PySem.Str.append_assoc]]
   rintro τ G3 ⟨v1,v2,rfl,s3,hG3⟩
   rw[← zbb b2,List.length_map,List.take_length] at hG3
   have c13:=s3 _ _ c1
   have c23:=s3.dts c2
   refine⟨_,rfl,m,rfl,⟨_,SqL.of c13⟩,fun D6 hD6=>?_⟩
   refine zaP (K:=K) (a:=m) (xs:=ys) (fun j τ G4=>∃ v1 v2 v3,τ=[v1,v2,v3]∧zan G3 G4∧G4 D6=some (.lst (txs (zfT (v.mm.take j))))) ⟨none,none,none,rfl,zan.new hD6,zab⟩ ?_ ?_ ?_
   ·rintro j τ G4 _ ⟨_,_,_,rfl,s4,_⟩
    exact SqL.of (s4 _ _ c13)
   ·rintro j y τ G4 hy ⟨v1,v2,v3,rfl,s4,hG4⟩
    obtain⟨x,ex,dx⟩:=zbS c23 hy
    obtain⟨tx,rfl,htx⟩:=zlH dx
    have hj:j<v.mm.length:=(List.getElem?_eq_some_iff.mp ex).1
    obtain⟨q1,q2,q3⟩:=W.w.mm x (List.mem_of_getElem? ex)
    have k1:=la m6 (zaB q1).2
    have k2:=la k1 b1
    have k3:=la k2 (zaB q2).2
    have k4:=la k3 b1
    have k5:=la k4 (tn7 q3)
    refine⟨tx,_,rfl,(Tk.of s4).sqT htx,rfl,_,_,rfl,_,_,rfl,_,_,rfl,rfl,?_⟩
    dsimp only[zaI,zeT]
    rw[if_pos rfl]
    refine⟨_,rfl,_,_,rfl,rfl,lw k1 (by decide),_,_,rfl,rfl,lw k2 (by decide),_,rfl,_,_,rfl,rfl,lw k3 (by decide),_,_,rfl,rfl,lw k4 (by decide),_,rfl,x.2.2,rfl,zbM q3,_,_,rfl,rfl,lw k5 (by decide),?_⟩
    refine⟨_,hG4,by rw[zaU];unfold zfT;rw[List.length_map,List.length_take,sizeLine_eq];omega,_,_,_,rfl,zaF hD6 s4,?_⟩
    rw[zab]
    unfold zfT
    rw[zb2 ex,show(Ln.ms x.1 x.2.1 x.2.2).text=Str.ofString "most "++x.1++bk++x.2.1++bk++tn x.2.2 by
     rw[k_ms]
     refine(jn4 _ _ _ _).trans ?_
     simp only[PySem.Str.append_assoc]]
    rfl
   rintro τ G4 ⟨v1,v2,v3,rfl,s4,hG4⟩
   rw[← zbb c23,List.length_map,List.take_length] at hG4
   have s34:=s3.trans s4
   have e1:=s34 _ _ hD'
   have e2:=s34 _ _ hg'
   have e3:=s4 _ _ hG3
   have lp:(txs (zhf b pts)).length≤20:=by rw[zaU];unfold zhf;rw[List.length_map];exact w1
   have lq:(txs (zif b v.arr)).length≤40:=by rw[zaU];unfold zif;rw[List.length_map];exact w2
   have lr:(txs (zeR v.ss)).length≤20:=by rw[zaU];unfold zeR;rw[List.length_map];exact w3
   have lt_:(txs (zfT v.mm)).length≤20:=by rw[zaU];unfold zfT;rw[List.length_map];exact w4
   have sA:=sg'.trans s34
   refine⟨_,rfl,_,rfl,?_⟩
   cases b with
   | true=>
    refine ziK ?_
    refine⟨_,rfl,_,rfl,D,g,_,_,rfl,rfl,e1,e2,by rw[sizeLine_eq];omega,fun r1 n1=>?_⟩
    have z1:=zan.new (H:=G4) (o:=.lst (txs (zhf true pts)++txs (zif true v.arr))) n1
    refine⟨_,rfl,r1,D4,_,_,rfl,rfl,zab,z1 _ _ e3,by rw[List.length_append,sizeLine_eq];omega,fun r2 n2=>?_⟩
    have z2:=zan.new (o:=.lst (txs (zhf true pts)++txs (zif true v.arr)++txs (zeR v.ss))) n2
    refine⟨_,rfl,r2,D6,_,_,rfl,rfl,zab,z2 _ _ (z1 _ _ hG4),by rw[List.length_append,List.length_append,sizeLine_eq];omega,fun r3 n3=>?_⟩
    refine k r3 _ (((sA.trans z1).trans z2).trans (zan.new n3)) (zbf ((sA.trans z1).trans z2) n3) ?_
    rw[zab,← zbL,← zbL,← zbL]
    rfl
   | false=>
    refine zlg ?_
    refine⟨_,rfl,_,rfl,D,D6,_,_,rfl,rfl,e1,hG4,by rw[sizeLine_eq];omega,fun r1 n1=>?_⟩
    have z1:=zan.new (H:=G4) (o:=.lst (txs (zhf false pts)++txs (zfT v.mm))) n1
    refine⟨_,rfl,r1,D4,_,_,rfl,rfl,zab,z1 _ _ e3,by rw[List.length_append,sizeLine_eq];omega,fun r2 n2=>?_⟩
    have z2:=zan.new (o:=.lst (txs (zhf false pts)++txs (zfT v.mm)++txs (zeR v.ss))) n2
    refine⟨_,rfl,r2,g,_,_,rfl,rfl,zab,z2 _ _ (z1 _ _ e2),by rw[List.length_append,List.length_append,sizeLine_eq];omega,fun r3 n3=>?_⟩
    refine k r3 _ (((sA.trans z1).trans z2).trans (zan.new n3)) (zbf ((sA.trans z1).trans z2) n3) ?_
    rw[zab,← zbL,← zbL,← zbL]
    rfl
end
end K04
namespace K04
open PySem L2
def zcv:Int→List Ar→List Ar
 | _,[]=>[]
 | k,q::r=>⟨k,q.one,q.other,q.span,q.weight⟩::zcv (k + 1) r
theorem zcd:∀ (k:Int) (ar:List Ar),(zcv k ar).length=ar.length
 | _,[]=>rfl
 | k,q::r=>by show(zcv (k + 1) r).length + 1=r.length + 1;rw[zcd]
theorem zdL (x:Ar):∀ (k:Int) (ar:List Ar),zcv k (ar++[x])=zcv k ar++[⟨k + ar.length,x.one,x.other,x.span,x.weight⟩]
 | k,[]=>by
  show[(⟨k,_,_,_,_⟩:Ar)]=[⟨k + ((0:Nat):Int),_,_,_,_⟩]
  rw[show k + ((0:Nat):Int)=k by omega]
 | k,q::r=>by
  show _::zcv (k + 1) (r++[x])=_::(zcv (k + 1) r++_)
  rw[zdL x (k + 1) r,show k + 1 + (r.length:Int)=k + ((q::r).length:Int) by rw[List.length_cons];omega]
def ar4D (q:Ar):Dt:=.tup [.str q.one,.str q.other,.int q.span,.int q.weight]
theorem dt_ar4 {K:PySem.W.Frag}{H:Hp}{t:Addr}{q:Ar} (h:SqT K H t (arV q)):DtV K H (ar4D q) (.ref t):=⟨t,_,rfl,h,_,_,rfl,rfl,_,_,rfl,rfl,_,_,rfl,rfl,_,_,rfl,rfl,rfl⟩
theorem un_ar4 {K:PySem.W.Frag}{H:Hp}{x:V}{q:Ar} (h:DtV K H (ar4D q) x):∃ t,x=.ref t∧SqT K H t [.str q.one,.str q.other,.int q.span,.int q.weight]:=by
 obtain⟨t,xs,rfl,h1,y1,ys1,rfl,rfl,y2,ys2,rfl,rfl,y3,ys3,rfl,rfl,y4,ys4,rfl,rfl,h2⟩:=h
 rw[show ys4=[] from h2] at h1
 exact⟨t,rfl,h1⟩
theorem zkS {K:PySem.W.Frag}{H:Hp}{t:Addr}{q:Ar} (h:SqT K H t [.int q.num,.str q.one,.str q.other,.int q.span,.int q.weight]):DtV K H (arD q) (.ref t):=⟨t,_,rfl,h,_,_,rfl,rfl,_,_,rfl,rfl,_,_,rfl,rfl,_,_,rfl,rfl,_,_,rfl,rfl,rfl⟩
theorem zkT:∀ l:List Ar,zdS (l.map ar4D)=true
 | []=>rfl
 | _::l=>zkT l
theorem zkU:∀ l:List Ar,zdS (l.map arD)=true
 | []=>rfl
 | _::l=>zkU l
theorem zdt {K:PySem.W.Frag}{H:Hp}:∀ ls:List Str,zbu K H (ls.map Dt.str) (ls.map V.str)
 | []=>rfl
 | s::ls=>⟨_,_,rfl,rfl,zdt ls⟩
theorem zgz (ls:List Str):zcB 60 (.lst (ls.map Dt.str)):=zbH (n:=59) (f:=Dt.str) (fun _=>trivial) _
theorem zjJ (ls:List Int):zcB 60 (.lst (ls.map Dt.int)):=zbH (n:=59) (f:=Dt.int) (fun _=>trivial) _
theorem grow {K:PySem.W.Frag}{D z:Addr}{B H:Hp}{ds:List Dt}{d:Dt}{ys vs:List V} (nD:B D=none) (sm:zan B H) (hy:H D=some (.lst ys)) (dy:zbu K H ds ys) (nl:zdS ds=true) (nz:H z=none) (hd:∀ H',SqT K H' z vs→DtV K H' d (.ref z)) :
  (upd H z (.tup vs)) D=some (.lst ys)∧zan B (upd (upd H z (.tup vs)) D (.lst (ys++[.ref z])))∧zbu K (upd (upd H z (.tup vs)) D (.lst (ys++[.ref z]))) (ds++[d]) (ys++[.ref z]):=by
 have s3:zan H (upd H z (.tup vs)):=zan.new nz
 have hz:SqT K (upd H z (.tup vs)) z vs:=SqT.of zab
 have hy3:=s3 _ _ hy
 generalize upd H z (.tup vs)=H3 at s3 hz hy3 ⊢
 have tk:Tk H3 (upd H3 D (.lst (ys++[.ref z]))):=Tk.upd hy3 rfl
 exact⟨hy3,zaF nD (sm.trans s3),zbu.snoc (hd _ (tk.sqT hz)) (tk.dts nl (s3.dts dy))⟩
structure zlO (pts:List Pt) (v u:zbt):Prop where
 kv:u.kvs=pts.map zct
 ar:u.arr=zcv 0 v.arr
 ss:u.ss=v.ss
 mm:u.mm=v.mm
section
variable {P:Program}{w:World}{K:PySem.W.Frag}{mg:Str→Option Value}{base:Heap}{a:Adr}
def zlP (K:PySem.W.Frag) (a:Adr):Sp:=fun vs H Q _=>∃ p r u nm hd t d l m pts v i,vs=[.ref p,.ref nm,.ref hd,.ref t]∧za4 K a.Net H p r u∧H nm=some (.lst (((pts:List Pt).map Prod.fst).map V.str))∧H hd=some (.dK (pts.map zct))∧SqT K H t [.ref d,.ref l,.ref m]∧zfU K H d l m v∧Nw pts v i∧zlO pts v u∧∀ H',zan H H'→Q (.bl true) H'
set_option maxHeartbeats 4000000 in
theorem zkx (T:Tx K mg a):Cal P w K mg base CX0 6 "_law_alike" ["_law_net","_law_names_here","_law_halves","_law_kept"] [] (zlP K a):=T.d__law_alike.cal fun f fd F=>by
 have m_Net_half_of:=zdJ (P:=P) (w:=w) (base:=base) T
 have m_Net_points:=zdp (P:=P) (w:=w) (base:=base) T
 have m_Net_arrows:=zdq (P:=P) (w:=w) (base:=base) T
 have m_Net_sames:=zfI (P:=P) (w:=w) (base:=base) T
 have m_Net_mosts:=zfJ (P:=P) (w:=w) (base:=base) T
 refine F.ok za9 (fun vs H Q E h=>?_) (fun cdv A outer s H vs Q E hr h=>?_)
 ·obtain⟨p,r,u,nm,hd,t,d,l,m,pts,v,i,rfl,_⟩:=h
  rfl
 ·obtain⟨p,r,u,nm,hd,t,d,l,m,pts,v,i,rfl,N,hnm,hhd,ht,Kk,W,U,k⟩:=h
  have w1:=W.w.l1
  have w2:=W.w.l2
  have w3:=W.w.l3
  have w4:=W.w.l4
  have kvE:zc3 u.kvs=(pts.map Prod.fst).map V.str:=by rw[U.kv];unfold zc3;rw[List.map_map,List.map_map];rfl
  refine⟨_,(zac (zdM (pv 3) (zbW rfl (zaj (zak (i:=4) za9.nd rfl (by first|exact Or.inl rfl|exact Or.inr rfl)) (zaj (zak (i:=5) za9.nd rfl (by first|exact Or.inl rfl|exact Or.inr rfl)) (zaj (zak (i:=6) za9.nd rfl (by first|exact Or.inl rfl|exact Or.inr rfl)) zaN)))))
   (zac (zdC (i:=7) za9.nd rfl rfl (N:=["_law_number","_law_arrows"]) (cap:=[none,some 4]) rfl (zbd (osc:=zah zbm) (XN:=["_law_net","_law_names_here","_law_halves","_law_kept","_law_arrows","_law_sames","_law_mosts","_law_rows","_law_found"]) rfl rfl (by decide +kernel)) (zaS (zar zbX rfl T.n_sorted zdj (zaa (pv 4) zad))) (fun cl C s H fp pins=>(zak (i:=0) (show(["_law_number","_law_arrows"]:List Str).Nodup by decide +kernel) rfl (by first|exact Or.inl rfl|exact Or.inr rfl))) (fun cl C s H fp pins=>zaY) (fun cl C s H fp pins=>(zb3 (zcL hr) (pv 1) (pv 0) (fun _ _=>rfl))) (hsw:=rfl))
   (zac (zdC (i:=8) za9.nd rfl rfl (N:=["_law_name","_law_net"]) (cap:=[none,some 0]) rfl (zbd (osc:=zah zbm) (XN:=["_law_net","_law_names_here","_law_halves","_law_kept","_law_arrows","_law_sames","_law_mosts","_law_rows","_law_found"]) rfl rfl (by decide +kernel)) (zaS (za1 (pv 0) T.c_Net m_Net_points (hr.mono (by decide)))) (fun cl C s H fp pins=>(zak (i:=0) (show(["_law_name","_law_net"]:List Str).Nodup by decide +kernel) rfl (by first|exact Or.inl rfl|exact Or.inr rfl))) (fun cl C s H fp pins=>zaY) (fun cl C s H fp pins=>(zaK (pv 1) T.c_Net m_Net_half_of za5 (hr.mono (by decide)) (zaa (pv 0) zad))) (hsw:=rfl))
   (zac (zaM (PW.pt (zcZ (zaq (zgg hr.units) (za1 (pv 0) T.c_Net m_Net_points (hr.mono (by decide))) (pv 1) (zax _)) (zcx (zaq (zgg hr.units) (pv 8) (zbh (N:=["_law_name","_law_halves"]) (cap:=[none,some 2]) rfl (zbd (osc:=zah zbm) (XN:=["_law_net","_law_names_here","_law_halves","_law_kept","_law_arrows","_law_sames","_law_mosts","_law_rows","_law_found"]) rfl rfl (by decide +kernel)) (zaS (pv 1)) (fun cl C s H fp pins=>(zak (i:=0) (show(["_law_name","_law_halves"]:List Str).Nodup by decide +kernel) rfl (by first|exact Or.inl rfl|exact Or.inr rfl))) (fun cl C s H fp pins=>zaY) (fun cl C s H fp pins=>(zb3 (zcL hr) (pv 1) (pv 0) (fun _ _=>rfl)))) (zax _))))) (zag (zaA zdZ)) zap)
   (zac (zaM (zaq (zgg hr.units) (za1 (pv 0) T.c_Net m_Net_arrows (hr.mono (by decide))) (zbh (N:=["_law_k","_law_one","_law_other","_law_span","_law_weight"]) (cap:=[none,none,none,none,none]) rfl (zbd (osc:=zah zbm) (XN:=["_law_net","_law_names_here","_law_halves","_law_kept","_law_arrows","_law_sames","_law_mosts","_law_rows","_law_found"]) rfl rfl (by decide +kernel)) (zbY rfl T.n_enumerate (zaa (pv 7) zad)) (fun cl C s H fp pins=>(zb5 (K:=K) (n:=2) rfl rfl (zaj (zak (i:=0) (show(["_law_k","_law_one","_law_other","_law_span","_law_weight"]:List Str).Nodup by decide +kernel) rfl (by first|exact Or.inl rfl|exact Or.inr rfl)) (zaj (zb5 (K:=K) (n:=4) rfl rfl (zaj (zak (i:=1) (show(["_law_k","_law_one","_law_other","_law_span","_law_weight"]:List Str).Nodup by decide +kernel) rfl (by first|exact Or.inl rfl|exact Or.inr rfl)) (zaj (zak (i:=2) (show(["_law_k","_law_one","_law_other","_law_span","_law_weight"]:List Str).Nodup by decide +kernel) rfl (by first|exact Or.inl rfl|exact Or.inr rfl)) (zaj (zak (i:=3) (show(["_law_k","_law_one","_law_other","_law_span","_law_weight"]:List Str).Nodup by decide +kernel) rfl (by first|exact Or.inl rfl|exact Or.inr rfl)) (zaj (zak (i:=4) (show(["_law_k","_law_one","_law_other","_law_span","_law_weight"]:List Str).Nodup by decide +kernel) rfl (by first|exact Or.inl rfl|exact Or.inr rfl)) zaN))))) zaN)))) (fun cl C s H fp pins=>zaY) (fun cl C s H fp pins=>(zbv (zaa (pv 0) (zaa (pv 1) (zaa (pv 2) (zaa (pv 3) (zaa (pv 4) zad)))))))) (zax _)) (zag (zaA zdZ)) zap)
   (zag (zaA (zee (zbo (ziN hr.units) (za1 (pv 0) T.c_Net m_Net_sames (hr.mono (by decide))) (pv 5) (zax _)) (zed (zbo (ziN hr.units) (za1 (pv 0) T.c_Net m_Net_mosts (hr.mono (by decide))) (pv 6) (zax _))))))))))),?_⟩
  refine⟨_,rfl,t,_,rfl,ht,rfl,_,_,rfl,_,_,rfl,_,_,rfl,rfl,?_⟩
  dsimp only[zaI]
  obtain⟨⟨avs,a1,a2⟩,⟨xs,b1,b2⟩,⟨ys,c1,c2⟩,nlm⟩:=Kk
  refine⟨_,rfl,d,avs,v.arr.map Ar.num,rfl,a1,zdr a2,by rw[List.length_map];omega,fun q ns nq pm so=>?_⟩
  have ens:ns=v.arr.map Ar.num:=zds pm so (zhe W.rise)
  subst ens
  have s1:zan H (upd H q (.lst ((v.arr.map Ar.num).map V.int))):=zan.new nq
  have h1:upd H q (.lst ((v.arr.map Ar.num).map V.int)) q=some (.lst ((v.arr.map Ar.num).map V.int)):=zab
  generalize upd H q (.lst ((v.arr.map Ar.num).map V.int))=H1 at s1 h1 ⊢
  refine⟨q,rfl,⟨_,SqL.of h1⟩,fun D hD=>?_⟩
  refine zaP (K:=K) (a:=q) (xs:=(v.arr.map Ar.num).map V.int) (fun j τ G=>∃ v1 zs,τ=[v1,some (.ref d)]∧zan H1 G∧G D=some (.lst zs)∧zbu K G ((v.arr.take j).map ar4D) zs) ⟨none,[],rfl,zan.new hD,zab,rfl⟩ ?_ ?_ ?_
  ·rintro j τ G _ ⟨_,_,rfl,sg,_⟩
   exact SqL.of (sg _ _ h1)
  ·rintro j y τ G hy ⟨v1,zs,rfl,sg,hG,dz⟩
   obtain⟨n,hn,rfl⟩:=zeb hy
   rw[List.getElem?_map] at hn
   cases ea:v.arr[j]? with
   | none=>rw[ea] at hn;cases hn
   | some x=>
   rw[ea] at hn
   cases hn
   have hj:j<v.arr.length:=(List.getElem?_eq_some_iff.mp ea).1
   have sG:=s1.trans sg
   obtain⟨ta,va,sa⟩:=zfP ((Tk.of sG).arr a2) W.rise (List.mem_of_getElem? ea)
   have zl:zs.length≤100:=by rw[← zbb dz,List.length_map,List.length_take];omega
   dsimp only[zaI,zeT]
   rw[if_pos rfl]
   refine⟨_,rfl,_,rfl,d,_,rfl,zjc (k:=Sum.inl x.num) (sG _ _ a1) va,?_⟩
   have tk:Tk G (upd G D (.lst (zs++[.ref ta]))):=Tk.upd hG rfl
   refine⟨_,hG,by rw[sizeLine_eq];omega,_,_,rfl,zaF hD sg,zab,?_⟩
   rw[zaw ea,List.map_append]
   exact zbu.snoc (dt_ar4 (tk.sqT sa)) (tk.dts (zkT _) dz)
  rintro τ G ⟨v1,zs,rfl,sg,hG,dz⟩
  rw[List.length_map,List.length_map,List.take_length] at dz
  have sA:=s1.trans sg
  have NG:=N.same sA
  obtain⟨dx,hp⟩:=NG.ex
  refine⟨_,rfl,p,dx,_,rfl,hp,by rfl,p,r,u,rfl,NG,fun l2 nl2=>?_⟩
  rw[kvE]
  have s2:zan G (upd G l2 (.lst ((pts.map Prod.fst).map V.str))):=zan.new nl2
  have h2:upd G l2 (.lst ((pts.map Prod.fst).map V.str)) l2=some (.lst ((pts.map Prod.fst).map V.str)):=zab
  generalize upd G l2 (.lst ((pts.map Prod.fst).map V.str))=H2 at s2 h2 ⊢
  refine⟨l2,rfl,⟨_,SqL.of h2⟩,fun D2 hD2=>?_⟩
  refine zaP (K:=K) (a:=l2) (xs:=(pts.map Prod.fst).map V.str) (fun j τ G2=>∃ v1,τ=[v1,some (.ref p)]∧zan H2 G2∧G2 D2=some (.lst (((pts.take j).map Prod.snd).map V.int))) ⟨none,rfl,zan.new hD2,zab⟩ ?_ ?_ ?_
  ·rintro j τ G2 _ ⟨_,rfl,sg2,_⟩
   exact SqL.of (sg2 _ _ h2)
  ·rintro j y τ G2 hy ⟨v1,rfl,sg2,hG2⟩
   obtain⟨z,hz,rfl⟩:=zbB hy
   rw[List.getElem?_map] at hz
   cases eq:pts[j]? with
   | none=>rw[eq] at hz;cases hz
   | some x=>
   rw[eq] at hz
   cases hz
   have hj:j<pts.length:=(List.getElem?_eq_some_iff.mp eq).1
   have N2:=NG.same (s2.trans sg2)
   obtain⟨dx2,hp2⟩:=N2.ex
   dsimp only[zaI,zeT]
   rw[if_pos rfl]
   refine⟨_,rfl,p,dx2,_,rfl,hp2,by rfl,_,rfl,p,r,u,x.1,.int x.2,rfl,N2,by rw[U.kv];exact zd9 W.w.nd (List.mem_of_getElem? eq),fun G3 s3=>?_⟩
   refine⟨_,s3 _ _ hG2,by rw[List.length_map,List.length_map,List.length_take,sizeLine_eq];omega,_,rfl,zaF hD2 (sg2.trans s3),?_⟩
   rw[zab,zaw eq,List.map_append,List.map_append]
   rfl
  rintro τ G2 ⟨v1,rfl,sg2,hG2⟩
  rw[List.length_map,List.length_map,List.take_length] at hG2
  have sB:=sA.trans (s2.trans sg2)
  have N2:=N.same sB
  obtain⟨dx2,hp2⟩:=N2.ex
  refine⟨_,rfl,p,dx2,_,rfl,hp2,by rfl,p,r,u,rfl,N2,fun l3 nl3=>?_⟩
  rw[kvE]
  have s3:zan G2 (upd G2 l3 (.lst ((pts.map Prod.fst).map V.str))):=zan.new nl3
  have h3:upd G2 l3 (.lst ((pts.map Prod.fst).map V.str)) l3=some (.lst ((pts.map Prod.fst).map V.str)):=zab
  generalize upd G2 l3 (.lst ((pts.map Prod.fst).map V.str))=H3 at s3 h3 ⊢
  have sC:=sB.trans s3
  refine⟨_,rfl,.lst ((pts.map Prod.fst).map Dt.str),.lst ((pts.map Prod.fst).map Dt.str),rfl,rfl,⟨l3,_,rfl,SqL.of h3,zdt _⟩,⟨nm,_,rfl,SqL.of (sC _ _ hnm),zdt _⟩,zgz _,_,rfl,zb6 (by rw[zbz];rfl) ?_⟩
  refine⟨_,rfl,_,rfl,nm,rfl,⟨_,SqL.of (sC _ _ hnm)⟩,fun D4 hD4=>?_⟩
  refine zaP (K:=K) (a:=nm) (xs:=(pts.map Prod.fst).map V.str) (fun j τ G4=>∃ v1,τ=[v1,some (.ref hd)]∧zan H3 G4∧G4 D4=some (.lst (((pts.take j).map Prod.snd).map V.int))) ⟨none,rfl,zan.new hD4,zab⟩ ?_ ?_ ?_
  ·rintro j τ G4 _ ⟨_,rfl,sg4,_⟩
   exact SqL.of (sg4 _ _ (sC _ _ hnm))
  ·rintro j y τ G4 hy ⟨v1,rfl,sg4,hG4⟩
   obtain⟨z,hz,rfl⟩:=zbB hy
   rw[List.getElem?_map] at hz
   cases eq:pts[j]? with
   | none=>rw[eq] at hz;cases hz
   | some x=>
   rw[eq] at hz
   cases hz
   have hj:j<pts.length:=(List.getElem?_eq_some_iff.mp eq).1
   dsimp only[zaI,zeT]
   rw[if_pos rfl]
   refine⟨_,rfl,_,rfl,hd,_,rfl,zeS W.w.nd (sg4 _ _ (sC _ _ hhd)) (List.mem_of_getElem? eq),?_⟩
   refine⟨_,hG4,by rw[List.length_map,List.length_map,List.length_take,sizeLine_eq];omega,_,rfl,zaF hD4 sg4,?_⟩
   rw[zab,zaw eq,List.map_append,List.map_append]
   rfl
  rintro τ G4 ⟨v1,rfl,sg4,hG4⟩
  rw[List.length_map,List.length_map,List.take_length] at hG4
  have sD:=sC.trans sg4
  refine⟨.lst ((pts.map Prod.snd).map Dt.int),.lst ((pts.map Prod.snd).map Dt.int),rfl,rfl,⟨D2,_,rfl,SqL.of ((s3.trans sg4) _ _ hG2),zfu _⟩,⟨D4,_,rfl,SqL.of hG4,zfu _⟩,zjJ _,_,rfl,?_⟩
  rw[zbz]
  refine zbA (fun c=>absurd c (by decide)) (fun _=>?_)
  have N4:=N.same sD
  obtain⟨dx4,hp4⟩:=N4.ex
  have sE:zan G G4:=s2.trans (sg2.trans (s3.trans sg4))
  refine⟨_,rfl,p,dx4,_,rfl,hp4,by rfl,p,r,u,rfl,N4,by rw[List.length_map,U.ar,zcd];omega,fun l5 H5 xs5 s5 n5 h5 d5 _=>?_⟩
  have d5:zbu K H5 (u.arr.map arD) xs5:=d5
  rw[U.ar] at d5
  have hD5:=(sE.trans s5) _ _ hG
  have dz5:=(sE.trans s5).dts dz
  refine⟨_,rfl,D,rfl,⟨_,SqL.of hD5⟩,fun D6 hD6=>?_⟩
  refine zjb (K:=K) (l:=D) (xs:=zs) (fun j τ G6=>∃ v1 v2 v3 v4 v5 us,τ=[v1,v2,v3,v4,v5]∧zan H5 G6∧G6 D6=some (.lst us)∧zbu K G6 ((zcv 0 (v.arr.take j)).map arD) us) ⟨none,none,none,none,none,[],rfl,zan.new hD6,zab,rfl⟩ ?_ ?_ ?_
  ·rintro j τ G6 _ ⟨_,_,_,_,_,_,rfl,sg6,_⟩
   exact SqL.of (sg6 _ _ hD5)
  ·rintro j y te τ G6 hy nte ⟨v1,v2,v3,v4,v5,us,rfl,sg6,hG6,du⟩
   obtain⟨x,ex,dx6⟩:=zbS dz5 hy
   obtain⟨tx,rfl,htx⟩:=un_ar4 dx6
   have hj:j<v.arr.length:=(List.getElem?_eq_some_iff.mp ex).1
   have st:zan G6 (upd G6 te (.tup [.int (j:Int),.ref tx])):=zan.new nte
   have hte:SqT K (upd G6 te (.tup [.int (j:Int),.ref tx])) te [.int (j:Int),.ref tx]:=SqT.of zab
   generalize upd G6 te (.tup [.int (j:Int),.ref tx])=G7 at st hte ⊢
   have ul:us.length≤100:=by rw[← zbb du,List.length_map,zcd,List.length_take];omega
   refine⟨te,_,rfl,hte,rfl,_,_,rfl,_,_,rfl,?_⟩
   dsimp only[zaI,zeT]
   have htx7:=(sg6.trans st).sqT htx
   refine⟨tx,_,rfl,htx7,rfl,_,_,rfl,_,_,rfl,_,_,rfl,_,_,rfl,?_⟩
   refine⟨rfl,rfl,?_⟩
   dsimp only
   rw[if_pos rfl]
   refine⟨_,rfl,_,rfl,_,rfl,_,rfl,_,rfl,by rw[sizeLine_eq];show 5≤_;omega,fun z nz=>?_⟩
   have dd:∀ H',SqT K H' z [.int ((j:Nat):Int),.str x.one,.str x.other,.int x.span,.int x.weight]→DtV K H' (arD ⟨((j:Nat):Int),x.one,x.other,x.span,x.weight⟩) (.ref z):=fun H' h=>zkS (q:=⟨((j:Nat):Int),x.one,x.other,x.span,x.weight⟩) h
   obtain⟨g1,g2,g3⟩:=grow (K:=K) hD6 (sg6.trans st) (st _ _ hG6) (st.dts du) (zkU _) nz dd
   refine⟨_,g1,by rw[sizeLine_eq];omega,_,_,_,_,_,_,rfl,g2,zab,?_⟩
   rw[zaw ex,zdL,List.map_append,List.length_take,Nat.min_eq_left (by omega),Int.zero_add]
   exact g3
  rintro τ G6 ⟨v1,v2,v3,v4,v5,us,rfl,sg6,hG6,du⟩
  rw[show zs.length=v.arr.length by rw[← zbb dz,List.length_map],List.take_length] at du
  refine⟨.lst ((zcv 0 v.arr).map arD),.lst ((zcv 0 v.arr).map arD),rfl,rfl,⟨l5,_,rfl,SqL.of (sg6 _ _ h5),sg6.dts d5⟩,⟨D6,_,rfl,SqL.of hG6,du⟩,zbH (n:=59) (f:=arD) (fun _=>⟨trivial,trivial,trivial,trivial,trivial,trivial⟩) _,_,rfl,?_⟩
  rw[zbz]
  refine zbA (fun c=>absurd c (by decide)) (fun _=>?_)
  have sF:=sD.trans (s5.trans sg6)
  have N6:=N.same sF
  obtain⟨dx6,hp6⟩:=N6.ex
  refine⟨_,rfl,p,dx6,_,rfl,hp6,by rfl,p,r,u,rfl,N6,by rw[List.length_map,U.ss];omega,fun l7 H7 xs7 s7 n7 h7 d7 _=>?_⟩
  have d7:zbu K H7 (u.ss.map zcO) xs7:=d7
  rw[U.ss] at d7
  have sG:=sF.trans s7
  refine⟨_,rfl,.lst (v.ss.map zcO),.lst (v.ss.map zcO),rfl,rfl,⟨l7,_,rfl,SqL.of h7,d7⟩,⟨l,_,rfl,SqL.of (sG _ _ b1),sG.dts b2⟩,zbH (n:=59) (f:=zcO) (fun _=>⟨trivial,trivial,trivial⟩) _,?_⟩
  rw[zbz]
  refine⟨_,rfl,?_⟩
  refine zbA (fun _=>?_) (fun c=>absurd c (by decide))
  have N7:=N.same sG
  obtain⟨dx7,hp7⟩:=N7.ex
  refine⟨_,rfl,p,dx7,_,rfl,hp7,by rfl,p,r,u,rfl,N7,by rw[List.length_map,U.mm];omega,fun l8 H8 xs8 s8 n8 h8 d8 _=>?_⟩
  have d8:zbu K H8 (u.mm.map zcP) xs8:=d8
  rw[U.mm] at d8
  have sH:=sG.trans s8
  refine⟨_,rfl,.lst (v.mm.map zcP),.lst (v.mm.map zcP),rfl,rfl,⟨l8,_,rfl,SqL.of h8,d8⟩,⟨m,_,rfl,SqL.of (sH _ _ c1),sH.dts c2⟩,zbH (n:=59) (f:=zcP) (fun _=>⟨trivial,trivial,trivial,trivial⟩) _,?_⟩
  rw[zbz]
  exact k _ sH
end
end K04
namespace K04
open PySem L2
theorem zec (n:Str) (l:List Str):inV (.str n) (l.map V.str)=decide (n∈l):=by
 induction l with
 | nil=>rfl
 | cons x l ih=>
  show(eqV (.str x) (.str n) || inV (.str n) (l.map V.str))=_
  rw[ih]
  show(decide (x=n) || decide (n∈l))=_
  by_cases e:x=n
  ·subst e
   simp
  ·simp[e,Ne.symm e]
def inB (ws:List Str) (o t:Str):Bool:=decide (o∈ws) && decide (t∈ws)
def zb7 (n:Str) (ws:List Str) (o t:Str):Bool:=decide (n∈[o,t]) && inB ws o t
section
variable {P:Program}{w:World}{K:PySem.W.Frag}{mg:Str→Option Value}{base:Heap}{a:Adr}
def spCome:Sp:=fun vs H Q _=>∃ p n q o t ws,vs=[.ref p,.str n,.ref q]∧H p=some (.lst [.str o,.str t])∧H q=some (.lst ((ws:List Str).map V.str))∧Q (.bl (zb7 n ws o t)) H
theorem zlQ (T:Tx K mg a):Cal P w K mg base CX0 1 "_law_come" ["_law_pair","_law_name","_law_there"] [] spCome:=T.d__law_come.cal fun f fd F=>by
 refine F.ok zgs (fun vs H Q E h=>?_) (fun cdv A outer s H vs Q E hr h=>?_)
 ·obtain⟨p,n,q,o,t,ws,rfl,_⟩:=h
  rfl
 ·obtain⟨p,n,q,o,t,ws,rfl,hp,hq,k⟩:=h
  refine⟨_,(zag (zaA (zee (zbo zem (pv 1) (pv 0) (by with_unfolding_all rfl)) (zee (zbo zem (za3 zaT (pv 0) zai (fun _ _=>rfl)) (pv 2) (by with_unfolding_all rfl)) (zed (zbo zem (za3 zaT (pv 0) zai (fun _ _=>rfl)) (pv 2) (by with_unfolding_all rfl))))))),?_⟩
  have e0:inV (.str n) [.str o,.str t]=decide (n∈[o,t]):=zec n [o,t]
  have fl:(ws.map V.str).all zd1=true:=by
   rw[List.all_map]
   exact List.all_eq_true.mpr fun _ _=>rfl
  unfold zb7 inB at k
  refine⟨_,rfl,_,rfl,p,_,rfl,.inl (SqL.of hp),rfl,rfl,_,rfl,?_⟩
  refine zbA (fun c=>?_) (fun c=>?_)
  ·have c:inV (.str n) [.str o,.str t]=true:=c
   rw[e0] at c
   rw[c,Bool.true_and] at k
   refine⟨_,rfl,p,_,0,_,rfl,rfl,SqL.of hp,rfl,_,rfl,q,_,rfl,.inl (SqL.of hq),rfl,fl,_,rfl,?_⟩
   refine zbA (fun c1=>?_) (fun c1=>?_)
   ·have c1:inV (.str o) (ws.map V.str)=true:=c1
    rw[zec] at c1
    rw[c1,Bool.true_and] at k
    refine⟨_,rfl,p,_,1,_,rfl,rfl,SqL.of hp,rfl,_,rfl,q,_,rfl,.inl (SqL.of hq),rfl,fl,?_⟩
    rw[← zec] at k
    exact k
   ·have c1:inV (.str o) (ws.map V.str)=false:=c1
    rw[zec] at c1
    rw[c1] at k
    exact k
  ·have c:inV (.str n) [.str o,.str t]=false:=c
   rw[e0] at c
   rw[c] at k
   exact k
end
theorem zjK {α:Type}{p c r:α→Bool} (h1:∀ x,p x=true→r x=true) (h2:∀ x,c x=true→r x=true∧p x=false):∀ xs:List α,xs.countP p + xs.countP c≤xs.countP r
 | []=>Nat.le_refl 0
 | x::xs=>by
  have ih:=zjK h1 h2 xs
  rw[List.countP_cons,List.countP_cons,List.countP_cons]
  cases ep:p x with
  | true=>
   rw[h1 x ep]
   cases ec:c x with
   | true=>rw[(h2 x ec).2] at ep;cases ep
   | false=>simp;omega
  | false=>
   cases ec:c x with
   | true=>rw[(h2 x ec).1];simp;omega
   | false=>simp;omega
theorem inB_up {ws vs:List Str}{o t:Str} (h:inB ws o t=true):inB (ws++vs) o t=true:=by
 unfold inB at h ⊢
 rw[Bool.and_eq_true,decide_eq_true_iff,decide_eq_true_iff] at h ⊢
 exact⟨List.mem_append_left _ h.1,List.mem_append_left _ h.2⟩
theorem zky {n:Str}{ws:List Str}{o t:Str} (hn:n∉ws) (h:zb7 n (ws++[n]) o t=true):inB (ws++[n]) o t=true∧inB ws o t=false:=by
 unfold zb7 at h
 rw[Bool.and_eq_true,decide_eq_true_iff] at h
 refine⟨h.2,?_⟩
 unfold inB
 rw[Bool.and_eq_false_iff,decide_eq_false_iff_not,decide_eq_false_iff_not]
 rcases List.mem_cons.mp h.1 with e|e
 ·exact .inl (e ▸ hn)
 ·exact .inr (List.mem_singleton.mp e ▸ hn)
def cnt {α:Type} (e:α→Str×Str) (xs:List α) (ws:List Str) (n:Str) (j:Nat):Nat:=xs.countP (fun x=>inB ws (e x).1 (e x).2) + (xs.take j).countP (fun x=>zb7 n (ws++[n]) (e x).1 (e x).2)
theorem zkV {α:Type} (e:α→Str×Str) (xs:List α){ws:List Str}{n:Str} (hn:n∉ws) (j:Nat):cnt e xs ws n j≤xs.countP fun x=>inB (ws++[n]) (e x).1 (e x).2:=by
 have h1:=zjK (p:=fun x=>inB ws (e x).1 (e x).2) (c:=fun x=>zb7 n (ws++[n]) (e x).1 (e x).2) (r:=fun x=>inB (ws++[n]) (e x).1 (e x).2) (fun x h=>inB_up h) (fun x h=>zky hn h) xs
 have h2:(xs.take j).countP (fun x=>zb7 n (ws++[n]) (e x).1 (e x).2)≤xs.countP (fun x=>zb7 n (ws++[n]) (e x).1 (e x).2):=(List.take_sublist j xs).countP_le
 unfold cnt
 omega
theorem zcl {α:Type} (e:α→Str×Str) (xs:List α){ws:List Str}{n:Str} (hn:n∉ws) (j:Nat):cnt e xs ws n j≤xs.length:=Nat.le_trans (zkV e xs hn j) List.countP_le_length
theorem zfQ {α:Type}{e:α→Str×Str}{xs:List α}{ws:List Str}{n:Str}{j:Nat}{x:α} (h:xs[j]?=some x):cnt e xs ws n (j + 1)=cnt e xs ws n j + if zb7 n (ws++[n]) (e x).1 (e x).2=true then 1 else 0:=by
 unfold cnt
 rw[zaw h,List.countP_append,List.countP_singleton]
 omega
theorem zfR {α:Type}{e:α→Str×Str}{xs:List α}{ws:List Str}{n:Str}:cnt e xs ws n 0=xs.countP fun x=>inB ws (e x).1 (e x).2:=by
 unfold cnt
 rw[List.take_zero]
 rfl
def eA (q:Ar):Str×Str:=(q.one,q.other)
def eS (q:Str×Str):Str×Str:=q
def eM (q:Str×Str×Int):Str×Str:=(q.1,q.2.1)
structure Mg (pts:List Pt) (k cA cS cM:Nat) (Ls:List Ln) (u:zbt):Prop where
 R:zie emp Ls
 run:zjz emp Ls=u
 kv:u.kvs=(pts.take k).map zct
 nn:u.nn=(u.arr.length:Int)
 nums:∀ q∈u.arr,q.num<u.nn
 la:u.arr.length≤cA
 ls:u.ss.length≤cS
 lm:u.mm.length≤cM
 ll:Ls.length≤k + u.arr.length + u.ss.length + u.mm.length
theorem zie.snoc:∀ {ls:List Ln}{v:zbt}{l:Ln},zie v ls→l.Ok→l.err (zjz v ls)=none→Few (zjz v ls)→zie v (ls++[l])
 | [],_,_,_,h1,h2,h3=>⟨h1,h2,h3,trivial⟩
 | _::_,_,_,h,h1,h2,h3=>⟨h.1,h.2.1,h.2.2.1,zie.snoc h.2.2.2 h1 h2 h3⟩
theorem zdu (v:zbt) (ls:List Ln) (l:Ln):zjz v (ls++[l])=l.put (zjz v ls):=by
 unfold zjz
 rw[List.foldl_append]
 rfl
theorem Mg.few {pts:List Pt}{k cA cS cM:Nat}{Ls:List Ln}{u:zbt} (h:Mg pts k cA cS cM Ls u) (h1:pts.length≤20) (h2:cA≤40) (h3:cS≤20) (h4:cM≤20):Few u:=by
 have:=h.la
 have:=h.ls
 have:=h.lm
 refine⟨by rw[h.kv,List.length_map,List.length_take];omega,by omega,h.nums,by omega,by omega⟩
theorem Mg.start (pts:List Pt):Mg pts 0 0 0 0 [] emp:=⟨trivial,rfl,rfl,rfl,fun _ h=>(by cases h),Nat.le_refl _,Nat.le_refl _,Nat.le_refl _,Nat.le_refl _⟩
theorem Mg.up {pts:List Pt}{k cA cS cM cA' cS' cM':Nat}{Ls:List Ln}{u:zbt} (h:Mg pts k cA cS cM Ls u) (h1:cA≤cA') (h2:cS≤cS') (h3:cM≤cM'):Mg pts k cA' cS' cM' Ls u:={ h with la:=Nat.le_trans h.la h1,ls:=Nat.le_trans h.ls h2,lm:=Nat.le_trans h.lm h3 }
theorem Mg.point {pts:List Pt}{v:zbt}{k cA cS cM:Nat}{Ls:List Ln}{u:zbt}{q:Pt}{ns:List Int} (h:Mg pts k cA cS cM Ls u) (W:zkP pts v) (h2:cA≤40) (h3:cS≤20) (h4:cM≤20) (e:pts[k]?=some q) (hn:ns.length≤1∧(∀ m∈ns,m=q.2)∧ns.getD 0 0=q.2):Mg pts (k + 1) cA cS cM (Ls++[.pt q.1 ns]) { u with kvs:=u.kvs++[(Sum.inr q.1,.int q.2)] }:=by
 have F:=h.few W.l1 h2 h3 h4
 obtain⟨n1,n2,n3⟩:=W.nm q (List.mem_of_getElem? e)
 have hk:k<pts.length:=(List.getElem?_eq_some_iff.mp e).1
 have l1:=W.l1
 have nn:q.1∉(pts.take k).map Prod.fst:=by
  have nd:=W.nd
  rw[← List.take_append_drop (k + 1) pts,zaw e,List.map_append,List.map_append] at nd
  have:=(List.nodup_append.mp (List.nodup_append.mp nd).1).2.2
  exact fun z=>this q.1 z q.1 (List.mem_singleton.mpr rfl) rfl
 have hf:has u.kvs q.1=false:=by
  rw[h.kv]
  unfold has
  cases ev:zco ((pts.take k).map zct) (Sum.inr q.1) with
  | none=>rfl
  | some x=>
   refine absurd ?_ nn
   obtain⟨y,hy,e2⟩:=List.mem_map.mp (zgV ev)
   obtain⟨z,hz,rfl⟩:=List.mem_map.mp hy
   exact List.mem_map.mpr ⟨z,hz,Sum.inr.inj e2⟩
 refine⟨h.R.snoc ⟨n1,hn.1,fun m hm=>by rw[hn.2.1 m hm];exact⟨n2,by omega⟩⟩ ?_ (h.run ▸ F),by rw[zdu,h.run,← hn.2.2];rfl,?_,h.nn,h.nums,h.la,h.ls,h.lm,?_⟩
 ·rw[h.run]
  show zaW u.kvs q.1 (ns.getD 0 0)=none
  unfold zaW
  rw[hn.2.2,n1,hf,if_neg (by decide),if_neg (by decide),if_neg (by omega),if_neg]
  rw[h.kv,List.length_map,List.length_take]
  omega
 ·show u.kvs++_=_
  rw[h.kv,zaw e,List.map_append]
  rfl
 ·have:=h.ll
  rw[List.length_append]
  show Ls.length + 1≤k + 1 + u.arr.length + u.ss.length + u.mm.length
  omega
theorem zjL {pts:List Pt}{k:Nat}{o t:Str} (h:inB ((pts.take k).map Prod.fst) o t=true) (ne:o≠t):two ((pts.take k).map zct) o t=none:=by
 unfold inB at h
 rw[Bool.and_eq_true,decide_eq_true_iff,decide_eq_true_iff] at h
 exact zkR h.1 h.2 ne
theorem Mg.arrow {pts:List Pt}{v:zbt}{i k cA cS cM:Nat}{Ls:List Ln}{u:zbt}{q:Ar}{ns:List Int} (h:Mg pts k cA cS cM Ls u) (W:Nw pts v i) (h2:cA + 1≤40) (h3:cS≤20) (h4:cM≤20) (hq:q∈v.arr) (hb:inB ((pts.take k).map Prod.fst) q.one q.other=true) (hn:ns.length≤2∧(∀ m∈ns,m=q.span∨m=q.weight)∧ns.getD 0 1=q.span∧ns.getD 1 1=q.weight):Mg pts k (cA + 1) cS cM (Ls++[.ar q.one q.other ns]) { u with arr:=u.arr++[⟨(u.arr.length:Int),q.one,q.other,q.span,q.weight⟩],nn:=u.nn + 1 }:=by
 have F:=h.few W.w.l1 (by omega) h3 h4
 obtain⟨n1,n2,n3,n4⟩:=W.w.ar q hq
 obtain⟨_,_,ne,s1,s2,w1,w2⟩:=W.ends q hq
 obtain⟨m1,m2,m3,m4⟩:=hn
 have la:=h.la
 refine⟨h.R.snoc ⟨n1,n2,m1,fun m hm=>?_⟩ ?_ (h.run ▸ F),?_,h.kv,?_,fun x hx=>?_,?_,h.ls,h.lm,?_⟩
 ·rcases m2 m hm with e|e
  ·rw[e];exact n3
  ·rw[e];exact n4
 ·rw[h.run]
  show zcY u q.one q.other (ns.getD 0 1) (ns.getD 1 1)=none
  rw[m3,m4,zfG (by rw[h.kv];exact zjL hb ne),if_neg (by omega),if_neg (by omega)]
 ·rw[zdu,h.run,← h.nn,← m3,← m4]
  rfl
 ·show u.nn + 1=((u.arr++[_]).length:Int)
  rw[List.length_append,h.nn]
  rfl
 ·show x.num<u.nn + 1
  rcases List.mem_append.mp hx with hx|hx
  ·have:=h.nums x hx
   omega
  ·rw[List.mem_singleton.mp hx,h.nn]
   show(u.arr.length:Int)<_
   omega
 ·rw[List.length_append]
  show u.arr.length + 1≤_
  omega
 ·have:=h.ll
  rw[List.length_append]
  show Ls.length + 1≤k + (u.arr++[_]).length + u.ss.length + u.mm.length
  rw[List.length_append]
  show Ls.length + 1≤k + (u.arr.length + 1) + u.ss.length + u.mm.length
  omega
theorem Mg.same {pts:List Pt}{v:zbt}{i k cA cS cM:Nat}{Ls:List Ln}{u:zbt}{q:Str×Str} (h:Mg pts k cA cS cM Ls u) (W:Nw pts v i) (h2:cA≤40) (h3:cS + 1≤20) (h4:cM≤20) (hq:q∈v.ss) (hb:inB ((pts.take k).map Prod.fst) q.1 q.2=true):Mg pts k cA (cS + 1) cM (Ls++[.sm q.1 q.2]) { u with ss:=u.ss++[q] }:=by
 have F:=h.few W.w.l1 h2 (by omega) h4
 obtain⟨n1,n2⟩:=W.w.ss q hq
 obtain⟨_,_,ne⟩:=W.es q hq
 have ls:=h.ls
 refine⟨h.R.snoc ⟨n1,n2⟩ ?_ (h.run ▸ F),by rw[zdu,h.run];rfl,h.kv,h.nn,h.nums,h.la,?_,h.lm,?_⟩
 ·rw[h.run]
  show lim u.kvs u.ss.length q.1 q.2 none=none
  rw[zcK (by rw[h.kv];exact zjL hb ne),if_neg (by decide),if_neg (by omega)]
 ·rw[List.length_append]
  show u.ss.length + 1≤_
  omega
 ·have:=h.ll
  rw[List.length_append]
  show Ls.length + 1≤k + u.arr.length + (u.ss++[q]).length + u.mm.length
  rw[List.length_append]
  show Ls.length + 1≤k + u.arr.length + (u.ss.length + 1) + u.mm.length
  omega
theorem Mg.most {pts:List Pt}{v:zbt}{i k cA cS cM:Nat}{Ls:List Ln}{u:zbt}{q:Str×Str×Int} (h:Mg pts k cA cS cM Ls u) (W:Nw pts v i) (h2:cA≤40) (h3:cS≤20) (h4:cM + 1≤20) (hq:q∈v.mm) (hb:inB ((pts.take k).map Prod.fst) q.1 q.2.1=true):Mg pts k cA cS (cM + 1) (Ls++[.ms q.1 q.2.1 q.2.2]) { u with mm:=u.mm++[q] }:=by
 have F:=h.few W.w.l1 h2 h3 (by omega)
 obtain⟨n1,n2,n3⟩:=W.w.mm q hq
 obtain⟨_,_,ne,m0,m1⟩:=W.em q hq
 have lm:=h.lm
 refine⟨h.R.snoc ⟨n1,n2,n3⟩ ?_ (h.run ▸ F),by rw[zdu,h.run];rfl,h.kv,h.nn,h.nums,h.la,h.ls,?_,?_⟩
 ·rw[h.run]
  show lim u.kvs u.mm.length q.1 q.2.1 (some q.2.2)=none
  rw[zcK (by rw[h.kv];exact zjL hb ne),if_neg ?_,if_neg (by omega)]
  unfold bad
  simp
  omega
 ·rw[List.length_append]
  show u.mm.length + 1≤_
  omega
 ·have:=h.ll
  rw[List.length_append]
  show Ls.length + 1≤k + u.arr.length + u.ss.length + (u.mm++[q]).length
  rw[List.length_append]
  show Ls.length + 1≤k + u.arr.length + u.ss.length + (u.mm.length + 1)
  omega
end K04
namespace K04
open PySem L2
structure Fr (H:Hp) (g f0 f1 f2:Addr):Prop where
 ng:H g=none
 n0:H f0=none
 n1:H f1=none
 n2:H f2=none
 d01:f0≠f1
 d02:f0≠f2
 d12:f1≠f2
 dg0:g≠f0
 dg1:g≠f1
 dg2:g≠f2
structure MSt (K:PySem.W.Frag) (H G:Hp) (g f f0 f1 f2:Addr) (Ls:List Ln) (u:zbt):Prop where
 sm:zan H G
 tp:SqT K G f [.ref f0,.ref f1,.ref f2]
 lg:G g=some (.lst (txs Ls))
 ar:∃ xs,G f0=some (.lst xs)∧zbu K G (u.arr.map arD) xs
 ss:∃ xs,G f1=some (.lst xs)∧zbu K G (u.ss.map zcO) xs
 mm:∃ xs,G f2=some (.lst xs)∧zbu K G (u.mm.map zcP) xs
def Oth (g f0 f1 f2 b:Addr):Prop:=b≠g∧b≠f0∧b≠f1∧b≠f2
def Kq (g f0 f1 f2:Addr) (G G':Hp):Prop:=∀ b o,Oth g f0 f1 f2 b→G b=some o→G' b=some o
section
variable {K:PySem.W.Frag}{H G:Hp}{g f f0 f1 f2:Addr}{Ls:List Ln}{u:zbt}
theorem Kq.of {G':Hp} (s:zan G G'):Kq g f0 f1 f2 G G':=fun b o _ e=>s b o e
theorem Kq.trans {G' G'':Hp} (h:Kq g f0 f1 f2 G G') (k:Kq g f0 f1 f2 G' G''):Kq g f0 f1 f2 G G'':=fun b o z e=>k b o z (h b o z e)
theorem MSt.oth (S:MSt K H G g f f0 f1 f2 Ls u){b:Addr} (nb:G b=none):Oth g f0 f1 f2 b:=by
 obtain⟨_,e1,_⟩:=S.ar
 obtain⟨_,e2,_⟩:=S.ss
 obtain⟨_,e3,_⟩:=S.mm
 exact⟨Ne.symm (zae S.lg nb),Ne.symm (zae e1 nb),Ne.symm (zae e2 nb),Ne.symm (zae e3 nb)⟩
theorem MSt.same {G':Hp} (S:MSt K H G g f f0 f1 f2 Ls u) (s:zan G G'):MSt K H G' g f f0 f1 f2 Ls u:=by
 obtain⟨h1,h2,h3,⟨xs,a1,a2⟩,⟨ys,b1,b2⟩,⟨zs,c1,c2⟩⟩:=S
 exact⟨h1.trans s,(Tk.of s).sqT h2,s _ _ h3,⟨xs,s _ _ a1,s.dts a2⟩,⟨ys,s _ _ b1,s.dts b2⟩,⟨zs,s _ _ c1,s.dts c2⟩⟩
theorem MSt.line (F:Fr H g f0 f1 f2) (S:MSt K H G g f f0 f1 f2 Ls u){l:Ln}{x:Str} (e:l.text=x):MSt K H (upd G g (.lst (txs Ls++[.str x]))) g f f0 f1 f2 (Ls++[l]) u∧Kq g f0 f1 f2 G (upd G g (.lst (txs Ls++[.str x]))):=by
 obtain⟨h1,h2,h3,⟨xs,a1,a2⟩,⟨ys,b1,b2⟩,⟨zs,c1,c2⟩⟩:=S
 have tk:Tk G (upd G g (.lst (txs Ls++[.str x]))):=Tk.upd h3 rfl
 refine⟨⟨zaF F.ng h1,tk.sqT h2,?_,⟨xs,by rw[zaf (Ne.symm F.dg0)];exact a1,tk.dts (zal (fun _=>rfl) _) a2⟩,⟨ys,by rw[zaf (Ne.symm F.dg1)];exact b1,tk.dts (zal (fun _=>rfl) _) b2⟩,⟨zs,by rw[zaf (Ne.symm F.dg2)];exact c1,tk.dts (zal (fun _=>rfl) _) c2⟩⟩,fun b o z e=>by rw[zaf z.1];exact e⟩
 rw[zab,zbL,← e]
 rfl
theorem MSt.a (F:Fr H g f0 f1 f2) (S:MSt K H G g f f0 f1 f2 Ls u){xs:List V} (hx:G f0=some (.lst xs)){z:Addr}{q:Ar} (hz:SqT K G z [.int q.num,.str q.one,.str q.other,.int q.span,.int q.weight]) (n:Int):MSt K H (upd G f0 (.lst (xs++[.ref z]))) g f f0 f1 f2 Ls { u with arr:=u.arr++[q],nn:=n }∧Kq g f0 f1 f2 G (upd G f0 (.lst (xs++[.ref z]))):=by
 obtain⟨h1,h2,h3,⟨xs',a1,a2⟩,⟨ys,b1,b2⟩,⟨zs,c1,c2⟩⟩:=S
 rw[hx] at a1
 cases a1
 have tk:Tk G (upd G f0 (.lst (xs++[.ref z]))):=Tk.upd hx rfl
 refine⟨⟨zaF F.n0 h1,tk.sqT h2,by rw[zaf F.dg0];exact h3,⟨_,zab,?_⟩,⟨ys,by rw[zaf (Ne.symm F.d01)];exact b1,tk.dts (zal (fun _=>rfl) _) b2⟩,⟨zs,by rw[zaf (Ne.symm F.d02)];exact c1,tk.dts (zal (fun _=>rfl) _) c2⟩⟩,fun b o z e=>by rw[zaf z.2.1];exact e⟩
 show zbu K _ ((u.arr++[q]).map arD) _
 rw[List.map_append]
 exact zbu.snoc (zkS (tk.sqT hz)) (tk.dts (zal (fun _=>rfl) _) a2)
theorem MSt.s (F:Fr H g f0 f1 f2) (S:MSt K H G g f f0 f1 f2 Ls u){xs:List V} (hx:G f1=some (.lst xs)){z:Addr}{q:Str×Str} (hz:SqT K G z [.str q.1,.str q.2]):MSt K H (upd G f1 (.lst (xs++[.ref z]))) g f f0 f1 f2 Ls { u with ss:=u.ss++[q] }∧Kq g f0 f1 f2 G (upd G f1 (.lst (xs++[.ref z]))):=by
 obtain⟨h1,h2,h3,⟨as,a1,a2⟩,⟨ys,b1,b2⟩,⟨zs,c1,c2⟩⟩:=S
 rw[hx] at b1
 cases b1
 have tk:Tk G (upd G f1 (.lst (xs++[.ref z]))):=Tk.upd hx rfl
 refine⟨⟨zaF F.n1 h1,tk.sqT h2,by rw[zaf F.dg1];exact h3,⟨as,by rw[zaf F.d01];exact a1,tk.dts (zal (fun _=>rfl) _) a2⟩,⟨_,zab,?_⟩,⟨zs,by rw[zaf (Ne.symm F.d12)];exact c1,tk.dts (zal (fun _=>rfl) _) c2⟩⟩,fun b o z e=>by rw[zaf z.2.2.1];exact e⟩
 show zbu K _ ((u.ss++[q]).map zcO) _
 rw[List.map_append]
 exact zbu.snoc (zfE (tk.sqT hz)) (tk.dts (zal (fun _=>rfl) _) b2)
theorem MSt.m (F:Fr H g f0 f1 f2) (S:MSt K H G g f f0 f1 f2 Ls u){xs:List V} (hx:G f2=some (.lst xs)){z:Addr}{q:Str×Str×Int} (hz:SqT K G z [.str q.1,.str q.2.1,.int q.2.2]):MSt K H (upd G f2 (.lst (xs++[.ref z]))) g f f0 f1 f2 Ls { u with mm:=u.mm++[q] }∧Kq g f0 f1 f2 G (upd G f2 (.lst (xs++[.ref z]))):=by
 obtain⟨h1,h2,h3,⟨as,a1,a2⟩,⟨ys,b1,b2⟩,⟨zs,c1,c2⟩⟩:=S
 rw[hx] at c1
 cases c1
 have tk:Tk G (upd G f2 (.lst (xs++[.ref z]))):=Tk.upd hx rfl
 refine⟨⟨zaF F.n2 h1,tk.sqT h2,by rw[zaf F.dg2];exact h3,⟨as,by rw[zaf F.d02];exact a1,tk.dts (zal (fun _=>rfl) _) a2⟩,⟨ys,by rw[zaf F.d12];exact b1,tk.dts (zal (fun _=>rfl) _) b2⟩,⟨_,zab,?_⟩⟩,fun b o z e=>by rw[zaf z.2.2.2];exact e⟩
 show zbu K _ ((u.mm++[q]).map zcP) _
 rw[List.map_append]
 exact zbu.snoc (zfF (tk.sqT hz)) (tk.dts (zal (fun _=>rfl) _) c2)
end
theorem cut_to (xs:List V) (n:Nat):zfS xs none (some (n:Int))=xs.take n:=by
 unfold zfS
 rw[show HT.sIx xs.length 0 none=0 from rfl,HT.zdz,List.drop_zero,Nat.sub_zero,List.take_eq_take_iff]
 omega
abbrev nms (pts:List Pt) (k:Nat):List Str:=(pts.take k).map Prod.fst
def all {α:Type} (e:α→Str×Str) (xs:List α) (pts:List Pt) (k:Nat):Nat:=xs.countP fun x=>inB (nms pts k) (e x).1 (e x).2
theorem zdv {pts:List Pt}{k:Nat}{q:Pt} (h:pts[k]?=some q):nms pts (k + 1)=nms pts k++[q.1]:=by
 unfold nms
 rw[zaw h,List.map_append]
 rfl
theorem zjM {pts:List Pt}{k:Nat}{q:Pt} (nd:(pts.map Prod.fst).Nodup) (e:pts[k]?=some q):q.1∉nms pts k:=by
 rw[← List.take_append_drop (k + 1) pts,zaw e,List.map_append,List.map_append] at nd
 have:=(List.nodup_append.mp (List.nodup_append.mp nd).1).2.2
 exact fun z=>this q.1 z q.1 (List.mem_singleton.mpr rfl) rfl
theorem zdY {α:Type} (e:α→Str×Str) (xs:List α) (pts:List Pt) (k:Nat):all e xs pts k≤xs.length:=List.countP_le_length
theorem zhg {α:Type} (e:α→Str×Str) (xs:List α){pts:List Pt}{k:Nat}{q:Pt} (nd:(pts.map Prod.fst).Nodup) (h:pts[k]?=some q) (j:Nat):cnt e xs (nms pts k) q.1 j≤all e xs pts (k + 1):=by
 unfold all
 rw[zdv h]
 exact zkV e xs (zjM nd h) j
end K04
namespace K04
open PySem L2
section
variable {P:Program}{w:World}{K:PySem.W.Frag}{mg:Str→Option Value}{base:Heap}{a:Adr}
theorem mem2 {α:Type}{x y z:α} (h:x∈[y,z]):x=y∨x=z:=(List.mem_cons.mp h).imp id List.mem_singleton.mp
def spMing (K:PySem.W.Frag):Sp:=fun vs H Q _=>∃ nm hd t d l m pts v i,vs=[.ref nm,.ref hd,.ref t]∧H nm=some (.lst (((pts:List Pt).map Prod.fst).map V.str))∧H hd=some (.dK (pts.map zct))∧SqT K H t [.ref d,.ref l,.ref m]∧zfU K H d l m v∧Nw pts v i ∧
 ∀ x g f f0 f1 f2 Ls u H',SqT K H' x [.ref g,.ref f]→MSt K H H' g f f0 f1 f2 Ls u→Mg pts pts.length 40 20 20 Ls u→Q (.ref x) H'
set_option maxHeartbeats 4000000 in
theorem zib (T:Tx K mg a):Cal P w K mg base CX0 2 "_law_mingled" ["_law_names_here","_law_halves","_law_kept"] [] (spMing K):=T.d__law_mingled.cal fun fa fd F=>by
 have c__law_come:=zlQ (P:=P) (w:=w) (base:=base) T
 refine F.ok zam (fun vs H Q E h=>?_) (fun cdv A outer s H vs Q E hr h=>?_)
 ·obtain⟨nm,hd,t,d,l,m,pts,v,i,rfl,_⟩:=h
  rfl
 ·obtain⟨nm,hd,t,d,l,m,pts,v,i,rfl,hnm,hhd,ht,Kk,W,kq⟩:=h
  have w1:=W.w.l1
  have w2:=W.w.l2
  have w3:=W.w.l3
  have w4:=W.w.l4
  obtain⟨p6,a6,s6,m6,b1,e0⟩:=c10
  refine⟨_,(zac (zdM (pv 2) (zbW rfl (zaj (zak (i:=3) zam.nd rfl (by first|exact Or.inl rfl|exact Or.inr rfl)) (zaj (zak (i:=4) zam.nd rfl (by first|exact Or.inl rfl|exact Or.inr rfl)) (zaj (zak (i:=5) zam.nd rfl (by first|exact Or.inl rfl|exact Or.inr rfl)) zaN)))))
   (zac (zaG (i:=6) zam.nd rfl (by first|exact Or.inl rfl|exact Or.inr rfl) (zbE zad))
   (zac (zaG (i:=7) zam.nd rfl (by first|exact Or.inl rfl|exact Or.inr rfl) (zbv (zaa (zbE zad) (zaa (zbE zad) (zaa (zbE zad) zad)))))
   (zac (zc9 PassesOwn.never rfl (zbY rfl T.n_enumerate (zaa (pv 0) zad)) (zbW rfl (zaj (zak (i:=8) zam.nd rfl (by first|exact Or.inl rfl|exact Or.inr rfl)) (zaj (zak (i:=9) zam.nd rfl (by first|exact Or.inl rfl|exact Or.inr rfl)) zaN))) (zac (zaC (zbN PySem.F.plainAttrs_list PySem.F.slot_list_append PySem.F.type_list_append zaQ (pv 6) (zaa (zat zao (zat zao (zat zao zav (pv 9)) zav) (za2 zaZ rfl T.n_str zcR (zaa (zb3 (zcL hr) (pv 1) (pv 9) (fun _ _=>rfl)) zad))) zad)))
   (zac (zaG (i:=10) zam.nd rfl (by first|exact Or.inl rfl|exact Or.inr rfl) (zcg zfo (pv 0) zej (zcf (zat zbR (pv 8) zai))))
   (zac (zc9 PassesOwn.never rfl (zaS (zar zbX rfl T.n_sorted zdj (zaa (pv 3) zad))) (zak (i:=11) zam.nd rfl (by first|exact Or.inl rfl|exact Or.inr rfl)) (zac (zdM (zb3 (zcL hr) (pv 3) (pv 11) (fun _ _=>rfl)) (zbW rfl (zaj (zak (i:=12) zam.nd rfl (by first|exact Or.inl rfl|exact Or.inr rfl)) (zaj (zak (i:=13) zam.nd rfl (by first|exact Or.inl rfl|exact Or.inr rfl)) (zaj (zak (i:=14) zam.nd rfl (by first|exact Or.inl rfl|exact Or.inr rfl)) (zaj (zak (i:=15) zam.nd rfl (by first|exact Or.inl rfl|exact Or.inr rfl)) zaN))))))
   (zag (zaM (zbn (zaD c__law_come (hr.mono (by decide)) rfl (zaa (zbE (zaa (pv 12) (zaa (pv 13) zad))) (zaa (pv 9) (zaa (pv 10) zad))))) (zac (zaG (i:=16) zam.nd rfl (by first|exact Or.inl rfl|exact Or.inr rfl) (zbE (zaa zav (zaa (pv 12) (zaa (pv 13) (zaa (za2 zaZ rfl T.n_str zcR (zaa (pv 14) zad)) zad))))))
   (zac (zaM (zaq zeU (pv 15) zai (zax _)) (zag (zaC (zbN PySem.F.plainAttrs_list PySem.F.slot_list_append PySem.F.type_list_append zaQ (pv 16) (zaa (za2 zaZ rfl T.n_str zcR (zaa (pv 15) zad)) zad)))) zap)
   (zac (zaC (zbN PySem.F.plainAttrs_list PySem.F.slot_list_append PySem.F.type_list_append zaQ (pv 6) (zaa (zbN PySem.F.plainAttrs_str PySem.F.slot_str_join PySem.F.type_str_join zdD zav (zaa (pv 16) zad)) zad)))
   (zag (zaC (zbN PySem.F.plainAttrs_list PySem.F.slot_list_append PySem.F.type_list_append zaQ (za3 zcy (pv 7) zai (fun _ _=>rfl)) (zaa (zbv (zaa (zar zay rfl T.n_len za6 (zaa (za3 zcy (pv 7) zai (fun _ _=>rfl)) zad)) (zaa (pv 12) (zaa (pv 13) (zaa (pv 14) (zaa (pv 15) zad)))))) zad))))))) zap))))
   (zac (zc9 PassesOwn.never rfl (zaS (pv 4)) (zbW rfl (zaj (zak (i:=12) zam.nd rfl (by first|exact Or.inl rfl|exact Or.inr rfl)) (zaj (zak (i:=13) zam.nd rfl (by first|exact Or.inl rfl|exact Or.inr rfl)) zaN))) (zag (zaM (zbn (zaD c__law_come (hr.mono (by decide)) rfl (zaa (zbE (zaa (pv 12) (zaa (pv 13) zad))) (zaa (pv 9) (zaa (pv 10) zad))))) (zac (zaC (zbN PySem.F.plainAttrs_list PySem.F.slot_list_append PySem.F.type_list_append zaQ (pv 6) (zaa (zat zao (zat zao (zat zao zav (pv 12)) zav) (pv 13)) zad)))
   (zag (zaC (zbN PySem.F.plainAttrs_list PySem.F.slot_list_append PySem.F.type_list_append zaQ (za3 zcy (pv 7) zai (fun _ _=>rfl)) (zaa (zbv (zaa (pv 12) (zaa (pv 13) zad))) zad))))) zap)))
   (zag (zc9 PassesOwn.never rfl (zaS (pv 5)) (zbW rfl (zaj (zak (i:=12) zam.nd rfl (by first|exact Or.inl rfl|exact Or.inr rfl)) (zaj (zak (i:=13) zam.nd rfl (by first|exact Or.inl rfl|exact Or.inr rfl)) (zaj (zak (i:=11) zam.nd rfl (by first|exact Or.inl rfl|exact Or.inr rfl)) zaN)))) (zag (zaM (zbn (zaD c__law_come (hr.mono (by decide)) rfl (zaa (zbE (zaa (pv 12) (zaa (pv 13) zad))) (zaa (pv 9) (zaa (pv 10) zad))))) (zac (zaC (zbN PySem.F.plainAttrs_list PySem.F.slot_list_append PySem.F.type_list_append zaQ (pv 6) (zaa (zat zao (zat zao (zat zao (zat zao (zat zao zav (pv 12)) zav) (pv 13)) zav) (za2 zaZ rfl T.n_str zcR (zaa (pv 11) zad))) zad)))
   (zag (zaC (zbN PySem.F.plainAttrs_list PySem.F.slot_list_append PySem.F.type_list_append zaQ (za3 zcy (pv 7) zai (fun _ _=>rfl)) (zaa (zbv (zaa (pv 12) (zaa (pv 13) (zaa (pv 11) zad)))) zad))))) zap)))))))))
   (zag (zaA (zbv (zaa (pv 6) (zaa (pv 7) zad))))))))),?_⟩
  refine⟨_,rfl,t,_,rfl,ht,rfl,_,_,rfl,_,_,rfl,_,_,rfl,rfl,?_⟩
  dsimp only[zaI]
  refine⟨(by show 0≤sizeLine;decide),fun g ng=>?_⟩
  have x1:zan H (upd H g (.lst [])):=zan.new ng
  have y1:upd H g (.lst []) g=some (.lst []):=zab
  generalize upd H g (.lst [])=H1 at x1 y1 ⊢
  refine⟨(by show 0≤sizeLine;decide),fun f0 n0=>?_⟩
  have x2:zan H1 (upd H1 f0 (.lst [])):=zan.new n0
  have y2:upd H1 f0 (.lst []) f0=some (.lst []):=zab
  generalize upd H1 f0 (.lst [])=H2 at x2 y2 ⊢
  refine⟨(by show 0≤sizeLine;decide),fun f1 n1=>?_⟩
  have x3:zan H2 (upd H2 f1 (.lst [])):=zan.new n1
  have y3:upd H2 f1 (.lst []) f1=some (.lst []):=zab
  generalize upd H2 f1 (.lst [])=H3 at x3 y3 ⊢
  refine⟨(by show 0≤sizeLine;decide),fun f2 n2=>?_⟩
  have x4:zan H3 (upd H3 f2 (.lst [])):=zan.new n2
  have y4:upd H3 f2 (.lst []) f2=some (.lst []):=zab
  generalize upd H3 f2 (.lst [])=H4 at x4 y4 ⊢
  refine⟨(by show 3≤sizeLine;decide),fun f nf=>?_⟩
  have x5:zan H4 (upd H4 f (.tup [.ref f0,.ref f1,.ref f2])):=zan.new nf
  have y5:SqT K (upd H4 f (.tup [.ref f0,.ref f1,.ref f2])) f [.ref f0,.ref f1,.ref f2]:=SqT.of zab
  generalize upd H4 f (.tup [.ref f0,.ref f1,.ref f2])=H5 at x5 y5 ⊢
  have x12:=x1.trans x2
  have x13:=x12.trans x3
  have x34:=x3.trans x4
  have Fz:Fr H g f0 f1 f2:=⟨ng,zbf x1 n0,zbf x12 n1,zbf x13 n2,zae y2 n1,zae (x3 _ _ y2) n2,zae y3 n2,zae y1 n0,zae (x2 _ _ y1) n1,zae (x3 _ _ (x2 _ _ y1)) n2⟩
  have S0:MSt K H H5 g f f0 f1 f2 [] emp:=⟨x13.trans (x4.trans x5),y5,x5 _ _ (x34 _ _ (x2 _ _ y1)),⟨[],x5 _ _ (x34 _ _ y2),rfl⟩,⟨[],x5 _ _ (x4 _ _ y3),rfl⟩,⟨[],x5 _ _ y4,rfl⟩⟩
  refine⟨_,rfl,nm,rfl,⟨_,SqL.of (S0.sm _ _ hnm)⟩,zfv (K:=K) (l:=nm) (xs:=(pts.map Prod.fst).map V.str) (fun k σ G=>∃ v8 v9 v10 v11 v12 v13 v14 v15 v16 Ls u,σ=[some (.ref nm),some (.ref hd),some (.ref t),some (.ref d),some (.ref l),some (.ref m),some (.ref g),some (.ref f),v8,v9,v10,v11,v12,v13,v14,v15,v16]∧MSt K H G g f f0 f1 f2 Ls u∧Mg pts k (all eA v.arr pts k) (all eS v.ss pts k) (all eM v.mm pts k) Ls u) ⟨none,none,none,none,none,none,none,none,none,[],emp,rfl,S0,(Mg.start pts).up (Nat.zero_le _) (Nat.zero_le _) (Nat.zero_le _)⟩ ?_ ?_ ?_⟩
  ·rintro k σ G _ ⟨_,_,_,_,_,_,_,_,_,_,_,rfl,S,_⟩
   exact SqL.of (S.sm _ _ hnm)
  ·rintro k y te σ G hy nte ⟨v8,v9,v10,v11,v12,v13,v14,v15,v16,Ls,u,rfl,S,M⟩
   obtain⟨z,hz,rfl⟩:=zbB hy
   rw[List.getElem?_map] at hz
   cases eq:pts[k]? with
   | none=>rw[eq] at hz;cases hz
   | some q=>
   rw[eq] at hz
   cases hz
   have mq:=List.mem_of_getElem? eq
   have hk:k<pts.length:=(List.getElem?_eq_some_iff.mp eq).1
   obtain⟨n1',n2',n3'⟩:=W.w.nm q mq
   have nk:NOk q.2:=⟨n2',by omega⟩
   have k1:=la p6 (zaB n1').2
   have k2:=la k1 b1
   have k3:=la k2 (tn7 nk)
   have nd:=W.w.nd
   have aA:=zdY eA v.arr pts k
   have aS:=zdY eS v.ss pts k
   have aM:=zdY eM v.mm pts k
   have st:zan G (upd G te (.tup [.int (k:Int),.str q.1])):=zan.new nte
   have hte:SqT K (upd G te (.tup [.int (k:Int),.str q.1])) te [.int (k:Int),.str q.1]:=SqT.of zab
   generalize upd G te (.tup [.int (k:Int),.str q.1])=G1 at st hte ⊢
   have S1:=S.same st
   have lll:Ls.length≤200:=by have:=M.ll;have:=M.la;have:=M.ls;have:=M.lm;omega
   refine⟨te,_,rfl,hte,rfl,_,_,rfl,_,_,rfl,rfl,?_⟩
   dsimp only[zaI]
   have et:(Ln.pt q.1 [q.2]).text=Str.ofString "point "++q.1++Str.ofString " "++Str.ofString (toString q.2):=(jn3 _ _ _).trans (by rw[zlY];show _=_++bk++tn q.2;simp only[PySem.Str.append_assoc])
   refine⟨_,rfl,.inl ⟨rfl,_,SqL.of S1.lg⟩,_,rfl,_,_,rfl,rfl,lw k1 (by decide),_,_,rfl,rfl,lw k2 (by decide),_,rfl,_,rfl,hd,_,rfl,zeS nd (S1.sm _ _ hhd) mq,q.2,rfl,zbM nk,_,_,rfl,rfl,lw k3 (by decide),g,_,_,rfl,rfl,S1.lg,by rw[zaU,sizeLine_eq];omega,?_⟩
   obtain⟨S2,q2⟩:=S1.line Fz et
   generalize upd G1 g _=G2 at S2 q2 ⊢
   have M2:=M.point W.w (by omega) (by omega) (by omega) eq (ns:=[q.2]) ⟨Nat.le_refl 1,fun m hm=>List.mem_singleton.mp hm,rfl⟩
   generalize Ls++[Ln.pt q.1 [q.2]]=Ls2 at S2 M2
   have S2:MSt K H G2 g f f0 f1 f2 Ls2 { u with kvs:=u.kvs++[(Sum.inr q.1,.int q.2)] }:=⟨S2.sm,S2.tp,S2.lg,S2.ar,S2.ss,S2.mm⟩
   generalize ({ u with kvs:=u.kvs++[(Sum.inr q.1,.int q.2)] }:zbt)=u2 at S2 M2
   refine⟨_,rfl,_,rfl,_,_,rfl,rfl,_,rfl,nm,_,rfl,SqL.of (S2.sm _ _ hnm),fun th nth=>?_⟩
   have ecut:zfS ((pts.map Prod.fst).map V.str) none (some ((k:Int) + 1))=(nms pts k++[q.1]).map V.str:=by
    rw[← zdv eq,show(k:Int) + 1=((k + 1:Nat):Int) by omega,cut_to,← List.map_take,← List.map_take]
   rw[ecut]
   have s3:zan G2 (upd G2 th (.lst ((nms pts k++[q.1]).map V.str))):=zan.new nth
   have h3:upd G2 th (.lst ((nms pts k++[q.1]).map V.str)) th=some (.lst ((nms pts k++[q.1]).map V.str)):=zab
   have oth:=S2.oth nth
   generalize upd G2 th (.lst ((nms pts k++[q.1]).map V.str))=G3 at s3 h3 ⊢
   have S3:=S2.same s3
   have nw:=zjM nd eq
   obtain⟨⟨avs,a1,a2⟩,⟨xs,c1,c2⟩,⟨ys,d1,d2⟩,nlm⟩:=Kk
   refine⟨_,rfl,d,avs,v.arr.map Ar.num,rfl,S3.sm _ _ a1,zdr a2,by rw[List.length_map];omega,fun qq ns nq pm so=>?_⟩
   have ens:ns=v.arr.map Ar.num:=zds pm so (zhe W.rise)
   subst ens
   have s4:zan G3 (upd G3 qq (.lst ((v.arr.map Ar.num).map V.int))):=zan.new nq
   have h4:upd G3 qq (.lst ((v.arr.map Ar.num).map V.int)) qq=some (.lst ((v.arr.map Ar.num).map V.int)):=zab
   have oqq:=S3.oth nq
   generalize upd G3 qq (.lst ((v.arr.map Ar.num).map V.int))=G4 at s4 h4 ⊢
   have S4:=S3.same s4
   refine⟨qq,rfl,⟨_,SqL.of h4⟩,zcI (K:=K) (a:=qq) (xs:=(v.arr.map Ar.num).map V.int) (fun j σ G'=>∃ v11 v12 v13 v14 v15 v16 Ls u,σ=[some (.ref nm),some (.ref hd),some (.ref t),some (.ref d),some (.ref l),some (.ref m),some (.ref g),some (.ref f),some (.int (k:Int)),some (.str q.1),some (.ref th),v11,v12,v13,v14,v15,v16]∧Kq g f0 f1 f2 G4 G'∧MSt K H G' g f f0 f1 f2 Ls u∧Mg pts (k + 1) (cnt eA v.arr (nms pts k) q.1 j) (all eS v.ss pts k) (all eM v.mm pts k) Ls u) ⟨_,_,_,_,_,_,Ls2,u2,rfl,Kq.of fun _ _ e=>e,S4,M2.up (Nat.le_of_eq zfR.symm) (Nat.le_refl _) (Nat.le_refl _)⟩ ?_ ?_ ?_⟩
   ·rintro j σ G' _ ⟨_,_,_,_,_,_,_,_,rfl,K',_⟩
    exact SqL.of (K' _ _ oqq h4)
   ·rintro j y σ G' hy ⟨v11,v12,v13,v14,v15,v16,Ls,u,rfl,K',S,M⟩
    obtain⟨n,hn,rfl⟩:=zeb hy
    rw[List.getElem?_map] at hn
    cases ea:v.arr[j]? with
    | none=>rw[ea] at hn;cases hn
    | some x=>
    rw[ea] at hn
    cases hn
    have mx:=List.mem_of_getElem? ea
    have hj:j<v.arr.length:=(List.getElem?_eq_some_iff.mp ea).1
    obtain⟨z1,z2,z3,z4⟩:=W.w.ar x mx
    obtain⟨_,_,_,sp1,sp2,wt1,wt2⟩:=W.ends x mx
    obtain⟨ta,va,sa⟩:=zfP ((Tk.of S.sm).arr a2) W.rise mx
    have cj:=zcl eA v.arr nw (j + 1)
    have cs:=zfQ (e:=eA) (ws:=nms pts k) (n:=q.1) ea
    have lll:Ls.length≤200:=by have:=M.ll;have:=M.la;have:=M.ls;have:=M.lm;have:=zcl eA v.arr nw j;omega
    dsimp only[zaI]
    refine⟨_,rfl,_,rfl,d,_,rfl,zjc (k:=Sum.inl x.num) (S.sm _ _ a1) va,ta,_,rfl,sa,rfl,_,_,rfl,_,_,rfl,_,_,rfl,_,_,rfl,rfl,?_⟩
    dsimp only[zaI]
    refine⟨_,rfl,_,rfl,(by show 2≤sizeLine;decide),fun pr npr=>?_⟩
    have s5:zan G' (upd G' pr (.lst [.str x.one,.str x.other])):=zan.new npr
    have h5:upd G' pr (.lst [.str x.one,.str x.other]) pr=some (.lst [.str x.one,.str x.other]):=zab
    generalize upd G' pr (.lst [.str x.one,.str x.other])=G5 at s5 h5 ⊢
    have S5:=S.same s5
    have K5:=K'.trans (Kq.of s5)
    refine⟨_,rfl,_,rfl,pr,q.1,th,x.one,x.other,nms pts k++[q.1],rfl,h5,K5 _ _ oth (s4 _ _ h3),_,rfl,?_⟩
    refine zbA (fun c=>?_) (fun c=>?_)
    ·rw[if_pos (show zb7 q.1 (nms pts k++[q.1]) (eA x).1 (eA x).2=true from c)] at cs
     refine⟨_,rfl,_,rfl,_,rfl,x.span,rfl,zbM z3,(by show 4≤sizeLine;decide),fun wd nwd=>?_⟩
     dsimp only[zaI]
     have s6:zan G5 (upd G5 wd (.lst [.str (Str.ofString "arrow"),.str x.one,.str x.other,.str (Str.ofString (toString x.span))])):=zan.new nwd
     have h6:upd G5 wd (.lst [.str (Str.ofString "arrow"),.str x.one,.str x.other,.str (Str.ofString (toString x.span))]) wd=some (.lst [.str (Str.ofString "arrow"),.str x.one,.str x.other,.str (Str.ofString (toString x.span))]):=zab
     generalize upd G5 wd (.lst [.str (Str.ofString "arrow"),.str x.one,.str x.other,.str (Str.ofString (toString x.span))])=G6 at s6 h6 ⊢
     apply zi8 (fun _:List Int=>[some (.ref nm),some (.ref hd),some (.ref t),some (.ref d),some (.ref l),some (.ref m),some (.ref g),some (.ref f),some (.int (k:Int)),some (.str q.1),some (.ref th),some (.int x.num),some (.str x.one),some (.str x.other),some (.int x.span),some (.int x.weight),some (.ref wd)]) (fun(ns:List Int) (H':Hp)=>zan G5 H'∧H' wd=some (.lst ((Ln.ar x.one x.other ns).words.map V.str))∧ns.length≤2∧(∀ m∈ns,m=x.span∨m=x.weight)∧ns.getD 0 1=x.span∧ns.getD 1 1=x.weight)
     case g=>
      intro zbx
      refine⟨_,rfl,_,_,rfl,rfl,_,rfl,?_⟩
      refine zbA (fun c1=>?_) (fun c1=>?_)
      ·refine⟨_,rfl,.inl ⟨rfl,_,SqL.of h6⟩,_,rfl,x.weight,rfl,zbM z4,wd,_,_,rfl,rfl,h6,by show 4<sizeLine;decide,?_⟩
       exact zbx [x.span,x.weight] _ ⟨zaF nwd s6,zab,Nat.le_refl 2,fun m hm=>mem2 hm,rfl,rfl⟩
      ·have c1:¬ 1<x.weight:=of_decide_eq_false c1
       exact zbx [x.span] _ ⟨s6,h6,by show 1≤2;decide,fun m hm=>.inl (List.mem_singleton.mp hm),rfl,by show 1=x.weight;omega⟩
     case h=>
      rintro ns G7 ⟨s7,h7,nn1,nn2,nn3,nn4⟩
      dsimp only
      have S7:=S5.same s7
      have lok:(Ln.ar x.one x.other ns).Ok:=⟨z1,z2,nn1,fun m hm=>(nn2 m hm).elim (fun e=>e ▸ z3) (fun e=>e ▸ z4)⟩
      have bd:((Ln.ar x.one x.other ns).words.map (·.length)).sum + (Ln.ar x.one x.other ns).words.length * (Str.ofString " ").length≤16777216:=by
       have:=zhF (f:=fun s:Str=>s.length) (n:=8) (l:=(Ln.ar x.one x.other ns).words) fun y hy=>(Ln.wok lok y hy).2
       have:=(Ln.few lok).2
       have:(Str.ofString " ").length=1:=by decide
       rw[this]
       omega
      refine⟨_,rfl,.inl ⟨rfl,_,SqL.of S7.lg⟩,rfl,_,rfl,_,wd,(Ln.ar x.one x.other ns).words,rfl,rfl,SqL.of h7,bd,g,_,_,rfl,rfl,S7.lg,by rw[zaU,sizeLine_eq];omega,?_⟩
      obtain⟨S8,q8⟩:=S7.line Fz (l:=.ar x.one x.other ns) (x:=Txt.join (Str.ofString " ") (Ln.ar x.one x.other ns).words) rfl
      generalize upd G7 g _=G8 at S8 q8 ⊢
      obtain⟨xs0,e1,e2⟩:=S8.ar
      have xl:xs0.length=u.arr.length:=by rw[← zbb e2,List.length_map]
      refine⟨_,rfl,f,_,0,_,rfl,rfl,S8.tp,rfl,.inl ⟨rfl,_,SqL.of e1⟩,_,rfl,f,_,0,_,rfl,rfl,S8.tp,rfl,f0,xs0,rfl,.inl (SqL.of e1),_,rfl,_,rfl,_,rfl,_,rfl,(by show 5≤sizeLine;decide),fun z nz=>?_⟩
      rw[xl]
      have s9:zan G8 (upd G8 z (.tup [.int (u.arr.length:Int),.str x.one,.str x.other,.int x.span,.int x.weight])):=zan.new nz
      have h9:SqT K (upd G8 z (.tup [.int (u.arr.length:Int),.str x.one,.str x.other,.int x.span,.int x.weight])) z [.int (u.arr.length:Int),.str x.one,.str x.other,.int x.span,.int x.weight]:=SqT.of zab
      generalize upd G8 z (.tup [.int (u.arr.length:Int),.str x.one,.str x.other,.int x.span,.int x.weight])=G9 at s9 h9 ⊢
      refine⟨f0,_,_,rfl,rfl,s9 _ _ e1,by have:=M.la;have:=zcl eA v.arr nw j;rw[xl,sizeLine_eq];omega,?_⟩
      obtain⟨SA,qA⟩:=(S8.same s9).a Fz (s9 _ _ e1) (q:=⟨(u.arr.length:Int),x.one,x.other,x.span,x.weight⟩) h9 (u.nn + 1)
      have c:zb7 q.1 (nms pts k++[q.1]) x.one x.other=true:=c
      unfold zb7 at c
      rw[Bool.and_eq_true] at c
      exact⟨_,_,_,_,_,_,_,_,rfl,((K5.trans (Kq.of s7)).trans (q8.trans (Kq.of s9))).trans qA,SA,(M.arrow W (by omega) (by omega) (by omega) mx (by rw[← zdv eq] at c;exact c.2) ⟨nn1,nn2,nn3,nn4⟩).up (by omega) (Nat.le_refl _) (Nat.le_refl _)⟩
    ·rw[if_neg (by rw[show zb7 q.1 (nms pts k++[q.1]) (eA x).1 (eA x).2=false from c];decide)] at cs
     exact⟨_,_,_,_,_,_,Ls,u,rfl,K5,S5,M.up (by omega) (Nat.le_refl _) (Nat.le_refl _)⟩
   ·rintro σ G' ⟨v11,v12,v13,v14,v15,v16,Ls,u,rfl,K',S,M⟩
    rw[List.length_map,List.length_map] at M
    have M:=M.up (zhg eA v.arr nd eq _) (Nat.le_refl _) (Nat.le_refl _)
    have aA':=zdY eA v.arr pts (k + 1)
    refine⟨_,rfl,l,rfl,⟨_,SqL.of (S.sm _ _ c1)⟩,zcI (K:=K) (a:=l) (xs:=xs) (fun j σ G'=>∃ v11 v12 v13 v14 v15 v16 Ls u,σ=[some (.ref nm),some (.ref hd),some (.ref t),some (.ref d),some (.ref l),some (.ref m),some (.ref g),some (.ref f),some (.int (k:Int)),some (.str q.1),some (.ref th),v11,v12,v13,v14,v15,v16]∧Kq g f0 f1 f2 G4 G'∧MSt K H G' g f f0 f1 f2 Ls u∧Mg pts (k + 1) (all eA v.arr pts (k + 1)) (cnt eS v.ss (nms pts k) q.1 j) (all eM v.mm pts k) Ls u) ⟨_,_,_,_,_,_,Ls,u,rfl,K',S,M.up (Nat.le_refl _) (Nat.le_of_eq zfR.symm) (Nat.le_refl _)⟩ ?_ ?_ ?_⟩
    ·rintro j σ G' _ ⟨_,_,_,_,_,_,_,_,rfl,_,S,_⟩
     exact SqL.of (S.sm _ _ c1)
    ·rintro j y σ G' hy ⟨v11,v12,v13,v14,v15,v16,Ls,u,rfl,K',S,M⟩
     obtain⟨x,ea,dx⟩:=zbS c2 hy
     obtain⟨tx,rfl,htx⟩:=zlG dx
     have mx:=List.mem_of_getElem? ea
     have hj:j<v.ss.length:=(List.getElem?_eq_some_iff.mp ea).1
     obtain⟨z1,z2⟩:=W.w.ss x mx
     have cj:=zcl eS v.ss nw (j + 1)
     have cs:=zfQ (e:=eS) (ws:=nms pts k) (n:=q.1) ea
     have lll:Ls.length≤200:=by have:=M.ll;have:=M.la;have:=M.ls;have:=M.lm;have:=zcl eS v.ss nw j;omega
     have k1:=la s6 (zaB z1).2
     have k2:=la k1 b1
     have k3:=la k2 (zaB z2).2
     refine⟨tx,_,rfl,(Tk.of S.sm).sqT htx,rfl,_,_,rfl,_,_,rfl,rfl,?_⟩
     dsimp only[zaI]
     refine⟨_,rfl,_,rfl,(by show 2≤sizeLine;decide),fun pr npr=>?_⟩
     have s5:zan G' (upd G' pr (.lst [.str x.1,.str x.2])):=zan.new npr
     have h5:upd G' pr (.lst [.str x.1,.str x.2]) pr=some (.lst [.str x.1,.str x.2]):=zab
     generalize upd G' pr (.lst [.str x.1,.str x.2])=G5 at s5 h5 ⊢
     have S5:=S.same s5
     have K5:=K'.trans (Kq.of s5)
     refine⟨_,rfl,_,rfl,pr,q.1,th,x.1,x.2,nms pts k++[q.1],rfl,h5,K5 _ _ oth (s4 _ _ h3),_,rfl,?_⟩
     refine zbA (fun c=>?_) (fun c=>?_)
     ·rw[if_pos (show zb7 q.1 (nms pts k++[q.1]) (eS x).1 (eS x).2=true from c)] at cs
      have et:(Ln.sm x.1 x.2).text=Str.ofString "same "++x.1++Str.ofString " "++x.2:=(jn3 _ _ _).trans (by rw[k_sm];show _=_++bk++_;simp only[PySem.Str.append_assoc])
      refine⟨_,rfl,.inl ⟨rfl,_,SqL.of S5.lg⟩,_,rfl,_,_,rfl,rfl,lw k1 (by decide),_,_,rfl,rfl,lw k2 (by decide),_,rfl,_,_,rfl,rfl,lw k3 (by decide),g,_,_,rfl,rfl,S5.lg,by rw[zaU,sizeLine_eq];omega,?_⟩
      obtain⟨S8,q8⟩:=S5.line Fz et
      generalize upd G5 g _=G8 at S8 q8 ⊢
      obtain⟨xs0,e1,e2⟩:=S8.ss
      have xl:xs0.length=u.ss.length:=by rw[← zbb e2,List.length_map]
      refine⟨_,rfl,f,_,1,_,rfl,rfl,S8.tp,rfl,.inl ⟨rfl,_,SqL.of e1⟩,_,rfl,_,rfl,(by show 2≤sizeLine;decide),fun z nz=>?_⟩
      have s9:zan G8 (upd G8 z (.tup [.str x.1,.str x.2])):=zan.new nz
      have h9:SqT K (upd G8 z (.tup [.str x.1,.str x.2])) z [.str x.1,.str x.2]:=SqT.of zab
      generalize upd G8 z (.tup [.str x.1,.str x.2])=G9 at s9 h9 ⊢
      refine⟨f1,_,_,rfl,rfl,s9 _ _ e1,by have:=M.ls;have:=zcl eS v.ss nw j;rw[xl,sizeLine_eq];omega,?_⟩
      obtain⟨SA,qA⟩:=(S8.same s9).s Fz (s9 _ _ e1) h9
      have c:zb7 q.1 (nms pts k++[q.1]) x.1 x.2=true:=c
      unfold zb7 at c
      rw[Bool.and_eq_true] at c
      exact⟨_,_,_,_,_,_,_,_,rfl,(K5.trans (q8.trans (Kq.of s9))).trans qA,SA,(M.same W (by omega) (by omega) (by omega) mx (by rw[← zdv eq] at c;exact c.2)).up (Nat.le_refl _) (by omega) (Nat.le_refl _)⟩
     ·rw[if_neg (by rw[show zb7 q.1 (nms pts k++[q.1]) (eS x).1 (eS x).2=false from c];decide)] at cs
      exact⟨_,_,_,_,_,_,Ls,u,rfl,K5,S5,M.up (Nat.le_refl _) (by omega) (Nat.le_refl _)⟩
    ·rintro σ G' ⟨v11,v12,v13,v14,v15,v16,Ls,u,rfl,K',S,M⟩
     have M:=M.up (Nat.le_refl _) (zhg eS v.ss nd eq _) (Nat.le_refl _)
     have aS':=zdY eS v.ss pts (k + 1)
     refine⟨_,rfl,m,rfl,⟨_,SqL.of (S.sm _ _ d1)⟩,zcI (K:=K) (a:=m) (xs:=ys) (fun j σ G'=>∃ v11 v12 v13 v14 v15 v16 Ls u,σ=[some (.ref nm),some (.ref hd),some (.ref t),some (.ref d),some (.ref l),some (.ref m),some (.ref g),some (.ref f),some (.int (k:Int)),some (.str q.1),some (.ref th),v11,v12,v13,v14,v15,v16]∧Kq g f0 f1 f2 G4 G'∧MSt K H G' g f f0 f1 f2 Ls u∧Mg pts (k + 1) (all eA v.arr pts (k + 1)) (all eS v.ss pts (k + 1)) (cnt eM v.mm (nms pts k) q.1 j) Ls u) ⟨_,_,_,_,_,_,Ls,u,rfl,K',S,M.up (Nat.le_refl _) (Nat.le_refl _) (Nat.le_of_eq zfR.symm)⟩ ?_ ?_ ?_⟩
     ·rintro j σ G' _ ⟨_,_,_,_,_,_,_,_,rfl,_,S,_⟩
      exact SqL.of (S.sm _ _ d1)
     ·rintro j y σ G' hy ⟨v11,v12,v13,v14,v15,v16,Ls,u,rfl,K',S,M⟩
      obtain⟨x,ea,dx⟩:=zbS d2 hy
      obtain⟨tx,rfl,htx⟩:=zlH dx
      have mx:=List.mem_of_getElem? ea
      have hj:j<v.mm.length:=(List.getElem?_eq_some_iff.mp ea).1
      obtain⟨z1,z2,z3⟩:=W.w.mm x mx
      have cj:=zcl eM v.mm nw (j + 1)
      have cs:=zfQ (e:=eM) (ws:=nms pts k) (n:=q.1) ea
      have lll:Ls.length≤200:=by have:=M.ll;have:=M.la;have:=M.ls;have:=M.lm;have:=zcl eM v.mm nw j;omega
      have k1:=la m6 (zaB z1).2
      have k2:=la k1 b1
      have k3:=la k2 (zaB z2).2
      have k4:=la k3 b1
      have k5:=la k4 (tn7 z3)
      refine⟨tx,_,rfl,(Tk.of S.sm).sqT htx,rfl,_,_,rfl,_,_,rfl,_,_,rfl,rfl,?_⟩
      dsimp only[zaI]
      refine⟨_,rfl,_,rfl,(by show 2≤sizeLine;decide),fun pr npr=>?_⟩
      have s5:zan G' (upd G' pr (.lst [.str x.1,.str x.2.1])):=zan.new npr
      have h5:upd G' pr (.lst [.str x.1,.str x.2.1]) pr=some (.lst [.str x.1,.str x.2.1]):=zab
      generalize upd G' pr (.lst [.str x.1,.str x.2.1])=G5 at s5 h5 ⊢
      have S5:=S.same s5
      have K5:=K'.trans (Kq.of s5)
      refine⟨_,rfl,_,rfl,pr,q.1,th,x.1,x.2.1,nms pts k++[q.1],rfl,h5,K5 _ _ oth (s4 _ _ h3),_,rfl,?_⟩
      refine zbA (fun c=>?_) (fun c=>?_)
      ·rw[if_pos (show zb7 q.1 (nms pts k++[q.1]) (eM x).1 (eM x).2=true from c)] at cs
       have et:(Ln.ms x.1 x.2.1 x.2.2).text=Str.ofString "most "++x.1++Str.ofString " "++x.2.1++Str.ofString " "++Str.ofString (toString x.2.2):=(jn4 _ _ _ _).trans (by rw[k_ms];show _=_++bk++_++bk++tn x.2.2;simp only[PySem.Str.append_assoc])
       refine⟨_,rfl,.inl ⟨rfl,_,SqL.of S5.lg⟩,_,rfl,_,_,rfl,rfl,lw k1 (by decide),_,_,rfl,rfl,lw k2 (by decide),_,rfl,_,_,rfl,rfl,lw k3 (by decide),_,_,rfl,rfl,lw k4 (by decide),_,rfl,x.2.2,rfl,zbM z3,_,_,rfl,rfl,lw k5 (by decide),g,_,_,rfl,rfl,S5.lg,by rw[zaU,sizeLine_eq];omega,?_⟩
       obtain⟨S8,q8⟩:=S5.line Fz et
       generalize upd G5 g _=G8 at S8 q8 ⊢
       obtain⟨xs0,e1,e2⟩:=S8.mm
       have xl:xs0.length=u.mm.length:=by rw[← zbb e2,List.length_map]
       refine⟨_,rfl,f,_,2,_,rfl,rfl,S8.tp,rfl,.inl ⟨rfl,_,SqL.of e1⟩,_,rfl,_,rfl,_,rfl,(by show 3≤sizeLine;decide),fun z nz=>?_⟩
       have s9:zan G8 (upd G8 z (.tup [.str x.1,.str x.2.1,.int x.2.2])):=zan.new nz
       have h9:SqT K (upd G8 z (.tup [.str x.1,.str x.2.1,.int x.2.2])) z [.str x.1,.str x.2.1,.int x.2.2]:=SqT.of zab
       generalize upd G8 z (.tup [.str x.1,.str x.2.1,.int x.2.2])=G9 at s9 h9 ⊢
       refine⟨f2,_,_,rfl,rfl,s9 _ _ e1,by have:=M.lm;have:=zcl eM v.mm nw j;rw[xl,sizeLine_eq];omega,?_⟩
       obtain⟨SA,qA⟩:=(S8.same s9).m Fz (s9 _ _ e1) h9
       have c:zb7 q.1 (nms pts k++[q.1]) x.1 x.2.1=true:=c
       unfold zb7 at c
       rw[Bool.and_eq_true] at c
       exact⟨_,_,_,_,_,_,_,_,rfl,(K5.trans (q8.trans (Kq.of s9))).trans qA,SA,(M.most W (by omega) (by omega) (by omega) mx (by rw[← zdv eq] at c;exact c.2)).up (Nat.le_refl _) (Nat.le_refl _) (by omega)⟩
      ·rw[if_neg (by rw[show zb7 q.1 (nms pts k++[q.1]) (eM x).1 (eM x).2=false from c];decide)] at cs
       exact⟨_,_,_,_,_,_,Ls,u,rfl,K5,S5,M.up (Nat.le_refl _) (Nat.le_refl _) (by omega)⟩
     ·rintro σ G' ⟨v11,v12,v13,v14,v15,v16,Ls,u,rfl,K',S,M⟩
      exact⟨_,_,_,_,_,_,_,_,_,Ls,u,rfl,S,M.up (Nat.le_refl _) (Nat.le_refl _) (zhg eM v.mm nd eq _)⟩
  ·rintro σ G ⟨v8,v9,v10,v11,v12,v13,v14,v15,v16,Ls,u,rfl,S,M⟩
   rw[List.length_map,List.length_map] at M
   refine⟨_,rfl,_,rfl,(by show 2≤sizeLine;decide),fun x nx=>?_⟩
   have aA:=zdY eA v.arr pts pts.length
   have aS:=zdY eS v.ss pts pts.length
   have aM:=zdY eM v.mm pts pts.length
   exact kq x g f f0 f1 f2 Ls u _ (SqT.of zab) (S.same (zan.new nx)) (M.up (by omega) (by omega) (by omega))
end
end K04
namespace K04
open PySem L2
section
variable {P:Program}{w:World}{K:PySem.W.Frag}{mg:Str→Option Value}{base:Heap}{a:Adr}
def spRm (K:PySem.W.Frag):Sp:=fun vs H Q _=>∃ nm hd t d l m pts v i,vs=[.ref nm,.ref hd,.ref t]∧H nm=some (.lst (((pts:List Pt).map Prod.fst).map V.str))∧H hd=some (.dK (pts.map zct))∧SqT K H t [.ref d,.ref l,.ref m]∧zfU K H d l m v∧Nw pts v i∧∀ H',zan H H'→Q (.bl true) H'
set_option maxHeartbeats 4000000 in
theorem ok_rm (T:Tx K mg a) (Z:KD P w K a.LINES (zbg a)):Cal P w K mg base CX0 9 "_law_read_mingled" ["_law_names_here","_law_halves","_law_kept"] [] (spRm K):=T.d__law_read_mingled.cal fun fa fd F=>by
 have c__law_mingled:=zib (P:=P) (w:=w) (base:=base) T
 have c_read_net:=zeQ (P:=P) (w:=w) (base:=base) T Z
 have m_Net_half_of:=zdJ (P:=P) (w:=w) (base:=base) T
 have m_Net_points:=zdp (P:=P) (w:=w) (base:=base) T
 have m_Net_arrows:=zdq (P:=P) (w:=w) (base:=base) T
 have m_Net_sames:=zfI (P:=P) (w:=w) (base:=base) T
 have m_Net_mosts:=zfJ (P:=P) (w:=w) (base:=base) T
 refine F.ok zaV (fun vs H Q E h=>?_) (fun cdv A outer s H vs Q E hr h=>?_)
 ·obtain⟨nm,hd,t,d,l,m,pts,v,i,rfl,_⟩:=h
  rfl
 ·obtain⟨nm,hd,t,d,l,m,pts,v,i,rfl,hnm,hhd,ht,Kk,W,kq⟩:=h
  have w1:=W.w.l1
  refine⟨_,(zac (zdM (zaD c__law_mingled (hr.mono (by decide)) rfl (zaa (pv 0) (zaa (pv 1) (zaa (pv 2) zad)))) (zbW rfl (zaj (zak (i:=3) zaV.nd rfl (by first|exact Or.inl rfl|exact Or.inr rfl)) (zaj (zak (i:=4) zaV.nd rfl (by first|exact Or.inl rfl|exact Or.inr rfl)) zaN))))
   (zac (zaG (i:=5) zaV.nd rfl (by first|exact Or.inl rfl|exact Or.inr rfl) (zdF c_read_net za5 (hr.mono (by decide)) rfl (zaa (zbN PySem.F.plainAttrs_str PySem.F.slot_str_join PySem.F.type_str_join zdD zav (zaa (pv 3) zad)) zad)))
   (zac (zaM (zaq (zgg hr.units) (za1 (pv 5) T.c_Net m_Net_points (hr.mono (by decide))) (pv 0) (zax _)) (zag (zaA zdZ)) zap)
   (zac (zaM (zaq (zgg hr.units) (zbh (N:=["_law_name","_law_halves","_law_net"]) (cap:=[none,some 1,some 5]) rfl (zbd (osc:=zah zbk) (XN:=["_law_names_here","_law_halves","_law_kept","_law_lines_here","_law_found","_law_net"]) rfl rfl (by decide +kernel)) (zaS (pv 0)) (fun cl C s H fp pins=>(zak (i:=0) (show(["_law_name","_law_halves","_law_net"]:List Str).Nodup by decide +kernel) rfl (by first|exact Or.inl rfl|exact Or.inr rfl))) (fun cl C s H fp pins=>zlh (zaq zgO (zaK (pv 2) T.c_Net m_Net_half_of za5 (hr.mono (by decide)) (zaa (pv 0) zad)) (zb3 (zcL hr) (pv 1) (pv 0) (fun _ _=>rfl)) (zax _))) (fun cl C s H fp pins=>(pv 0))) (zbE zad) (zax _)) (zag (zaA zdZ)) zap)
   (zag (zaA (zbo (ziN hr.units) (zbv (zaa (za1 (pv 5) T.c_Net m_Net_arrows (hr.mono (by decide))) (zaa (za1 (pv 5) T.c_Net m_Net_sames (hr.mono (by decide))) (zaa (za1 (pv 5) T.c_Net m_Net_mosts (hr.mono (by decide))) zad)))) (pv 4) (zax _)))))))),?_⟩
  refine⟨_,rfl,_,rfl,_,rfl,nm,hd,t,d,l,m,pts,v,i,rfl,hnm,hhd,ht,Kk,W,fun x g f f0 f1 f2 Ls u H1 hx S M=>?_⟩
  refine⟨x,_,rfl,hx,rfl,_,_,rfl,_,_,rfl,rfl,?_⟩
  dsimp only[zaI]
  have la:=M.la
  have ls:=M.ls
  have lm:=M.lm
  have ll:=M.ll
  have l200:Ls.length≤200:=by omega
  refine⟨rfl,_,rfl,_,g,Ls.map Ln.text,rfl,rfl,SqL.of S.lg,zd8 M.R.all l200,Ls,rfl,M.R,l200,fun p r H2 s2 ap N=>?_⟩
  rw[M.run] at N
  have S2:=S.same s2
  have ekv:u.kvs=pts.map zct:=by rw[M.kv,List.take_length]
  have kvE:zc3 u.kvs=(pts.map Prod.fst).map V.str:=by rw[ekv];unfold zc3;rw[List.map_map,List.map_map];rfl
  dsimp only[zaI]
  obtain⟨dx,hp⟩:=N.ex
  refine⟨_,rfl,p,dx,_,rfl,hp,by rfl,p,r,u,rfl,N,fun l3 nl3=>?_⟩
  rw[kvE]
  have s3:zan H2 (upd H2 l3 (.lst ((pts.map Prod.fst).map V.str))):=zan.new nl3
  have h3:upd H2 l3 (.lst ((pts.map Prod.fst).map V.str)) l3=some (.lst ((pts.map Prod.fst).map V.str)):=zab
  generalize upd H2 l3 (.lst ((pts.map Prod.fst).map V.str))=H3 at s3 h3 ⊢
  have S3:=S2.same s3
  refine⟨_,rfl,.lst ((pts.map Prod.fst).map Dt.str),.lst ((pts.map Prod.fst).map Dt.str),rfl,rfl,⟨l3,_,rfl,SqL.of h3,zdt _⟩,⟨nm,_,rfl,SqL.of (S3.sm _ _ hnm),zdt _⟩,zgz _,_,rfl,?_⟩
  rw[zbz]
  refine zbA (fun c=>absurd c (by decide)) (fun _=>?_)
  refine⟨_,rfl,nm,rfl,⟨_,SqL.of (S3.sm _ _ hnm)⟩,fun D hD=>?_⟩
  have N3:=N.same s3
  refine zaP (K:=K) (a:=nm) (xs:=(pts.map Prod.fst).map V.str) (fun j τ G=>∃ v1,τ=[v1,some (.ref hd),some (.ref p)]∧zan H3 G∧G D=some (.lst [])) ⟨none,rfl,zan.new hD,zab⟩ ?_ ?_ ?_
  ·rintro j τ G _ ⟨_,rfl,sg,_⟩
   exact SqL.of (sg _ _ (S3.sm _ _ hnm))
  ·rintro j y τ G hy ⟨v1,rfl,sg,hG⟩
   obtain⟨z,hz,rfl⟩:=zbB hy
   rw[List.getElem?_map] at hz
   cases eq:pts[j]? with
   | none=>rw[eq] at hz;cases hz
   | some q=>
   rw[eq] at hz
   cases hz
   have mq:=List.mem_of_getElem? eq
   have NG:=N3.same sg
   obtain⟨dx2,hp2⟩:=NG.ex
   dsimp only[zaI,zeT]
   refine⟨_,rfl,p,dx2,_,rfl,hp2,by rfl,_,rfl,p,r,u,q.1,.int q.2,rfl,NG,by rw[ekv];exact zd9 W.w.nd mq,fun G3 s3'=>?_⟩
   refine⟨_,rfl,_,rfl,hd,_,rfl,zeS W.w.nd ((sg.trans s3') _ _ (S3.sm _ _ hhd)) mq,?_⟩
   refine⟨rfl,_,rfl,?_⟩
   refine zbA (fun c=>?_) (fun _=>⟨_,rfl,sg.trans s3',s3' _ _ hG⟩)
   exact absurd c (by simp)
  rintro τ G ⟨v1,rfl,sg,hG⟩
  refine⟨(by show 0≤sizeLine;decide),fun b nb=>?_⟩
  have s4:zan G (upd G b (.lst [])):=zan.new nb
  have h4:upd G b (.lst []) b=some (.lst []):=zab
  generalize upd G b (.lst [])=G4 at s4 h4 ⊢
  refine⟨.lst [],.lst [],rfl,rfl,⟨D,[],rfl,SqL.of (s4 _ _ hG),rfl⟩,⟨b,[],rfl,SqL.of h4,rfl⟩,trivial,_,rfl,?_⟩
  rw[zbz]
  refine zbA (fun c=>absurd c (by decide)) (fun _=>?_)
  have S4:=S3.same (sg.trans s4)
  have N4:=N3.same (sg.trans s4)
  obtain⟨dx4,hp4⟩:=N4.ex
  refine⟨_,rfl,p,dx4,_,rfl,hp4,by rfl,p,r,u,rfl,N4,by rw[List.length_map];omega,fun l5 H5 xs5 s5 n5 h5 d5 _=>?_⟩
  have N5:=N4.same s5
  obtain⟨dx5,hp5⟩:=N5.ex
  refine⟨_,rfl,p,dx5,_,rfl,hp5,by rfl,p,r,u,rfl,N5,by rw[List.length_map];omega,fun l6 H6 xs6 s6 n6 h6 d6 _=>?_⟩
  have N6:=N5.same s6
  obtain⟨dx6,hp6⟩:=N6.ex
  refine⟨_,rfl,p,dx6,_,rfl,hp6,by rfl,p,r,u,rfl,N6,by rw[List.length_map];omega,fun l7 H7 xs7 s7 n7 h7 d7 _=>?_⟩
  refine⟨(by show 3≤sizeLine;decide),fun q nq=>?_⟩
  have s8:zan H7 (upd H7 q (.tup [.ref l5,.ref l6,.ref l7])):=zan.new nq
  have h8:SqT K (upd H7 q (.tup [.ref l5,.ref l6,.ref l7])) q [.ref l5,.ref l6,.ref l7]:=SqT.of zab
  generalize upd H7 q (.tup [.ref l5,.ref l6,.ref l7])=H8 at s8 h8 ⊢
  have s58:=(s6.trans s7).trans s8
  have s68:=s7.trans s8
  have S8:=S4.same (s5.trans s58)
  obtain⟨xa,a1,a2⟩:=S8.ar
  obtain⟨xb,b1,b2⟩:=S8.ss
  obtain⟨xc,c1,c2⟩:=S8.mm
  refine⟨_,rfl,.tup [.lst (u.arr.map arD),.lst (u.ss.map zcO),.lst (u.mm.map zcP)],.tup [.lst (u.arr.map arD),.lst (u.ss.map zcO),.lst (u.mm.map zcP)],rfl,rfl,⟨q,_,rfl,h8,_,_,rfl,⟨l5,_,rfl,SqL.of (s58 _ _ h5),s58.dts d5⟩,_,_,rfl,⟨l6,_,rfl,SqL.of (s68 _ _ h6),s68.dts d6⟩,_,_,rfl,⟨l7,_,rfl,SqL.of (s8 _ _ h7),s8.dts d7⟩,rfl⟩,⟨f,_,rfl,S8.tp,_,_,rfl,⟨f0,_,rfl,SqL.of a1,a2⟩,_,_,rfl,⟨f1,_,rfl,SqL.of b1,b2⟩,_,_,rfl,⟨f2,_,rfl,SqL.of c1,c2⟩,rfl⟩,⟨zbH (n:=58) (f:=arD) (fun _=>⟨trivial,trivial,trivial,trivial,trivial,trivial⟩) _,zbH (n:=58) (f:=zcO) (fun _=>⟨trivial,trivial,trivial⟩) _,zbH (n:=58) (f:=zcP) (fun _=>⟨trivial,trivial,trivial,trivial⟩) _,trivial⟩,?_⟩
  rw[zbz]
  exact kq _ S8.sm
end
end K04
namespace K04
open PySem L2
section
variable {pts:List Pt}{v:zbt}{i:Nat}{b:Bool}
theorem ptB_ns (n:Str) (h:Int):∃ ns:List Int,ptB b n h=.pt n ns∧ns.length≤1∧(∀ m∈ns,m=h)∧ns.getD 0 0=h:=by
 unfold ptB ptL
 cases b with
 | false=>exact⟨[h],rfl,Nat.le_refl _,fun m hm=>List.mem_singleton.mp hm,rfl⟩
 | true=>
  rw[if_pos rfl]
  by_cases e:h=0
  ·rw[if_pos e]
   exact⟨[],rfl,Nat.zero_le _,fun m hm=>absurd hm (by simp),e.symm⟩
  ·rw[if_neg e]
   exact⟨[h],rfl,Nat.le_refl _,fun m hm=>List.mem_singleton.mp hm,rfl⟩
theorem arB_ns (o t:Str) (s w:Int):∃ ns:List Int,arB b o t s w=.ar o t ns∧ns.length≤2∧(∀ m∈ns,m=s∨m=w)∧ns.getD 0 1=s∧ns.getD 1 1=w:=by
 unfold arB arL
 have full:∃ ns:List Int,Ln.ar o t [s,w]=.ar o t ns∧ns.length≤2∧(∀ m∈ns,m=s∨m=w)∧ns.getD 0 1=s∧ns.getD 1 1=w:=⟨_,rfl,Nat.le_refl _,fun m hm=>mem2 hm,rfl,rfl⟩
 cases b with
 | false=>exact full
 | true=>
  rw[if_pos rfl]
  by_cases e:w=1
  ·rw[if_neg (fun z=>z e)]
   by_cases e2:s=1
   ·rw[if_neg (fun z=>z e2)]
    exact⟨[],rfl,Nat.zero_le _,fun m hm=>absurd hm (by simp),e2.symm,e.symm⟩
   ·rw[if_pos e2]
    exact⟨[s],rfl,by show 1≤2;decide,fun m hm=>.inl (List.mem_singleton.mp hm),rfl,e.symm⟩
  ·rw[if_pos e]
   exact full
theorem zhh {o t:Str} (ho:o∈pts.map Prod.fst) (ht:t∈pts.map Prod.fst):inB ((pts.take pts.length).map Prod.fst) o t=true:=by
 unfold inB
 rw[List.take_length,decide_eq_true ho,decide_eq_true ht]
 rfl
theorem zjN (W:zkP pts v):∀ k,k≤pts.length→∃ u,Mg pts k 0 0 0 (zhf b (pts.take k)) u∧u.arr=[]∧u.ss=[]∧u.mm=[]
 | 0,_=>⟨emp,Mg.start pts,rfl,rfl,rfl⟩
 | k + 1,h=>by
  obtain⟨u,M,h1,h2,h3⟩:=zjN W k (by omega)
  obtain⟨q,e⟩:=zb9 (l:=pts) (j:=k) (by omega)
  obtain⟨ns,e1,e2⟩:=ptB_ns (b:=b) q.1 q.2
  have:=M.point W (by omega) (by omega) (by omega) e e2
  refine⟨{ u with kvs:=u.kvs++[(Sum.inr q.1,.int q.2)] },?_,h1,h2,h3⟩
  unfold zhf at this ⊢
  rw[zaw e,List.map_append]
  show Mg _ _ _ _ _ (_++[ptB b q.1 q.2]) _
  rw[e1]
  exact this
theorem zhi {cS cM:Nat}{Ls:List Ln}{u:zbt} (W:Nw pts v i) (hS:cS≤20) (hM:cM≤20) (M:Mg pts pts.length 0 cS cM Ls u) (h0:u.arr=[]):∀ j,j≤v.arr.length→∃ u',Mg pts pts.length j cS cM (Ls++zif b (v.arr.take j)) u'∧u'.arr=zcv 0 (v.arr.take j)∧u'.ss=u.ss∧u'.mm=u.mm
 | 0,_=>⟨u,by unfold zif;rw[List.take_zero,List.map_nil,List.append_nil];exact M,h0,rfl,rfl⟩
 | j + 1,h=>by
  obtain⟨u',M',h1,h2,h3⟩:=zhi W hS hM M h0 j (by omega)
  obtain⟨q,e⟩:=zb9 (l:=v.arr) (j:=j) (by omega)
  obtain⟨ns,e1,e2⟩:=arB_ns (b:=b) q.one q.other q.span q.weight
  have mq:=List.mem_of_getElem? e
  have l2:=W.w.l2
  have en:=W.ends q mq
  have:=M'.arrow W (by omega) hS hM mq (zhh en.1 en.2.1) e2
  refine⟨{ u' with arr:=u'.arr++[⟨(u'.arr.length:Int),q.one,q.other,q.span,q.weight⟩],nn:=u'.nn + 1 },?_,?_,h2,h3⟩
  rotate_left
  ·show u'.arr++[_]=_
   rw[zaw e,zdL,h1,zcd,Int.zero_add]
  ·unfold zif at this ⊢
   rw[zaw e,List.map_append,← List.append_assoc]
   show Mg _ _ _ _ _ (_++[arB b q.one q.other q.span q.weight]) _
   rw[e1]
   exact this
theorem zhj {cA cM:Nat}{Ls:List Ln}{u:zbt} (W:Nw pts v i) (hA:cA≤40) (hM:cM≤20) (M:Mg pts pts.length cA 0 cM Ls u) (h0:u.ss=[]):∀ j,j≤v.ss.length→∃ u',Mg pts pts.length cA j cM (Ls++zeR (v.ss.take j)) u'∧u'.ss=v.ss.take j∧u'.arr=u.arr∧u'.mm=u.mm
 | 0,_=>⟨u,by unfold zeR;rw[List.take_zero,List.map_nil,List.append_nil];exact M,h0,rfl,rfl⟩
 | j + 1,h=>by
  obtain⟨u',M',h1,h2,h3⟩:=zhj W hA hM M h0 j (by omega)
  obtain⟨q,e⟩:=zb9 (l:=v.ss) (j:=j) (by omega)
  have mq:=List.mem_of_getElem? e
  have l3:=W.w.l3
  have en:=W.es q mq
  have:=M'.same W hA (by omega) hM mq (zhh en.1 en.2.1)
  refine⟨{ u' with ss:=u'.ss++[q] },?_,?_,h2,h3⟩
  rotate_left
  ·show u'.ss++[_]=_
   rw[zaw e,h1]
  ·unfold zeR at this ⊢
   rw[zaw e,List.map_append,← List.append_assoc]
   exact this
theorem zhk {cA cS:Nat}{Ls:List Ln}{u:zbt} (W:Nw pts v i) (hA:cA≤40) (hS:cS≤20) (M:Mg pts pts.length cA cS 0 Ls u) (h0:u.mm=[]):∀ j,j≤v.mm.length→∃ u',Mg pts pts.length cA cS j (Ls++zfT (v.mm.take j)) u'∧u'.mm=v.mm.take j∧u'.arr=u.arr∧u'.ss=u.ss
 | 0,_=>⟨u,by unfold zfT;rw[List.take_zero,List.map_nil,List.append_nil];exact M,h0,rfl,rfl⟩
 | j + 1,h=>by
  obtain⟨u',M',h1,h2,h3⟩:=zhk W hA hS M h0 j (by omega)
  obtain⟨q,e⟩:=zb9 (l:=v.mm) (j:=j) (by omega)
  have mq:=List.mem_of_getElem? e
  have l4:=W.w.l4
  have en:=W.em q mq
  have:=M'.most W hA hS (by omega) mq (zhh en.1 en.2.1)
  refine⟨{ u' with mm:=u'.mm++[q] },?_,?_,h2,h3⟩
  rotate_left
  ·show u'.mm++[_]=_
   rw[zaw e,h1]
  ·unfold zfT at this ⊢
   rw[zaw e,List.map_append,← List.append_assoc]
   exact this
theorem zjO (W:Nw pts v i) (b:Bool):∃ u,Mg pts pts.length 40 20 20 (zcc b pts v) u∧zlO pts v u:=by
 have l2:=W.w.l2
 have l3:=W.w.l3
 have l4:=W.w.l4
 obtain⟨u1,M1,a1,s1,m1⟩:=zjN (b:=b) W.w pts.length (Nat.le_refl _)
 rw[List.take_length] at M1
 unfold zcc
 cases b with
 | true=>
  obtain⟨u2,M2,a2,s2,m2⟩:=zhi (b:=true) W (by decide) (by decide) M1 a1 _ (Nat.le_refl _)
  obtain⟨u3,M3,s3,a3,m3⟩:=zhj W l2 (by decide) M2 (s2.trans s1) _ (Nat.le_refl _)
  obtain⟨u4,M4,m4,a4,s4⟩:=zhk W l2 l3 M3 (m3.trans (m2.trans m1)) _ (Nat.le_refl _)
  rw[List.take_length] at M2 a2 M3 s3 M4 m4
  rw[List.take_length,List.take_length] at M4
  refine⟨u4,M4.up l2 l3 l4,⟨by rw[M4.kv,List.take_length],a4.trans (a3.trans a2),s4.trans s3,m4⟩⟩
 | false=>
  obtain⟨u2,M2,m2,a2,s2⟩:=zhk W (by decide) (by decide) M1 m1 _ (Nat.le_refl _)
  obtain⟨u3,M3,s3,a3,m3⟩:=zhj W (by decide) l4 M2 (s2.trans s1) _ (Nat.le_refl _)
  obtain⟨u4,M4,a4,s4,m4⟩:=zhi (b:=false) W l3 l4 M3 (a3.trans (a2.trans a1)) _ (Nat.le_refl _)
  rw[List.take_length] at M2 m2 M3 s3 M4 a4
  rw[List.take_length,List.take_length] at M4
  exact⟨u4,M4.up l2 l3 l4,⟨by rw[M4.kv,List.take_length],a4,s4.trans s3,m4.trans (m3.trans m2)⟩⟩
end
end K04
namespace K04
open PySem L2
section
variable {pts:List Pt}{v u:zbt}{i:Nat}
theorem zgA:∀ {k:Int}{ar:List Ar}{q:Ar},q∈zcv k ar→∃ x∈ar,q.one=x.one∧q.other=x.other∧q.span=x.span∧q.weight=x.weight
 | _,[],_,h=>by cases h
 | k,x::ar,q,h=>by
  rcases List.mem_cons.mp h with rfl|h
  ·exact⟨x,List.mem_cons_self ..,rfl,rfl,rfl,rfl⟩
  ·obtain⟨y,hy,e⟩:=zgA h
   exact⟨y,List.mem_cons_of_mem _ hy,e⟩
theorem zgB:∀ (k:Int) (ar:List Ar),ze1 (zcv k ar)=ze1 ar
 | _,[]=>rfl
 | k,x::ar=>by
  show _::ze1 (zcv (k + 1) ar)=_::ze1 ar
  rw[zgB]
theorem zgC:∀ {k:Int}{ar:List Ar}{j:Nat}{q:Ar},(zcv k ar)[j]?=some q→q.num=k + j
 | _,[],_,_,h=>by simp[zcv] at h
 | k,x::ar,0,q,h=>by
  have e:(⟨k,x.one,x.other,x.span,x.weight⟩:Ar)=q:=Option.some.inj h
  rw[← e]
  show k=k + ((0:Nat):Int)
  omega
 | k,x::ar,j + 1,q,h=>by
  have h:(zcv (k + 1) ar)[j]?=some q:=h
  have:=zgC h
  omega
theorem zlO.w (W:Nw pts v i) (U:zlO pts v u):zkP pts u:=by
 have w:=W.w
 refine⟨U.kv,w.nd,w.nm,fun q hq=>?_,by rw[U.ss];exact w.ss,by rw[U.mm];exact w.mm,w.l1,by rw[U.ar,zcd];exact w.l2,by rw[U.ss];exact w.l3,by rw[U.mm];exact w.l4⟩
 rw[U.ar] at hq
 obtain⟨x,hx,e1,e2,e3,e4⟩:=zgA hq
 rw[e1,e2,e3,e4]
 exact w.ar x hx
theorem zic (pts:List Pt) (v:zbt):zcc true pts v=zfO pts v:=rfl
theorem zlO.bare (U:zlO pts v u):zfO pts u=zcc true pts v:=by
 rw[zic]
 unfold zfO
 rw[U.ar,U.ss,U.mm,zgB]
def zz:Str:=Str.ofString "zzzzzzzz"
theorem zhl:zaE zz=true∧zz.length=8:=by decide +kernel
theorem zz_ok (U:zlO pts v u) (h:pts.length<20) (h7:∀ q∈pts,q.1.length≤7):zaW u.kvs zz 0=none:=by
 have nh:has u.kvs zz=false:=by
  rw[U.kv]
  unfold has
  cases ev:zco (pts.map zct) (Sum.inr zz) with
  | none=>rfl
  | some x=>
   obtain⟨y,hy,e2⟩:=List.mem_map.mp (zgV ev)
   obtain⟨z,hz,rfl⟩:=List.mem_map.mp hy
   have e3:z.1=zz:=Sum.inr.inj e2
   have:=h7 z hz
   rw[e3,zhl.2] at this
   omega
 unfold zaW
 rw[zhl.1,nh,if_neg (by decide),if_neg (by decide),if_neg (by decide),if_neg]
 rw[U.kv,List.length_map]
 omega
def Lft (ar:List Ar) (k:Nat) (u:zbt):Prop:=∀ q∈ar,(k:Int)≤q.num→q∈u.arr
theorem Lft.has {ar:List Ar}{k:Nat} (h:Lft ar k u){q:Ar} (hq:q∈ar) (e:q.num=k):zkO u.arr q.num=true:=List.any_eq_true.mpr ⟨q,h q hq (by omega),decide_eq_true rfl⟩
theorem Lft.take {ar:List Ar}{k m:Nat} (h:Lft ar k u) (hm:k<m):Lft ar m { u with arr:=zbV u.arr (k:Int) }:=fun q hq hk=>by
 show q∈u.arr.filter _
 rw[List.mem_filter]
 exact⟨h q hq (by omega),decide_eq_true (by omega)⟩
theorem Off.of {K:PySem.W.Frag}{C:Addr}{H:Hp}{p:Addr}{r:Rec}{w:zbt}{b:Addr} (N:za4 K C H p r w) (nb:H b=none):Off p r b:=by
 have f:∀ c o,H c=some o→b≠c:=fun c o e=>Ne.symm (zae e nb)
 obtain⟨⟨dx,e1⟩,e2,⟨avs,e3,_⟩,⟨xs,e4,_⟩,⟨ys,e5,_⟩,_⟩:=N
 exact⟨f _ _ e1,f _ _ e2,f _ _ e3,f _ _ e4,f _ _ e5⟩
theorem zkz {α:Type}{l:List α}{j:Nat}{x:α} (h:(evens l)[j]?=some x):l[2 * j]?=some x:=by rw[← zeD];exact h
end
end K04
namespace K04
open PySem L2
theorem zhH {pts:List Pt}{n:Str} (h:n∉pts.map Prod.fst):zco (pts.map zct) (Sum.inr n)=none:=by
 cases ev:zco (pts.map zct) (Sum.inr n) with
 | none=>rfl
 | some x=>
  obtain⟨y,hy,e2⟩:=List.mem_map.mp (zgV ev)
  obtain⟨z,hz,rfl⟩:=List.mem_map.mp hy
  exact absurd (List.mem_map.mpr ⟨z,hz,Sum.inr.inj e2⟩) h
theorem zlR {pts:List Pt}{n:Str}{h:Int} (hn:n∉pts.map Prod.fst) (h1:zaE n=true) (h2:0≤h) (h3:h≤50) (hl:pts.length<20):zaW (pts.map zct) n h=none:=by
 have nh:has (pts.map zct) n=false:=by
  unfold has
  rw[zhH hn]
  rfl
 unfold zaW
 rw[h1,nh,if_neg (by decide),if_neg (by decide),if_neg (by omega),if_neg]
 rw[List.length_map]
 omega
theorem zkA {ws:List Str}{k:Nat}{n:Str} (nd:ws.Nodup) (e:ws[k]?=some n):n∉ws.take k:=by
 rw[← List.take_append_drop (k + 1) ws,zaw e] at nd
 have:=(List.nodup_append.mp (List.nodup_append.mp nd).1).2.2
 exact fun z=>this n z n (List.mem_singleton.mpr rfl) rfl
theorem zlS (ns:List Int):∃ ms:List Int,zfS (ns.map V.int) (some 2) (some 42)=ms.map V.int∧ms.length≤40:=by
 unfold zfS
 have e1:HT.sIx (ns.map V.int).length 0 (some 2)=min 2 (ns.map V.int).length:=HT.zdz _ _ 2
 have e2:HT.sIx (ns.map V.int).length (ns.map V.int).length (some 42)=min 42 (ns.map V.int).length:=HT.zdz _ _ 42
 rw[e1,e2,List.length_map]
 refine⟨(ns.drop (min 2 ns.length)).take (min 42 ns.length - min 2 ns.length),by rw[List.map_take,List.map_drop],?_⟩
 rw[List.length_take]
 omega
theorem nw0 {pts:List Pt} (h1:(pts.map Prod.fst).Nodup) (h2:∀ q∈pts,zaE q.1=true∧0≤q.2∧q.2≤50) (h3:pts.length≤20):Nw pts { emp with kvs:=pts.map zct } 0:=by
 have no:∀ {α:Type}{x:α},¬ x∈([]:List α):=fun h=>by cases h
 exact⟨⟨rfl,h1,h2,fun _ h=>absurd h no,fun _ h=>absurd h no,fun _ h=>absurd h no,h3,Nat.zero_le _,Nat.zero_le _,Nat.zero_le _⟩,List.Pairwise.nil,fun _ h=>absurd h no,Int.le_refl 0,Nat.zero_le _,fun _ h=>absurd h no,fun _ h=>absurd h no,fun _ h=>absurd h no⟩
theorem zgD {pts:List Pt}{v u:zbt}{i:Nat}{b:Bool} (W:Nw pts v i) (M:Mg pts pts.length 40 20 20 (zcc b pts v) u):(zcc b pts v).length≤200:=by
 have:=W.w.l1
 have:=M.ll
 have:=M.la
 have:=M.ls
 have:=M.lm
 omega
theorem neF {x y:V} (h:x=y):(!decide (x=y))=false:=by rw[decide_eq_true h];rfl
def spLaw (K:PySem.W.Frag):Sp:=fun vs H Q _=>∃ (p:Addr) (ns:List Int),vs=[.ref p]∧SqL K H p (ns.map V.int)∧ns.length≤63∧∀ H',Q (.bl true) H'
section
variable {P:Program}{w:World}{K:PySem.W.Frag}{mg:Str→Option Value}{base:Heap}{a:Adr}
set_option maxHeartbeats 8000000 in
theorem ok_law (T:Tx K mg a) (Z:KD P w K a.LINES (zbg a)) (f:Addr) (fd:FuncData) (F:zgG K "law" "law" zjj f fd):zdN P w K mg base CX0 10 f fd ["_law_script"] (spLaw K):=by
 have c__law_cell_at:=zia (P:=P) (w:=w) (base:=base) T
 have c__law_mixed:=zea (P:=P) (w:=w) (base:=base) T
 have c__law_names:=zks (P:=P) (w:=w) (base:=base) T
 have c__law_deed:=zlM (P:=P) (w:=w) (base:=base) T
 have c__law_lines:=zkw (P:=P) (w:=w) (base:=base) T
 have c__law_alike:=zkx (P:=P) (w:=w) (base:=base) T
 have c__law_read_mingled:=ok_rm (P:=P) (w:=w) (base:=base) T Z
 have c_net_text:=zhc (P:=P) (w:=w) (base:=base) T
 have c_read_net:=zeQ (P:=P) (w:=w) (base:=base) T Z
 have i_Net:=zjl (P:=P) (w:=w) (base:=base) T
 have m_Net_put_point:=zkN (P:=P) (w:=w) (base:=base) T
 have m_Net_put_point1:=zlA (P:=P) (w:=w) (base:=base) T
 have m_Net_take_arrow:=zju (P:=P) (w:=w) (base:=base) T
 have m_Net_arrows:=zdq (P:=P) (w:=w) (base:=base) T
 refine F.ok zbU (fun vs H Q E h=>?_) (fun cdv A outer s H vs Q E hr h=>?_)
 ·obtain⟨p,ns,rfl,_⟩:=h
  rfl
 ·obtain⟨p,ns,rfl,hS,hlen,kq⟩:=h
  refine⟨_,(zac (zaG (i:=1) zbU.nd rfl (by first|exact Or.inl rfl|exact Or.inr rfl) (zaD c__law_cell_at (hr.mono (by decide)) rfl (zaa (pv 0) (zaa zai zad))))
   (zac (zaG (i:=2) zbU.nd rfl (by first|exact Or.inl rfl|exact Or.inr rfl) (zaD c__law_names (hr.mono (by decide)) rfl (zaa (pv 1) zad)))
   (zac (zaG (i:=3) zbU.nd rfl (by first|exact Or.inl rfl|exact Or.inr rfl) zde)
   (zac (zaG (i:=4) zbU.nd rfl (by first|exact Or.inl rfl|exact Or.inr rfl) (zhu i_Net (hr.mono (by decide)) rfl))
   (zac (zc9 PassesOwn.never rfl (zbY rfl T.n_enumerate (zaa (pv 2) zad)) (zbW rfl (zaj (zak (i:=5) zbU.nd rfl (by first|exact Or.inl rfl|exact Or.inr rfl)) (zaj (zak (i:=6) zbU.nd rfl (by first|exact Or.inl rfl|exact Or.inr rfl)) zaN))) (zac (zaG (i:=7) zbU.nd rfl (by first|exact Or.inl rfl|exact Or.inr rfl) (zaD c__law_cell_at (hr.mono (by decide)) rfl (zaa (pv 0) (zaa zai zad))))
   (zac (zfp (zcL hr) (pv 3) (pv 6) (za3 zaT (zbE (zaa zai (zaa (zat zbc (zaD c__law_mixed (hr.mono (by decide)) rfl (zaa (pv 7) (zaa (pv 5) zad))) zai) zad))) (zat zbc (zaD c__law_mixed (hr.mono (by decide)) rfl (zaa (pv 7) (zaa (zat zbR zai (pv 5)) zad))) zai) (fun _ _=>rfl)) rfl)
   (zag (zaC (zaK (pv 4) T.c_Net m_Net_put_point za5 (hr.mono (by decide)) (zaa (pv 6) (zaa (zb3 (zcL hr) (pv 3) (pv 6) (fun _ _=>rfl)) zad))))))))
   (zac (zaG (i:=8) zbU.nd rfl (by first|exact Or.inl rfl|exact Or.inr rfl) (zbv (zaa zde (zaa (zbE zad) (zaa (zbE zad) zad)))))
   (zac (zc9 PassesOwn.never rfl (zaS (zcg zfo (pv 0) (zcf zai) (zcf zai))) (zak (i:=7) zbU.nd rfl (by first|exact Or.inl rfl|exact Or.inr rfl)) (zag (zaM (zaq zeU (zar zay rfl T.n_len za6 (zaa (pv 2) zad)) zai (zax _)) (zag (zaC (zaD c__law_deed (hr.mono (by decide)) rfl (zaa (pv 4) (zaa (pv 2) (zaa (pv 8) (zaa (pv 7) zad))))))) zap)))
   (zac (zaG (i:=9) zbU.nd rfl (by first|exact Or.inl rfl|exact Or.inr rfl) (zbN PySem.F.plainAttrs_str PySem.F.slot_str_join PySem.F.type_str_join zdD zav (zaa (zaD c__law_lines (hr.mono (by decide)) rfl (zaa (pv 2) (zaa (pv 3) (zaa (pv 8) (zaa zdZ zad))))) zad)))
   (zac (zaG (i:=10) zbU.nd rfl (by first|exact Or.inl rfl|exact Or.inr rfl) (zaD c_net_text (hr.mono (by decide)) rfl (zaa (pv 4) zad)))
   (zac (zaM (PW.pt (zcZ (zbQ (zbn (zar zci rfl T.n_isinstance zbO (zaa (pv 10) (zaa (zhv rfl T.n_str zcR) zad))))) (zcx (zaq zgO (pv 10) (pv 9) (zax _))))) (zag (zaA zdZ)) zap)
   (zac (zaG (i:=11) zbU.nd rfl (by first|exact Or.inl rfl|exact Or.inr rfl) (zdF c_read_net za5 (hr.mono (by decide)) rfl (zaa (zbN PySem.F.plainAttrs_str PySem.F.slot_str_join PySem.F.type_str_join zdD zav (zaa (zaD c__law_lines (hr.mono (by decide)) rfl (zaa (pv 2) (zaa (pv 3) (zaa (pv 8) (zaa zdZ zad))))) zad)) zad)))
   (zac (zaG (i:=12) zbU.nd rfl (by first|exact Or.inl rfl|exact Or.inr rfl) (zdF c_read_net za5 (hr.mono (by decide)) rfl (zaa (pv 9) zad)))
   (zac (zaM (PW.pt (zcZ (zbQ (zbn (zaD c__law_alike (hr.mono (by decide)) rfl (zaa (pv 12) (zaa (pv 2) (zaa (pv 3) (zaa (pv 8) zad))))))) (zcx (zaq zgO (zaD c_net_text (hr.mono (by decide)) rfl (zaa (pv 12) zad)) (pv 9) (zax _))))) (zag (zaA zdZ)) zap)
   (zac (zaM (PW.pt (zcZ (zbQ (zbn (zaD c__law_alike (hr.mono (by decide)) rfl (zaa (pv 11) (zaa (pv 2) (zaa (pv 3) (zaa (pv 8) zad))))))) (zcx (zaq zgO (zaD c_net_text (hr.mono (by decide)) rfl (zaa (pv 11) zad)) (pv 9) (zax _))))) (zag (zaA zdZ)) zap)
   (zac (zaM (zbQ (zbn (zaD c__law_read_mingled (hr.mono (by decide)) rfl (zaa (pv 2) (zaa (pv 3) (zaa (pv 8) zad)))))) (zag (zaA zdZ)) zap)
   (zac (zaM (zaq zf0 (zar zay rfl T.n_len za6 (zaa (pv 2) zad)) zai (zax _)) (zag (zaC (zaK (pv 12) T.c_Net m_Net_put_point1 za5 (hr.mono (by decide)) (zaa zav zad)))) zap)
   (zac (zc9 PassesOwn.never rfl (zaS (pe_two (za1 (pv 11) T.c_Net m_Net_arrows (hr.mono (by decide))) zai)) (zak (i:=13) zbU.nd rfl (by first|exact Or.inl rfl|exact Or.inr rfl)) (zag (zaC (zaK (pv 11) T.c_Net m_Net_take_arrow za5 (hr.mono (by decide)) (zaa (za3 zcy (pv 13) zai (fun _ _=>rfl)) zad)))))
   (zag (zaA (zee (zbo zd0 (zaD c_net_text (hr.mono (by decide)) rfl (zaa (pv 4) zad)) (pv 9) (zax _)) (zed (zaD c__law_alike (hr.mono (by decide)) rfl (zaa (zdF c_read_net za5 (hr.mono (by decide)) rfl (zaa (pv 9) zad)) (zaa (pv 2) (zaa (pv 3) (zaa (pv 8) zad)))))))))))))))))))))))))),?_⟩
  refine⟨_,rfl,p,ns,0,rfl,hS,by decide,fun c=>?_⟩
  dsimp only[zaI]
  refine⟨_,rfl,c,rfl,fun nm ws H1 s1 hnm w20 wnm wnd=>?_⟩
  dsimp only[zaI]
  refine fun hd nhd=>?_
  have s2:zan H1 (upd H1 hd (.dK [])):=zan.new nhd
  have h2:upd H1 hd (.dK []) hd=some (.dK []):=zab
  generalize upd H1 hd (.dK [])=H2 at s2 h2 ⊢
  refine fun x dx nx ndx nex=>⟨x,dx,rfl,zab,fun r H3 fr fo N3=>⟨rfl,?_⟩⟩
  have s3:zan H2 H3:=fun b o e=>fr b o (by rw[zaf (zae e nx),zaf (zae e ndx)];exact e) (zae e nx)
  have ap:∀ b o,H2 b=some o→Off x r b:=fun b o e=>⟨zae e nx,fo b o (by rw[zaf (zae e nx),zaf (zae e ndx)];exact e)⟩
  have ohd:=ap _ _ h2
  have kpS:∀ {Ha Hb:Hp},zan H1 Ha→Kp x r Ha Hb→zan H1 Hb:=fun {Ha Hb} sa kp b o e=>(ap b o (s2 _ _ e)).kp kp (sa b o e)
  dsimp only[zaI]
  refine⟨_,rfl,nm,rfl,⟨_,SqL.of (s3 _ _ (s2 _ _ hnm))⟩,zfv (K:=K) (l:=nm) (xs:=ws.map V.str) (fun k σ G=>∃ v5 v6 v7 pts,σ=[some (.ref p),some (.int c),some (.ref nm),some (.ref hd),some (.ref x),v5,v6,v7,none,none,none,none,none,none]∧zan H1 G∧G hd=some (.dK ((pts:List Pt).map zct))∧za4 K a.Net G x r { emp with kvs:=pts.map zct }∧pts.map Prod.fst=ws.take k∧∀ q∈pts,0≤q.2∧q.2≤50) ⟨none,none,none,[],rfl,s2.trans s3,s3 _ _ h2,N3,rfl,fun q hq=>(by cases hq)⟩ ?_ ?_ ?_⟩
  ·rintro k σ G _ ⟨_,_,_,_,rfl,sg,_⟩
   exact SqL.of (sg _ _ hnm)
  ·rintro k y te σ G hy nte ⟨v5,v6,v7,pts,rfl,sg,hhd,N,ep,eb⟩
   obtain⟨n,en,rfl⟩:=zbB hy
   have hk:k<ws.length:=(List.getElem?_eq_some_iff.mp en).1
   have nn:=wnm n (List.mem_of_getElem? en)
   have pl:pts.length=k:=by
    have:=congrArg List.length ep
    rw[List.length_map,List.length_take] at this
    omega
   have nw:n∉pts.map Prod.fst:=by rw[ep];exact zkA wnd en
   have st:zan G (upd G te (.tup [.int (k:Int),.str n])):=zan.new nte
   have hte:SqT K (upd G te (.tup [.int (k:Int),.str n])) te [.int (k:Int),.str n]:=SqT.of zab
   generalize upd G te (.tup [.int (k:Int),.str n])=G1 at st hte ⊢
   refine⟨te,_,rfl,hte,rfl,_,_,rfl,_,_,rfl,rfl,?_⟩
   dsimp only[zaI]
   have S1:=sg.trans st
   refine⟨_,rfl,p,ns,1,rfl,(s1.trans S1).sqL hS,by decide,fun c1=>?_⟩
   dsimp only[zaI]
   have x0:0≤zbl c1 (k:Int) % 51:=Int.emod_nonneg _ (by decide)
   have x1:zbl c1 (k:Int) % 51<51:=Int.emod_lt_of_pos _ (by decide)
   have y0:0≤zbl c1 (30 + (k:Int)) % 2:=Int.emod_nonneg _ (by decide)
   have y1:zbl c1 (30 + (k:Int)) % 2<2:=Int.emod_lt_of_pos _ (by decide)
   refine⟨_,rfl,_,rfl,c1,(k:Int),rfl,_,_,rfl,rfl,(by show(0:Int)<51;decide),(by show 2≤sizeLine;decide),fun tw ntw=>?_⟩
   dsimp only
   generalize zbl c1 (k:Int) % 51=m51 at x0 x1 ⊢
   have s4:zan G1 (upd G1 tw (.lst [.int 0,.int m51])):=zan.new ntw
   have h4:upd G1 tw (.lst [.int 0,.int m51]) tw=some (.lst [.int 0,.int m51]):=zab
   generalize upd G1 tw (.lst [.int 0,.int m51])=G4 at s4 h4 ⊢
   obtain⟨hh,at1,hor⟩:=at2 (x:=0) (y:=m51) y0 y1
   have hh0:0≤hh∧hh≤50:=by rcases hor with e|e <;> omega
   refine⟨_,rfl,_,rfl,_,_,rfl,rfl,c1,30 + (k:Int),rfl,_,_,rfl,rfl,(by show(0:Int)<2;decide),tw,_,_,_,rfl,rfl,SqL.of h4,at1,?_⟩
   have S4:=S1.trans s4
   have hhd4:=s4 _ _ (st _ _ hhd)
   refine⟨_,rfl,_,rfl,hd,_,rfl,zkG.k (k:=Sum.inr n) hhd4 (by rw[List.length_map,sizeLine_eq];omega),?_⟩
   rw[zd4 _ (zhH nw),show pts.map zct++[(Sum.inr n,V.int hh)]=(pts++[(n,hh)]).map zct by rw[List.map_append];rfl]
   have N4:=((N.same st).same s4).upd ohd hhd4 (o':=.dK ((pts++[(n,hh)]).map zct)) rfl
   have S5:zan H1 (upd G4 hd (.dK ((pts++[(n,hh)]).map zct))):=zaF nhd S4
   have h5:upd G4 hd (.dK ((pts++[(n,hh)]).map zct)) hd=some (.dK ((pts++[(n,hh)]).map zct)):=zab
   generalize upd G4 hd (.dK ((pts++[(n,hh)]).map zct))=G5 at N4 S5 h5 ⊢
   have nd2:((pts++[(n,hh)]).map Prod.fst).Nodup:=by
    rw[List.map_append,ep]
    show(ws.take k++[n]).Nodup
    rw[← zaw en]
    exact wnd.sublist (List.take_sublist _ _)
   obtain⟨dx5,hp5⟩:=N4.ex
   have pe:=zlR nw nn.1 hh0.1 hh0.2 (by omega)
   refine⟨_,rfl,x,dx5,_,rfl,hp5,by rfl,_,rfl,_,rfl,_,rfl,hd,_,rfl,zeS nd2 h5 (List.mem_append_right _ (List.mem_singleton.mpr rfl)),x,r,_,n,hh,rfl,by have:=nn.2;omega,N4,by show(pts.map zct).length≤1000;rw[List.length_map];omega,fun er he=>(by rw[show zaW (pts.map zct) n hh=none from pe] at he;cases he),fun _ G6 kp6 N6=>?_⟩
   refine⟨_,_,_,pts++[(n,hh)],rfl,kpS S5 kp6,ohd.kp kp6 h5,by rw[List.map_append];exact N6,?_,fun q hq=>?_⟩
   ·rw[zaw en,List.map_append,ep]
    rfl
   ·rcases List.mem_append.mp hq with hq|hq
    ·exact eb q hq
    ·rw[List.mem_singleton.mp hq]
     exact hh0
  ·rintro σ G ⟨v5,v6,v7,pts,rfl,sg,hhd,N,ep,eb⟩
   rw[List.length_map,List.take_length] at ep
   have pl:pts.length=ws.length:=by rw[← ep,List.length_map]
   have W0:=nw0 (pts:=pts) (by rw[ep];exact wnd) (fun q hq=>⟨(wnm q.1 (by rw[← ep];exact List.mem_map_of_mem hq)).1,eb q hq⟩) (by omega)
   have h7:∀ q∈pts,q.1.length≤7:=fun q hq=>(wnm q.1 (by rw[← ep];exact List.mem_map_of_mem hq)).2
   have hnmG:=sg _ _ hnm
   rw[← ep] at hnmG
   refine fun d nd_=>?_
   have z1:zan G (upd G d (.dK [])):=zan.new nd_
   have y1:upd G d (.dK []) d=some (.dK []):=zab
   generalize upd G d (.dK [])=G1 at z1 y1 ⊢
   refine⟨(by show 0≤sizeLine;decide),fun l nl_=>?_⟩
   have z2:zan G1 (upd G1 l (.lst [])):=zan.new nl_
   have y2:upd G1 l (.lst []) l=some (.lst []):=zab
   generalize upd G1 l (.lst [])=G2 at z2 y2 ⊢
   refine⟨(by show 0≤sizeLine;decide),fun m nm_=>?_⟩
   have z3:zan G2 (upd G2 m (.lst [])):=zan.new nm_
   have y3:upd G2 m (.lst []) m=some (.lst []):=zab
   generalize upd G2 m (.lst [])=G3 at z3 y3 ⊢
   refine⟨(by show 3≤sizeLine;decide),fun t nt_=>?_⟩
   have z4:zan G3 (upd G3 t (.tup [.ref d,.ref l,.ref m])):=zan.new nt_
   have y4:SqT K (upd G3 t (.tup [.ref d,.ref l,.ref m])) t [.ref d,.ref l,.ref m]:=SqT.of zab
   generalize upd G3 t (.tup [.ref d,.ref l,.ref m])=G4 at z4 y4 ⊢
   have z12:=z1.trans z2
   have zG:=z12.trans (z3.trans z4)
   have nlG:=zbf z1 nl_
   have nmG:=zbf z12 nm_
   dsimp only[zaI]
   obtain⟨ms,ems,lms⟩:=zlS ns
   refine⟨_,rfl,_,rfl,_,rfl,p,_,rfl,(s1.trans (sg.trans zG)).sqL hS,fun cl ncl=>?_⟩
   rw[ems]
   have z5:zan G4 (upd G4 cl (.lst (ms.map V.int))):=zan.new ncl
   have y5:upd G4 cl (.lst (ms.map V.int)) cl=some (.lst (ms.map V.int)):=zab
   generalize upd G4 cl (.lst (ms.map V.int))=G5 at z5 y5 ⊢
   have zG5:=zG.trans z5
   have N5:=N.same zG5
   have od:=Off.of N nd_
   have ol:=Off.of N nlG
   have om:=Off.of N nmG
   have onm:Off x r nm:=ap _ _ (s2 _ _ hnm)
   have ocl:Off x r cl:=Off.of (N.same zG) ncl
   have K5:zfU K G5 d l m { emp with kvs:=pts.map zct }:=⟨⟨[],z5 _ _ (z4 _ _ (z3 _ _ (z2 _ _ y1))),rfl⟩,⟨[],z5 _ _ (z4 _ _ (z3 _ _ y2)),rfl⟩,⟨[],z5 _ _ (z4 _ _ y3),rfl⟩,zae y2 nm_⟩
   have nmd:=zae hnmG nd_
   have nml:=zae hnmG nlG
   have nmm:=zae hnmG nmG
   have hdd:=zae hhd nd_
   have hdl:=zae hhd nlG
   have hdm:=zae hhd nmG
   have cld:cl≠d:=Ne.symm (zae (z4 _ _ (z3 _ _ (z2 _ _ y1))) ncl)
   have cll:cl≠l:=Ne.symm (zae (z4 _ _ (z3 _ _ y2)) ncl)
   have clm:cl≠m:=Ne.symm (zae (z4 _ _ y3) ncl)
   refine⟨cl,rfl,⟨_,SqL.of y5⟩,zcI (K:=K) (a:=cl) (xs:=ms.map V.int) (fun j σ G'=>∃ v7 v,σ=[some (.ref p),some (.int c),some (.ref nm),some (.ref hd),some (.ref x),v5,v6,v7,some (.ref t),none,none,none,none,none]∧KpA x r d l m G5 G'∧Tk G5 G'∧za4 K a.Net G' x r v∧zfU K G' d l m v∧Nw pts v j) ⟨_,_,rfl,KpA.of fun _ _ e=>e,Tk.of fun _ _ e=>e,N5,K5,W0⟩ ?_ ?_ ?_⟩
   ·rintro j σ G' _ ⟨_,_,rfl,ka,_⟩
    exact SqL.of (ka _ _ y5 ocl cld cll clm)
   ·rintro j y σ G' hy ⟨v7,v,rfl,ka,tk,N',K',W⟩
    obtain⟨cc,hcc,rfl⟩:=zeb hy
    have hj:j<ms.length:=(List.getElem?_eq_some_iff.mp hcc).1
    have hnm':=ka _ _ (zG5 _ _ hnmG) onm nmd nml nmm
    dsimp only[zaI]
    refine⟨_,rfl,nm,_,rfl,.inl (SqL.of hnm'),_,_,rfl,rfl,_,rfl,?_⟩
    refine zbA (fun c2=>?_) (fun c2=>?_)
    ·have c2:(1:Int)<(((pts.map Prod.fst).map V.str).length:Int):=of_decide_eq_true c2
     rw[List.length_map,List.length_map] at c2
     refine⟨_,rfl,_,rfl,_,rfl,_,rfl,x,r,v,nm,t,d,l,m,pts,j,cc,rfl,hnm',by omega,N',tk.sqT (z5.sqT y4),K',W,by omega,od,ol,om,onm,nmd,nml,nmm,fun v' H' ka' tk' N'' K'' W'=>?_⟩
     exact⟨_,v',rfl,ka.trans ka',tk.trans tk',N'',K'',W'⟩
    ·exact⟨_,v,rfl,ka,tk,N',K',W.up⟩
   ·rintro σ G6 ⟨v7,v,rfl,ka,tk,N6,K6,W⟩
    have hnm6:=ka _ _ (zG5 _ _ hnmG) onm nmd nml nmm
    have hhd6:=ka _ _ (zG5 _ _ hhd) ohd hdd hdl hdm
    have ht6:=tk.sqT (z5.sqT y4)
    generalize (ms.map V.int).length=i at W
    clear ka tk
    obtain⟨u1,M1,U1⟩:=zjO W true
    obtain⟨u0,M0,U0⟩:=zjO W false
    have LT:=zgD W M1
    have LF:=zgD W M0
    refine⟨rfl,_,rfl,_,rfl,_,rfl,nm,hd,t,d,l,m,pts,v,i,true,rfl,hnm6,hhd6,ht6,K6,W,fun q1 H7 s7 nq1 hq1=>?_⟩
    refine⟨_,q1,(zcc true pts v).map Ln.text,rfl,rfl,SqL.of hq1,zd8 M1.R.all LT,?_⟩
    dsimp only[zaI]
    refine⟨_,rfl,x,r,v,pts,rfl,N6.same s7,W.w,fun H8 s8=>?_⟩
    dsimp only[zaI]
    have S8:=s7.trans s8
    refine⟨_,rfl,_,_,_,_,_,rfl,rfl,.str _,T.kb_str_str,_,rfl,zb6 rfl ?_⟩
    refine⟨_,rfl,_,rfl,rfl,_,rfl,zb6 (neF rfl) ?_⟩
    refine⟨rfl,_,rfl,_,rfl,_,rfl,nm,hd,t,d,l,m,pts,v,i,false,rfl,S8 _ _ hnm6,S8 _ _ hhd6,S8.sqT ht6,K6.same S8,W,fun q2 H9 s9 nq2 hq2=>?_⟩
    have S9:=S8.trans s9
    refine⟨_,q2,(zcc false pts v).map Ln.text,rfl,rfl,SqL.of hq2,zd8 M0.R.all LF,zcc false pts v,rfl,M0.R,LF,fun y ry H10 s10 apy Ny=>?_⟩
    rw[M0.run] at Ny
    dsimp only[zaI]
    refine⟨_,rfl,zcc true pts v,rfl,M1.R,LT,fun z rz H11 s11 apz Nz=>?_⟩
    rw[M1.run] at Nz
    dsimp only[zaI]
    have S11:=S9.trans (s10.trans s11)
    refine⟨_,rfl,_,rfl,_,rfl,_,rfl,z,rz,u1,nm,hd,t,d,l,m,pts,v,i,rfl,Nz,S11 _ _ hnm6,S11 _ _ hhd6,S11.sqT ht6,K6.same S11,W,U1,fun H12 s12=>⟨_,rfl,zb6 rfl ?_⟩⟩
    refine⟨_,rfl,z,rz,u1,pts,rfl,Nz.same s12,U1.w W,fun H13 s13=>⟨_,rfl,rfl,_,rfl,zb6 (neF (by rw[U1.bare];rfl)) ?_⟩⟩
    have s1013:=s11.trans (s12.trans s13)
    have S13:=S9.trans (s10.trans s1013)
    refine⟨_,rfl,_,rfl,_,rfl,_,rfl,y,ry,u0,nm,hd,t,d,l,m,pts,v,i,rfl,Ny.same s1013,S13 _ _ hnm6,S13 _ _ hhd6,S13.sqT ht6,K6.same S13,W,U0,fun H14 s14=>⟨_,rfl,zb6 rfl ?_⟩⟩
    refine⟨_,rfl,y,ry,u0,pts,rfl,Ny.same (s1013.trans s14),U0.w W,fun H15 s15=>⟨_,rfl,rfl,_,rfl,zb6 (neF (by rw[U0.bare];rfl)) ?_⟩⟩
    have S15:=S13.trans (s14.trans s15)
    refine⟨_,rfl,_,rfl,_,rfl,nm,hd,t,d,l,m,pts,v,i,rfl,S15 _ _ hnm6,S15 _ _ hhd6,S15.sqT ht6,K6.same S15,W,fun H16 s16=>⟨_,rfl,zb6 rfl ?_⟩⟩
    have s1116:=s12.trans (s13.trans (s14.trans (s15.trans s16)))
    have s1016:=s11.trans s1116
    apply join (I:=fun H'=>zan H10 H')
    case g=>
     intro zbx
     have N16:=Nz.same s1116
     obtain⟨dxz,hpz⟩:=N16.ex
     refine⟨_,rfl,nm,_,rfl,.inl (SqL.of ((S9.trans (s10.trans s1016)) _ _ hnm6)),_,_,rfl,rfl,_,rfl,?_⟩
     refine zbA (fun c3=>?_) (fun c3=>?_)
     ·have c3:(((pts.map Prod.fst).map V.str).length:Int)<20:=of_decide_eq_true c3
      rw[List.length_map,List.length_map] at c3
      have pe:=zz_ok U1 (by omega) h7
      refine⟨_,rfl,z,dxz,_,rfl,hpz,by rfl,z,rz,u1,zz,0,rfl,by rw[zhl.2];decide,N16,by rw[U1.kv,List.length_map];omega,fun er he=>(by rw[pe] at he;cases he),fun _ H' kp _=>?_⟩
      exact zbx H' (apz.kp s1016 kp)
     ·exact zbx H16 s1016
    case h=>
     intro H17 s17
     have Ny17:=Ny.same s17
     obtain⟨dxy,hpy⟩:=Ny17.ex
     have l2:=W.w.l2
     refine⟨_,rfl,y,dxy,_,rfl,hpy,by rfl,y,ry,u0,rfl,Ny17,by rw[List.length_map,U0.ar,zcd];omega,fun l5 H18 xs5 s18 n5 h5 d5 _=>?_⟩
     refine⟨l5,xs5,rfl,rfl,SqL.of h5,fun rl nrl=>?_⟩
     have s19:zan H18 (upd H18 rl (.lst (evens xs5))):=zan.new nrl
     have h19:upd H18 rl (.lst (evens xs5)) rl=some (.lst (evens xs5)):=zab
     have orl:Off y ry rl:=Off.of (Ny17.same s18) nrl
     generalize upd H18 rl (.lst (evens xs5))=H19 at s19 h19 ⊢
     have Ny19:=Ny17.same (s18.trans s19)
     have S19:zan H9 H19:=s10.trans (s17.trans (s18.trans s19))
     refine⟨rl,rfl,⟨_,SqL.of h19⟩,zcI (K:=K) (a:=rl) (xs:=evens xs5) (fun j σ G'=>∃ v13 uj,σ=[some (.ref p),some (.int c),some (.ref nm),some (.ref hd),some (.ref x),v5,v6,v7,some (.ref t),some (.str (zcs (zcc true pts v))),some (.str (zcs (zfO pts v))),some (.ref y),some (.ref z),v13]∧zan H9 G'∧Tk H18 G'∧G' rl=some (.lst (evens xs5))∧za4 K a.Net G' y ry uj∧Lft u0.arr (2 * j) uj) ⟨none,u0,rfl,S19,Tk.of s19,h19,Ny19,fun q hq _=>hq⟩ ?_ ?_ ?_⟩
     ·rintro j σ G' _ ⟨_,_,rfl,_,_,hrl,_⟩
      exact SqL.of hrl
     ·rintro j y' σ G' hy ⟨v13,uj,rfl,SG,tk,hrl,NG,lf⟩
      obtain⟨q,eq,dq⟩:=zbS d5 (zkz hy)
      obtain⟨tx,rfl,htx⟩:=un_ar dq
      have eq':=eq
      rw[U0.ar] at eq'
      have qn:=zgC eq'
      have qn:q.num=((2 * j:Nat):Int):=by omega
      have hs:=lf.has (List.mem_of_getElem? eq) qn
      obtain⟨dxg,hpg⟩:=NG.ex
      dsimp only[zaI]
      refine⟨_,rfl,y,dxg,_,rfl,hpg,by rfl,_,rfl,tx,_,0,_,rfl,rfl,tk.sqT htx,rfl,y,ry,uj,q.num,rfl,NG,fun _ H' kp N'=>?_,fun hf=>(by rw[hs] at hf;cases hf)⟩
      refine⟨_,_,rfl,apy.kp SG kp,tk.trans (kp.tk NG),orl.kp kp hrl,N',?_⟩
      rw[qn]
      exact lf.take (by omega)
     ·rintro σ G' ⟨v13,uj,rfl,SG,_⟩
      have SF:=S9.trans SG
      refine⟨_,rfl,x,r,v,pts,rfl,N6.same SF,W.w,fun H20 s20=>?_⟩
      refine⟨_,rfl,rfl,_,rfl,zgn (decide_eq_true rfl) ?_⟩
      have S20:=SF.trans s20
      refine⟨_,rfl,zcc true pts v,rfl,M1.R,LT,fun z2 rz2 H21 s21 ap2 Nz2=>?_⟩
      rw[M1.run] at Nz2
      have S21:=S20.trans s21
      exact⟨_,rfl,_,rfl,_,rfl,z2,rz2,u1,nm,hd,t,d,l,m,pts,v,i,rfl,Nz2,S21 _ _ hnm6,S21 _ _ hhd6,S21.sqT ht6,K6.same S21,W,U1,fun H22 s22=>kq H22⟩
end
end K04
namespace K04
open PySem L2
theorem zjP {K:PySem.W.Frag}{p:Addr}{od:Option Addr}{sl:Array (Option Value)}{n:Nat} (h:K.lookup p=some ⟨.type "tuple",od,.seq #[] n,sl⟩):∀ H,SqT K H p []:=fun _=>.inr ⟨_,_,_,h,rfl,rfl,(by show 0≤sizeLine;decide),.nil⟩
theorem zjQ {K:PySem.W.Frag}{p:Addr}{od:Option Addr}{sl:Array (Option Value)}{n:Nat}{i0:Int}{t0:Tok} (h:K.lookup p=some ⟨.type "tuple",od,.seq #[.int i0 t0] n,sl⟩):∀ H,SqT K H p [.int i0]:=fun _=>.inr ⟨_,_,_,h,rfl,rfl,(by show 1≤sizeLine;decide),.cons ⟨_,rfl⟩ (.nil)⟩
theorem zhI {K:PySem.W.Frag}{p:Addr}{od:Option Addr}{sl:Array (Option Value)}{n:Nat}{i0:Int}{t0:Tok}{i1:Int}{t1:Tok} (h:K.lookup p=some ⟨.type "tuple",od,.seq #[.int i0 t0,.int i1 t1] n,sl⟩):∀ H,SqT K H p [.int i0,.int i1]:=fun _=>.inr ⟨_,_,_,h,rfl,rfl,(by show 2≤sizeLine;decide),.cons ⟨_,rfl⟩ (.cons ⟨_,rfl⟩ (.nil))⟩
theorem zgE {K:PySem.W.Frag}{p:Addr}{od:Option Addr}{sl:Array (Option Value)}{n:Nat}{i0:Int}{t0:Tok}{i1:Int}{t1:Tok}{i2:Addr} (h:K.lookup p=some ⟨.type "tuple",od,.seq #[.int i0 t0,.int i1 t1,.ref i2] n,sl⟩):∀ H,SqT K H p [.int i0,.int i1,.ref i2]:=fun _=>.inr ⟨_,_,_,h,rfl,rfl,(by show 3≤sizeLine;decide),.cons ⟨_,rfl⟩ (.cons ⟨_,rfl⟩ (.cons rfl (.nil)))⟩
theorem kd4_mk {pr:Program}{w:World}{K:PySem.W.Frag}{p:Addr}{ep:Nat}{k0:Str}{t0:Tok}{p0:Addr}{k1:Str}{t1:Tok}{p1:Addr}{k2:Str}{t2:Tok}{p2:Addr}{k3:Str}{t3:Tok}{p3:Addr} (h:K.lookup p=some ⟨.type "dict",none,.dict #[⟨keyH w (Sum.inr k0),.str k0 t0,.ref p0⟩,⟨keyH w (Sum.inr k1),.str k1 t1,.ref p1⟩,⟨keyH w (Sum.inr k2),.str k2 t2,.ref p2⟩,⟨keyH w (Sum.inr k3),.str k3 t3,.ref p3⟩] ep,#[]⟩) (hs:(p == sysModules)=false) (hn:[(Sum.inr k0:Key),(Sum.inr k1:Key),(Sum.inr k2:Key),(Sum.inr k3:Key)].Nodup):KD pr w K p [(Sum.inr k0,.ref p0),(Sum.inr k1,.ref p1),(Sum.inr k2,.ref p2),(Sum.inr k3,.ref p3)]:=by
 refine⟨hs,[(Sum.inr k0,.ref p0),(Sum.inr k1,.ref p1),(Sum.inr k2,.ref p2),(Sum.inr k3,.ref p3)],.cons ⟨rfl,rfl⟩ (.cons ⟨rfl,rfl⟩ (.cons ⟨rfl,rfl⟩ (.cons ⟨rfl,rfl⟩ (.nil)))),_,h,_,_,⟨rfl,rfl,rfl⟩,rfl,fun e he=>?_,.cons ki rfl (.cons ki rfl (.cons ki rfl (.cons ki rfl (.nil)))),hn⟩
 simp only[List.mem_toArray,List.mem_cons,List.not_mem_nil,or_false] at he
 rcases he with rfl|rfl|rfl|rfl <;> exact⟨_,ki,rfl⟩
set_option maxHeartbeats 4000000 in
theorem all_mk {l:PySem.W.OpenLaw}{w:World}{K:PySem.W.Frag}{h:Heap}{mg:Str→Option Value}{fa f:Addr}{TS:List Addr}{q0 q1 q2 q3 q4 q5 q6 q7 q8 q9 q10 q11 q12 q13 q14 q15 q16 q17 q18:Addr}{oc:Value}{od an:Option Addr}{osl:Array (Option Value)}{kV doc pm cdv ct:Value} (X:K.In h) (G:h.Ns mainGlobals mg) (hfa:mg "law"=some (.ref fa)) (gl0:PySem.W.nsIn K mainGlobals "LINES"=some (some (.ref q10))) (kz0:KD l.prog w K q10 [(Sum.inr "point",.ref q12),(Sum.inr "arrow",.ref q14),(Sum.inr "same",.ref q16),(Sum.inr "most",.ref q18)]) (T:Tx K mg ⟨q0,q1,q2,q3,q4,q5,q6,q7,q8,q9,q10,q11,q12,q13,q14,q15,q16,q17,q18⟩) (al:PySem.W.nsIn K mainGlobals "law"=some (some (.ref f))) (ll:K.lookup f=some ⟨oc,od,.func (fnN "law" "law" zjj kV doc pm an cdv ct),osl⟩) (cl:PySem.W.codeIn K cdv "law"=true) (hnd:([]:List Addr).Nodup) :
  ∃ (fd:FuncData) (ts:List Tab) (sp:Sp),(∀ (s:Shared) (u:Value),BindsTo s fd ⟨[u],[]⟩ [("_law_script",u)])∧(ts.map (·.1)).Nodup∧(∀ t∈ts,t.1∈TS∧(∃ c,PySem.W.codeHdIn K c t.1=true)∧K.lookup t.1=none) ∧
    (∀ (H:Hp) (a:Addr) (ns:List Int),ns.length≤63→zjd ts H→SqL K H a (ns.map V.int)→sp [.ref a] H (fun v _=>v=.bl true) fun _ _ _=>False) ∧
    ∀ base:Heap,K.In base→base.Ns mainGlobals mg→zdN l.prog w K mg base CX0 10 fa fd ["_law_script"] sp:=by
 have e:=hfa.symm.trans (PySem.W.mg_of X G al)
 cases e
 refine⟨_,[],spLaw K,fun s v=>.of_eq rfl,hnd,?_,?_,fun base _ _=>ok_law T kz0 _ _ (zdE (st:=zjj) ll cl)⟩
 ·intro t ht
  cases ht
 ·exact fun H p ns hl hO hS=>⟨p,ns,rfl,hS,hl,fun _=>rfl⟩
theorem walk {l:PySem.W.OpenLaw}{q:Program}{loose:List Str}{XP:(Str→Option Value)→Heap→Prop}{YP:World→Heap→Prop}{d:DefRec}{K:Params→PySem.W.Frag}{TS:List Addr} (hn:l.most=some 63) (hdf:d.params.defaults=[])
  (hY:∀ (w:World) (h:Heap),YP w h→(K w.params).In h∧∀ P∈TS,h.get? P=some (PySem.W.tabObj #[]))
  (F:∀ (w:World) (mg:Str→Option Value) (fa:Addr) (h:Heap),(K w.params).In h→h.Ns mainGlobals mg→mg d.name=some (.ref fa)→∃ (fd:FuncData) (ts:List Tab) (sp:Sp),(∀ (s:Shared) (u:Value),BindsTo s fd ⟨[u],[]⟩ [("_law_script",u)])∧(ts.map (·.1)).Nodup∧(∀ t∈ts,t.1∈TS∧(∃ c,PySem.W.codeHdIn (K w.params) c t.1=true)∧(K w.params).lookup t.1=none) ∧
    (∀ (H:Hp) (a:Addr) (ns:List Int),ns.length≤63→zjd ts H→SqL (K w.params) H a (ns.map V.int)→sp [.ref a] H (fun v _=>v=.bl true) fun _ _ _=>False) ∧
    ∀ base:Heap,(K w.params).In base→base.Ns mainGlobals mg→zdN l.prog w (K w.params) mg base CX0 10 fa fd ["_law_script"] sp) :
  PySem.W.WalkO q loose XP YP l.row.toRowW d [] (fun f vs=>PySem.call f vs):=
 L2.zkd (n:=63) (k:=10) (x:="_law_script") hn (by decide) hdf ⟨by decide,by decide⟩ hY F
end K04
namespace PySem.W.Fast
def tw2142294900462719189:=()
def tw5343290844906297776:=()
def tw2722983330508535822:=()
def tw9888957868773715541:=()
def tw5200694409740265414:=()
def tw6330176997203964163:=()
def tw17328258964313665975:=()
def tw8591933638589554693:=()
def tw139082172122533344:=()
def tw2299097225403191641:=()
def tw3600762087293789120:=()
def tw12701994284948627910:=()
def tw12523704751077099307:=()
def tw15754432025067231557:=()
def tw7676942774605453385:=()
def tw6968137035933120766:=()
def tw5452202398244534588:=()
def tw5046598012241368615:=()
def tw17305077245597378696:=()
def tw11379497279383444051:=()
def tw2674706688578453081:=()
def tw7352699080003774127:=()
def tw16374061609401467883:=()
def tw12550181485849443045:=()
def tw12160953293386625683:=()
def tw7832430473370489497:=()
def tw9348049150731843933:=()
def tw10561487050491318728:=()
def tw6157484696994948570:=()
def tw15881708187639835051:=()
def tw18215155720217773105:=()
def tw1424961715412133632:=()
def tw13144965815105726074:=()
end PySem.W.Fast
open PySem PySem.W PyProof.Rows
set_option maxRecDepth 100000 in
set_option maxHeartbeats 0 in
theorem PySem.Challenge.cw_layerdraw_k04_written_and_read_holds : PySem.Challenge.rw_layerdraw_k04_written_and_read.Holds := by
 w_on;o_law;k_head;(case hw=>w_witness2)
 k_fill
 refine K04.walk (l:=PySem.Challenge.rw_layerdraw_k04_written_and_read) (TS:=[]) rfl rfl (fun w h Y=>⟨PySem.W.kIn_of Y,fun _ hP=>nomatch hP⟩) ?F
 case F=>
  intro w mg fa h KX G hmg
  refine' K04.all_mk KX G hmg ?gl0 ?kz0 ?T ?al ?ll ?cl ?hnd
  case gl0=>k_is
  case kz0=>(refine' K04.kd4_mk ?u0 ?u2 ?u3;(case u0=>k_is);(case u2=>first|k_is|kit_is|kernel_rfl|rfl);(case u3=>decide))
  case T=>
   constructor
   any_goals dsimp only
   any_goals first|k_is|kit_is|(refine' PySem.W.mg_of KX G ?_;k_is)|(refine' PySem.W.mg_none_of KX G ?_;k_is)|(refine' L2.int_mk KX G ?_;any_goals first|k_is|kit_is|kernel_rfl|rfl)|(refine' L2.str_mk KX G ?_;any_goals first|k_is|kit_is|kernel_rfl|rfl)|(unfold L2.zcm;k_is)|(refine' K04.zjP ?u0;(case u0=>k_is))|(refine' K04.zjQ ?u0;(case u0=>k_is))|(refine' K04.zhI ?u0;(case u0=>k_is))|(refine' K04.zgE ?u0;(case u0=>k_is))|((first|refine' L2.zg1 ?u0 ?u1 ?u2 ?u3 ?u4 ?u5 .nil ?u7|refine' L2.zg1 ?u0 ?u1 ?u2 ?u3 ?u4 ?u5 L2.vals1i ?u7|refine' L2.zg1 ?u0 ?u1 ?u2 ?u3 ?u4 ?u5 L2.vals2i ?u7);(case u0=>k_is);(case u1=>first|k_is|kit_is|kernel_rfl|rfl);(case u2=>first|k_is|kit_is|kernel_rfl|rfl);(case u3=>first|k_is|kit_is|kernel_rfl|rfl);(case u4=>first|k_is|kit_is|kernel_rfl|rfl);(case u5=>first|k_is|kit_is|kernel_rfl|rfl);(case u7=>intro td s us KI hl;first|(have h9:us.length=2:=(by simpa using hl);clear hl;revert us;exact L2.len2 fun _ _=>PySem.W.binds_K KI rfl td rfl rfl rfl)|(have h9:us.length=3:=(by simpa using hl);clear hl;revert us;exact L2.len3 fun _ _ _=>PySem.W.binds_K KI rfl td rfl rfl rfl)|(have h9:us.length=4:=(by simpa using hl);clear hl;revert us;exact L2.len4 fun _ _ _ _=>PySem.W.binds_K KI rfl td rfl rfl rfl)|(have h9:us.length=5:=(by simpa using hl);clear hl;revert us;exact L2.len5 fun _ _ _ _ _=>PySem.W.binds_K KI rfl td rfl rfl rfl)))|((first|refine' L2.def_mk KX G ?_ ?_ ?_ ?_ ?_|refine' L2.met_mk ?_ ?_ ?_ ?_ ?_ ?_|refine' L2.ini_mk KX G ?_ ?_ ?_ ?_ ?_ ?_ ?_ ?_|refine' L2.zlq KX G ?_ ?_ ?_ ?_ ?_ ?_ ?_ ?_);any_goals (first|k_is|kit_is|kernel_rfl|exact L2.len1 fun _=>rfl|exact L2.len2 fun _ _=>rfl|exact L2.len3 fun _ _ _=>rfl|exact L2.len4 fun _ _ _ _=>rfl);done)|(refine' L2.lam_mk KX G ?u0 ?u1 ?u2 ?u3 ?u4 ?u5 ?u6;(case u0=>first|k_is|kit_is|kernel_rfl|rfl);(case u1=>first|k_is|kit_is|kernel_rfl|rfl);(case u2=>rfl);(case u3=>first|k_is|kit_is|kernel_rfl|rfl);(case u4=>rfl);(case u5=>first|k_is|kit_is|kernel_rfl|rfl);(case u6=>first|k_is|kit_is|kernel_rfl|rfl))|(constructor <;> first|k_is|kit_is|kernel_rfl|rfl)
   any_goals first|(refine' K04.zjP ?u0;(case u0=>k_is))|(refine' K04.zjQ ?u0;(case u0=>k_is))|(refine' K04.zhI ?u0;(case u0=>k_is))|(refine' K04.zgE ?u0;(case u0=>k_is))
  any_goals first|k_is|kit_is|exact List.mem_cons_self|(simp;done)|decide
