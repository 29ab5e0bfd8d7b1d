import PyProof.Rows.All
import Wide.All
import OpenK.AllK
import Wide.FinOn
import Lean
import PyProof.EqAt
import PyProof.EqKinds
import PyProof.TupleCall
import PyProof.NeKinds
import PySem.Challenge.RW_layerdraw_k62_gaps_and_costs
set_option Elab.async false
set_option linter.all false
set_option maxRecDepth 100000
/-! ### loops end, tuples open, errors are raised while an exception is handled, too -/
namespace L2
open PySem PySem.Spec PyProof.Rows
theorem entry_unchain : entryFor table "proto.unchain" = some Builtin.«proto.unchain» := entryFor_of_tree (by kernel_rfl)
/-- the contexts of exceptions, from one to the next, to the last, which has none -/
def nxt (cs : List Addr) (j : Nat) : Value := match cs[j]? with | none => Value.none | some b => Value.ref b
def Chn (h : Heap) (cs : List Addr) : Prop := cs.Nodup ∧ ∀ j a, cs[j]? = some a → ∃ o vs, h.get? a = some o ∧ o.data = .fields vs ∧ vs[2]? = some (nxt cs (j + 1))
/-- nothing is handled, or an exception whose contexts end -/
def Hd (A : Around) (h : Heap) : Prop := A.handled = none ∨ ∃ a cs, A.handled = some (.ref a) ∧ Chn h (a :: cs)
theorem Hd.keeps {A : Around} {h h' : Heap} (x : Hd A h) (k : ∀ b o, h.get? b = some o → h'.get? b = some o) : Hd A h' := by
  rcases x with e | ⟨a, cs, e, nd, c⟩
  · exact .inl e
  · refine .inr ⟨a, cs, e, nd, fun j b hb => ?_⟩
    obtain ⟨o, vs, ho, r⟩ := c j b hb
    exact ⟨o, vs, k b o ho, r⟩
/-- kept but for the object at it, which is no exception of the chain -/
theorem Hd.but {A : Around} {h h' : Heap} {it : Addr} {oi : Obj} (x : Hd A h) (hit : h.get? it = some oi) (hno : ∀ vs, oi.data = .fields vs → vs.size < 3 ∨ vs[2]? ≠ some Value.none ∧ ∀ b, vs[2]? ≠ some (.ref b)) (k : ∀ b o, b ≠ it → h.get? b = some o → h'.get? b = some o) : Hd A h' := by
  rcases x with e | ⟨a, cs, e, nd, c⟩
  · exact .inl e
  · refine .inr ⟨a, cs, e, nd, fun j b hb => ?_⟩
    obtain ⟨o, vs, ho, hd, h2⟩ := c j b hb
    refine ⟨o, vs, k b o (fun z => ?_) ho, hd, h2⟩
    subst z
    rw [hit] at ho
    cases ho
    rcases hno vs hd with q | ⟨q1, q2⟩
    · have := (Array.getElem?_eq_some_iff.mp h2).1
      omega
    · unfold nxt at h2
      cases hz : (a :: cs)[j + 1]? with
      | none => rw [hz] at h2; exact q1 h2
      | some y => rw [hz] at h2; exact q2 y h2
section
variable {prog : Program} {w : World} {A : Around} {E : Value → Shared → Prop} {s : Shared}
theorem unchain_ok {cs : List Addr} {e : Addr} {R : Result → Shared → Prop} (c : Chn s.heap cs) (he : e ∉ cs) (hR : R (.ok (.ret .none)) s) : ∀ (n j i : Nat) (o sl : Addr) (tg : Bool), cs.length - j = n → cs[j]? = some o → cs[i]? = some sl → i ≤ j →
    codeAny (model prog w) A (.builtin "proto.unchain" ⟨[.ref e, .ref o, .ref sl, .bool tg], []⟩) R s := by
  intro n
  induction n with
  | zero =>
    intro j i o sl tg hn hj _ _
    have := (List.getElem?_eq_some_iff.mp hj).1
    omega
  | succ n ih =>
    intro j i o sl tg hn hj hi hij
    obtain ⟨oo, vs, ho, hd, h2⟩ := c.2 j o hj
    refine codeAny_builtin entry_unchain ?_
    unfold Builtin.«proto.unchain»
    refine wpAny_bind (wpAny_field ho hd h2 ?_)
    cases hz : cs[j + 1]? with
    | none =>
      simp only [nxt, hz]
      rw [if_pos (by rfl)]
      refine wpAny_bind (wpAny_pure (wpAny_pure ?_))
      exact hR
    | some b =>
      simp only [nxt, hz]
      have hb : b ∈ cs := List.mem_of_getElem? hz
      have hbe : b ≠ e := fun z => he (z ▸ hb)
      have hbs : b ≠ sl := fun z => by
        subst z
        have e1 := List.getElem?_eq_some_iff.mp hz
        have e2 := List.getElem?_eq_some_iff.mp hi
        have lt : i < j + 1 := by omega
        exact (List.pairwise_iff_getElem.mp c.1) i (j + 1) e2.1 e1.1 lt (e2.2.trans e1.2.symm)
      rw [if_neg (by simp), if_neg (by simpa using hbe), if_neg (by simpa using hbs)]
      have hi1 : ∃ b', cs[i + 1]? = some b' := by
        have e1 := (List.getElem?_eq_some_iff.mp hz).1
        exact ⟨_, List.getElem?_eq_getElem (by omega)⟩
      obtain ⟨b', hb'⟩ := hi1
      cases tg with
      | false =>
        rw [if_neg (by simp)]
        refine wpAny_bind (wpAny_pure (wpAny_pure ?_))
        exact (⟨Code.quiet_builtin _ (by decide +kernel), ih (j + 1) i b sl true (by omega) hz hi (by omega)⟩)
      | true =>
        rw [if_pos rfl]
        obtain ⟨os, ws, hos, hds, hs2⟩ := c.2 i sl hi
        simp only [nxt, hb'] at hs2
        refine wpAny_bind (wpAny_field hos hds hs2 (wpAny_pure ?_))
        exact (⟨Code.quiet_builtin _ (by decide +kernel), ih (j + 1) (i + 1) b b' false (by omega) hz hb' (by omega)⟩)
theorem raise_hd {α : Type} {e : Addr} {oe : Obj} {vs : Array Value} {Q : α → Shared → Prop} (hd : A.handled = none ∨ ∃ a cs, A.handled = some (.ref a) ∧ Chn s.heap (a :: cs) ∧ e ∉ a :: cs) (he : s.heap.get? e = some oe) (hf : oe.data = .fields vs) (h2 : 2 < vs.size)
    (h : ∀ h' o' vs', (∀ b o, b ≠ e → s.heap.get? b = some o → h'.get? b = some o) → h'.get? e = some o' → o'.cls = oe.cls → o'.dict = oe.dict → o'.data = .fields vs' → vs'.size = vs.size → vs'[1]? = vs[1]? → vs'[2]? = (match A.handled with | none => vs[2]? | some v => some v) → E (.ref e) { s with heap := h' }) :
    wpAny (model prog w) A (raiseNew (.ref e) : Sem α) Q E s := by
  unfold raiseNew
  refine wpAny_bind (wpAny_handled ?_)
  rcases hd with hn | ⟨a, cs, ha, c, hin⟩
  · rw [hn]
    exact wpAny_bind (wpAny_pure (wpAny_throw (h s.heap oe vs (fun _ _ _ q => q) he rfl rfl hf rfl rfl (by rw [hn]))))
  · rw [ha]
    have hae : a ≠ e := fun z => hin (by simp [z])
    show wpAny _ _ (if (Value.ref a != Value.ref e) = true then _ else _) _ _ s
    rw [if_pos (by simpa using hae)]
    refine wpAny_bind (wpAny_holding (wpAny_runValue (unchain_ok c hin ?_ _ 0 0 a a false rfl rfl rfl (Nat.le_refl _))))
    have up := Obj.data_mapFields hf (·.setIfInBounds 2 (Value.ref a))
    refine wpAny_bind (show wpAny _ _ (setField (.ref e) 2 (.ref a)) _ _ s from wpAny_setField he hf h2 (wpAny_throw (h _ _ _ (fun b q hb hq => (Heap.get?_update_other _ _ (Ne.symm hb)).trans hq) (Heap.get?_update_self _ he (Obj.isFreed_of_fields up)) (Obj.cls_mapFields _ _) ?_ up (by simp) ?_ ?_)))
    · obtain ⟨c1, d1, dt, sl⟩ := oe
      cases dt <;> rfl
    · rw [Array.getElem?_setIfInBounds_ne (by decide)]
    · rw [ha]; simp [h2]
theorem Chn.lt {h : Heap} {cs : List Addr} (c : Chn h cs) : ∀ b ∈ cs, b < h.objs.size := fun b hb => by
  obtain ⟨j, hj⟩ := List.mem_iff_getElem?.mp hb
  obtain ⟨o, _, ho, _⟩ := c.2 j b hj
  exact Heap.lt_size ho
theorem Chn.mono {h h' : Heap} {cs : List Addr} (c : Chn h cs) (k : ∀ b o, b ∈ cs → h.get? b = some o → h'.get? b = some o) : Chn h' cs := ⟨c.1, fun j a hj => by
  obtain ⟨o, vs, ho, r⟩ := c.2 j a hj
  exact ⟨o, vs, k a o (List.mem_of_getElem? hj) ho, r⟩⟩
/-- a StopIteration, made and raised -/
theorem stop_hd {α : Type} {Q : α → Shared → Prop} (hd : Hd A s.heap)
    (h : ∀ h' e, (∀ b o, s.heap.get? b = some o → h'.get? b = some o) → (∃ o', h'.get? e = some o' ∧ o'.cls = .type "StopIteration") → E (.ref e) { s with heap := h' }) :
    wpAny (model prog w) A (newExc (.type "StopIteration") [] >>= fun e => (raiseNew e : Sem α)) Q E s := by
  refine wpAny_bind ?_
  unfold newExc newTuple
  refine wpAny_bind (wpAny_newObj_type ?_ (by size_fits))
  refine wpAny_bind (m := firstArgMember _ _) (wpAny_of_eq (a := Value.none) (by first | rfl | (simp only [firstArgMember]; rfl)) (wpAny_newObj_type ?_ (by size_fits)))
  refine raise_hd ?_ (Heap.get?_push_size _ rfl) rfl (by simp; omega) fun h' o' vs' k' e' c' _ _ _ _ _ =>
    h h' _ (fun b o q => k' b o (Nat.ne_of_lt (by rw [Heap.size_push]; exact Nat.lt_succ_of_lt (Heap.lt_size q))) (Heap.get?_push_of_some _ (Heap.get?_push_of_some _ q))) ⟨o', e', c'⟩
  rcases hd with hn | ⟨a, cs, ha, c⟩
  · exact .inl hn
  · refine .inr ⟨a, cs, ha, c.mono fun b o _ q => Heap.get?_push_of_some _ (Heap.get?_push_of_some _ q), fun z => ?_⟩
    have := c.lt _ z
    rw [Heap.size_push] at this
    exact absurd (Nat.lt_of_lt_of_le this (Nat.le_succ _)) (Nat.lt_irrefl _)
theorem list_endH {it l : Addr} {i : Nat} {items} {Q : Option Value → Shared → Prop} (hd : Hd A s.heap) (hit : s.heap.IsListIter it l i) (hl : s.heap.IsList l items) (hx : items[i]? = none)
    (hQ : ∀ h', Heap.ExtBut it s.heap h' → Q none { s with heap := h' }) : wpAny (model prog w) A (pyNext (.ref it)) Q E s := by
  obtain ⟨o, ho, hc, hdat⟩ := id hit
  obtain ⟨ol, hol, _, nl, hdl⟩ := hl
  unfold pyNext
  refine wpAny_bind (wpAny_attempt (wpAny_callSpecial?_slot (name := Str.ofString "__next__") hit.typeIs slot_listiter_next (wpAny_call_entry slot_listiter_next hit.typeIs entry_listiter_next ?_ (args_listiter_next _))))
  refine (show wpAny _ _ (field (.ref it) 0 >>= _) _ _ s from wpAny_bind (wpAny_field ho hdat (x := .ref l) rfl ?_))
  refine (show wpAny _ _ (if (Value.ref l == Value.none) = true then _ else _) _ _ s from ?_)
  rw [if_neg (by simp)]
  refine (show wpAny _ _ (field (.ref it) 1 >>= _) _ _ s from wpAny_bind (wpAny_field ho hdat (x := .int i 0) rfl ?_))
  refine (show wpAny _ _ (seqItems? (.ref l) >>= _) _ _ s from wpAny_bind (wpAny_seqItems hol hdl ?_))
  simp only [Int.toNat_natCast, hx]
  refine wpAny_bind (wpAny_rule (wpAny_bind (wpAny_setField ho hdat (by simp) ?_)))
  have sb : Heap.SameBut it s.heap (s.heap.update it (Obj.mapFields (·.setIfInBounds 0 Value.none))) := Heap.SameBut.update ..
  refine stop_hd (A := A.in1) (hd.but ho (fun vs q => .inl (by rw [hdat] at q; cases q; simp)) sb.extBut) fun h' e k' ⟨o', e', c'⟩ => ?_
  exact wpAny_bind (wpAny_isInstance (T := "StopIteration") (b := true) ⟨o', e', c'⟩ isSubtype_stop (wpAny_pure (hQ h' fun b q hb hq => k' b q (sb.extBut b q hb hq))))
theorem tup_endH {it t : Addr} {i : Nat} {items} {Q : Option Value → Shared → Prop} (hd : Hd A s.heap) (hit : s.heap.IsTupleIter it t i) (ht : s.heap.IsTuple t items) (hx : items[i]? = none)
    (hQ : ∀ h', Heap.ExtBut it s.heap h' → Q none { s with heap := h' }) : wpAny (model prog w) A (pyNext (.ref it)) Q E s := by
  obtain ⟨o, ho, hc, hdat⟩ := id hit
  obtain ⟨ol, hol, _, nl, hdl⟩ := ht
  unfold pyNext
  refine wpAny_bind (wpAny_attempt (wpAny_callSpecial?_slot (name := Str.ofString "__next__") hit.typeIs F.slot_tuple_iterator_next (wpAny_call_entry F.slot_tuple_iterator_next hit.typeIs F.entry_tuple_iterator_next ?_ (F.args_tuple_iterator_next_1 _))))
  refine (show wpAny _ _ (field (.ref it) 0 >>= _) _ _ s from wpAny_bind (wpAny_field ho hdat (x := .ref t) rfl ?_))
  refine (show wpAny _ _ (if (Value.ref t == Value.none) = true then _ else _) _ _ s from ?_)
  rw [if_neg (by simp)]
  refine (show wpAny _ _ (field (.ref it) 1 >>= _) _ _ s from wpAny_bind (wpAny_field ho hdat (x := .int i 0) rfl ?_))
  refine (show wpAny _ _ (seqItems? (.ref t) >>= _) _ _ s from wpAny_bind (wpAny_seqItems hol hdl ?_))
  simp only [Int.toNat_natCast, hx]
  refine wpAny_bind (wpAny_rule (wpAny_bind (wpAny_setField ho hdat (by simp) ?_)))
  have sb : Heap.SameBut it s.heap (s.heap.update it (Obj.mapFields (·.setIfInBounds 0 Value.none))) := Heap.SameBut.update ..
  refine stop_hd (A := A.in1) (hd.but ho (fun vs q => .inl (by rw [hdat] at q; cases q; simp)) sb.extBut) fun h' e k' ⟨o', e', c'⟩ => ?_
  exact wpAny_bind (wpAny_isInstance (T := "StopIteration") (b := true) ⟨o', e', c'⟩ isSubtype_stop (wpAny_pure (hQ h' fun b q hb hq => k' b q (sb.extBut b q hb hq))))
theorem range_endH {it : Addr} {x left step : Int} {Q : Option Value → Shared → Prop} (hd : Hd A s.heap) (hit : IsRangeIter s.heap it x left step) (hleft : left ≤ 0)
    (hQ : ∀ h', Heap.ExtBut it s.heap h' → Q none { s with heap := h' }) : wpAny (model prog w) A (pyNext (.ref it)) Q E s := by
  have hT : s.TypeIs (.ref it) "range_iterator" := ⟨_, hit, rfl⟩
  unfold pyNext
  refine wpAny_bind (wpAny_attempt (wpAny_callSpecial?_slot (name := Str.ofString "__next__") hT F.slot_range_iterator_next (wpAny_call_entry F.slot_range_iterator_next hT F.entry_range_iterator_next ?_ (F.args_range_iterator_next_1 _))))
  refine (show wpAny _ _ (field (.ref it) 0 >>= _) _ _ s from wpAny_bind (wpAny_field hit rfl (x := rawInt x) rfl ?_))
  refine (show wpAny _ _ (field (.ref it) 1 >>= _) _ _ s from wpAny_bind (wpAny_field hit rfl (x := rawInt left) rfl ?_))
  refine (show wpAny _ _ (field (.ref it) 2 >>= _) _ _ s from wpAny_bind (wpAny_field hit rfl (x := rawInt step) rfl ?_))
  refine (show wpAny _ _ (if left ≤ 0 then _ else _) _ _ s from ?_)
  rw [if_pos hleft]
  refine wpAny_bind (wpAny_rule (wpAny_bind ?_))
  refine stop_hd (A := A.in1) hd fun h' e k' ⟨o', e', c'⟩ => ?_
  exact wpAny_bind (wpAny_isInstance (T := "StopIteration") (b := true) ⟨o', e', c'⟩ isSubtype_stop (wpAny_pure (hQ h' fun b q _ hq => k' b q hq)))
/-- a, b, .. = a tuple: its items are drawn, then it must be at its end -/
theorem unpackH {t : Addr} {items : Array Value} {Q : List Value → Shared → Prop} (hd : Hd A s.heap) (ht : IsTup s.heap t items)
    (hQ : ∀ h', Heap.ExtBut s.heap.objs.size s.heap h' → Q items.toList { s with heap := h' }) : wpAny (model prog w) A (unpackItems (.ref t) items.size none) Q E s := by
  have hlt : t ≠ s.heap.objs.size := by obtain ⟨o, ho, _⟩ := ht; exact Nat.ne_of_lt (Heap.lt_size ho)
  unfold unpackItems
  refine wpAny_bind ?_
  unfold notIterableAtAll
  refine wpAny_bind (wpAny_specialOf ht.typeIs slot_tuple_iter.lookup (wpAny_pure ?_))
  simp only [Bool.false_eq_true, if_false]
  refine wpAny_bind (wpAny_holding (iter_tuple ht (wpAny_bind (wpAny_holding (draw_tuple hlt items.size 0 _ _ ⟨_, Heap.get?_push_size _ rfl, rfl, rfl⟩ (ht.push _) (by omega) fun h₁ hit₁ hs₁ => ?_)))))
  rw [show List.take items.size (List.drop 0 items.toList) = items.toList by rw [List.drop_zero]; exact List.take_of_length_le (by simp)]
  rw [if_neg (by simp)]
  have ht₁ : IsTup h₁ t items := (ht.push _).extBut hs₁.extBut hlt
  have k₁ : ∀ b o, s.heap.get? b = some o → h₁.get? b = some o := fun b o e => hs₁.extBut b o (Nat.ne_of_lt (Heap.lt_size e)) (Heap.get?_push_of_some _ e)
  refine wpAny_bind (wpAny_holding (tup_endH (hd.keeps k₁) hit₁ (show Heap.IsTuple h₁ t items from ht₁) (by simp) fun h₂ he₂ => ?_))
  simp only [Option.isSome_none, Bool.false_eq_true, if_false]
  exact wpAny_pure (hQ h₂ fun b o hb e => he₂ b o hb (k₁ b o e))
theorem assign_tupH {env : Env} {elts : List Expr} {x1} {pos : Pos} {t : Addr} {items : Array Value} {Q : Unit → Shared → Prop} (hd : Hd A s.heap) (ht : IsTup s.heap t items) (hn : (assignEach elts env).length = items.size) (hstar : (assignEach elts env).findIdx? (·.1) = none)
    (h : ∀ h', Heap.ExtBut s.heap.objs.size s.heap h' → wpAny (model prog w) A (assignInOrder ((assignEach elts env).map (·.2)) items.toList) Q E { s with heap := h' }) : wpAny (model prog w) A (assign (.Tuple elts x1 pos) env (.ref t)) Q E s := by
  rw [assign_Tuple]
  refine wpAny_bind (wpAny_standAt ?_)
  unfold unpack
  rw [hn, hstar]
  exact wpAny_bind (wpAny_holding (unpackH hd ht h))
end
end L2

namespace L2
open PySem PySem.Spec PyProof.Rows

/-- a key: an int or a str -/
abbrev Key := Sum Int Str
def keyIs : Key → Value → Bool
  | .inl k, v => Value.isInt k v
  | .inr x, v => Value.isStrOf x v
def keyH (w : World) : Key → Int
  | .inl k => hashInt k
  | .inr x => hashStr w x
theorem keyIs_shape : ∀ {k : Key} {v : Value}, keyIs k v = true → (∃ i t, k = Sum.inl i ∧ v = Value.int i t) ∨ (∃ x t, k = Sum.inr x ∧ v = Value.str x t)
  | .inl i, v, h => by
    obtain ⟨t, e⟩ := Value.isInt_shape (k := i) (v := v) h
    exact .inl ⟨i, t, rfl, e⟩
  | .inr x, v, h => by
    obtain ⟨t, e⟩ := Value.isStrOf_shape (x := x) (v := v) h
    exact .inr ⟨x, t, rfl, e⟩
theorem keyIs_int (i : Int) (t : Tok) : keyIs (.inl i) (.int i t) = true := by simp [keyIs, Value.isInt]
theorem keyIs_str (x : Str) (t : Tok) : keyIs (.inr x) (.str x t) = true := by simp [keyIs, Value.isStrOf]
theorem key_ll (a b : Int) : decide ((Sum.inl a : Key) = Sum.inl b) = (a == b) := by
  by_cases e : a = b
  · subst e; simp
  · have h : ¬ (Sum.inl a : Key) = Sum.inl b := fun q => e (Sum.inl.inj q)
    rw [decide_eq_false h]
    exact (beq_eq_false_iff_ne.mpr e).symm
theorem key_rr (a b : Str) : decide ((Sum.inr a : Key) = Sum.inr b) = decide (a = b) := by
  by_cases e : a = b
  · subst e; simp
  · have h : ¬ (Sum.inr a : Key) = Sum.inr b := fun q => e (Sum.inr.inj q)
    rw [decide_eq_false h, decide_eq_false e]
theorem key_lr (a : Int) (b : Str) : decide ((Sum.inl a : Key) = Sum.inr b) = false := decide_eq_false (fun q => nomatch q)
theorem key_rl (a : Str) (b : Int) : decide ((Sum.inr a : Key) = Sum.inl b) = false := decide_eq_false (fun q => nomatch q)

def mixKind (prog : Program) (w : World) : PySem.KeyKind prog w Key where
  is := keyIs
  hash := keyH w
  inj := fun v a b ha hb => by
    rcases keyIs_shape ha with ⟨i, t, rfl, rfl⟩ | ⟨x, t, rfl, rfl⟩
    · rcases keyIs_shape hb with ⟨j, u, rfl, e⟩ | ⟨y, u, rfl, e⟩
      · injection e with e1 _; rw [e1]
      · exact nomatch e
    · rcases keyIs_shape hb with ⟨j, u, rfl, e⟩ | ⟨y, u, rfl, e⟩
      · exact nomatch e
      · injection e with e1 _; rw [e1]
  byValue := fun k v h => by
    rcases keyIs_shape h with ⟨i, t, rfl, rfl⟩ | ⟨x, t, rfl, rfl⟩ <;> rfl
  pyHash := fun hv h => by
    rcases keyIs_shape hv with ⟨i, t, rfl, rfl⟩ | ⟨x, t, rfl, rfl⟩
    · exact wpAny_pyHash_int h
    · exact wpAny_pyHash_str h
  eqBool := fun hu hv h => by
    rcases keyIs_shape hu with ⟨i, t, rfl, rfl⟩ | ⟨x, t, rfl, rfl⟩
    · rcases keyIs_shape hv with ⟨j, u, rfl, rfl⟩ | ⟨y, u, rfl, rfl⟩
      · rw [key_ll] at h; exact wpAny_eqBool_int h
      · rw [key_lr] at h; exact SeqAt.EqAt.int_str i t y u _ _ _ _ h
    · rcases keyIs_shape hv with ⟨j, u, rfl, rfl⟩ | ⟨y, u, rfl, rfl⟩
      · rw [key_rl] at h; exact SeqAt.EqAt.str_int x t j u _ _ _ _ h
      · rw [key_rr] at h; exact wpAny_eqBool_str h
  «strs» := fun k x t v h => by
    rcases keyIs_shape h with ⟨i, u, rfl, e⟩ | ⟨y, u, rfl, e⟩
    · exact nomatch e
    · injection e with e1 _
      subst e1
      cases v <;> rfl

theorem mixKind_int (prog : Program) (w : World) (i : Int) (t : Tok) : (mixKind prog w).is (.inl i) (.int i t) = true := keyIs_int i t
theorem mixKind_str (prog : Program) (w : World) (x : Str) (t : Tok) : (mixKind prog w).is (.inr x) (.str x t) = true := keyIs_str x t
end L2

namespace L2
open PySem PySem.Spec PyProof.Rows

/-- a value, without the heap -/
inductive V where
  | non | bl (b : Bool) | int (i : Int) | str (x : Str) | byt (b : Array UInt8) | flt (b : UInt64) | ref (a : Addr) | ty (n : String)
  deriving DecidableEq

def RelV : V → Value → Prop
  | .non, u => u = Value.none
  | .bl b, u => u = Value.bool b
  | .int i, u => ∃ t, u = Value.int i t
  | .str x, u => ∃ t, u = Value.str x t
  | .byt b, u => ∃ t, u = Value.bytes b t
  | .flt b, u => ∃ t, u = Value.float b t
  | .ref a, u => u = Value.ref a
  | .ty n, u => u = Value.type n

abbrev Vals : List V → List Value → Prop := Paired RelV
theorem Vals.length {xs : List V} {us : List Value} (r : Vals xs us) : xs.length = us.length := Paired.length r
theorem Vals.get : ∀ {xs : List V} {us : List Value} {i : Nat} {x : V}, Vals xs us → xs[i]? = some x → ∃ u, us[i]? = some u ∧ RelV x u
  | _, _, _, _, .nil, e => by simp at e
  | _, _, 0, _, .cons r _, e => by simp at e; subst e; exact ⟨_, rfl, r⟩
  | _, _, i + 1, x, .cons _ t, e => by
    obtain ⟨u, h1, h2⟩ := Vals.get (i := i) (x := x) t (by simpa using e)
    exact ⟨u, by simpa using h1, h2⟩
theorem Vals.set {x : V} {u : Value} (r : RelV x u) : ∀ {xs : List V} {us : List Value} (i : Nat), Vals xs us → Vals (xs.set i x) (us.set i u)
  | _, _, _, .nil => .nil
  | _, _, 0, .cons _ t => .cons r t
  | _, _, i + 1, .cons q t => .cons q (Vals.set r i t)
theorem Vals.append : ∀ {xs ys : List V} {us ws : List Value}, Vals xs us → Vals ys ws → Vals (xs ++ ys) (us ++ ws)
  | _, _, _, _, .nil, s => s
  | _, _, _, _, .cons r t, s => .cons r (Vals.append t s)
theorem Vals.take : ∀ {xs : List V} {us : List Value} (n : Nat), Vals xs us → Vals (xs.take n) (us.take n)
  | _, _, 0, _ => .nil
  | _, _, _ + 1, .nil => .nil
  | _, _, n + 1, .cons r t => .cons r (Vals.take n t)
theorem Vals.drop : ∀ {xs : List V} {us : List Value} (n : Nat), Vals xs us → Vals (xs.drop n) (us.drop n)
  | _, _, 0, r => r
  | _, _, _ + 1, .nil => .nil
  | _, _, n + 1, .cons _ t => Vals.drop n t
def RelO : Option V → Option Value → Prop
  | some v, some u => RelV v u
  | none, none => True
  | _, _ => False
def KV {κ : Type} : List (κ × V) → List (κ × Value) → Prop := Paired fun (p : κ × V) (q : κ × Value) => p.1 = q.1 ∧ RelV p.2 q.2

/-- a key of a dict (00_mix): an int or a text -/
def kV : Key → V
  | .inl i => .int i
  | .inr x => .str x

/-- what stands at a tracked address -/
inductive HO where
  /-- a list -/
  | lst (xs : List V)
  /-- a tuple (never changes) -/
  | tup (xs : List V)
  /-- a dict whose keys are ints and texts; one whose keys are tuples of ints and texts (the empty one is both) -/
  | dK (kvs : List (Key × V)) | dT (kvs : List (List Key × V))
  /-- a set of ints: its members, its size -/
  | set (S : Int → Bool) (n : Nat)
  /-- an instance of the class at C, its dict at dx, its attributes -/
  | ins (C dx : Addr) (fs : List (Str × V))
  /-- the dict of the instance at x -/
  | own (x : Addr)
  /-- the dict of an exception -/
  | xd (fs : List (Str × V))
  /-- a bound method, f of x -/
  | met (f x : Addr)
  /-- a range object lo, lo + 1, .. below hi -/
  | rng (lo hi : Int)
  /-- a thing that is known to the object (the script; a dict while a loop walks it): read, never written while it is so -/
  | frz (o : Obj) (u : HO)
  /-- a code object's table -/
  | tbl (ps : Array Value)
  /-- any other thing, by what is true of its one object (a def of one's own: SetO a S n := HO.ext fun h => ..) -/
  | ext (φ : Heap → Prop)

abbrev Hp := Addr → Option HO
def upd (H : Hp) (a : Addr) (o : HO) : Hp := fun b => if b = a then some o else H b
theorem upd_same {H : Hp} {a : Addr} {o : HO} : upd H a o a = some o := by unfold upd; rw [if_pos rfl]
theorem upd_ne {H : Hp} {a b : Addr} {o : HO} (h : b ≠ a) : upd H a o b = H b := by unfold upd; rw [if_neg h]
theorem upd_upd {H : Hp} {a : Addr} {o u : HO} : upd (upd H a o) a u = upd H a u := by
  funext b; unfold upd; split <;> rfl
/-- two objects of different content stand apart -/
theorem ne_of {H : Hp} {a b : Addr} {o u : HO} (h : H a = some o) (h' : H b = some u) (d : o ≠ u) : a ≠ b := by
  intro e; subst e; rw [h] at h'; exact d (Option.some.inj h')
theorem ne_of_none {H : Hp} {a b : Addr} {o : HO} (h : H a = some o) (h' : H b = none) : a ≠ b := by
  intro e; subst e; rw [h] at h'; cases h'

section
variable (P : Program) (w : World)
def ObjOk (H : Hp) (h : Heap) (a : Addr) : HO → Prop
  | .lst xs => xs.length ≤ sizeLine ∧ ∃ (its : List Value) (n : Nat), Vals xs its ∧ h.get? a = some { cls := .type "list", data := .seq its.toArray n }
  | .tup xs => xs.length ≤ sizeLine ∧ ∃ its : List Value, Vals xs its ∧ IsTup h a its.toArray
  | .dK kvs => kvs.length ≤ sizeLine ∧ (a == sysModules) = false ∧ ∃ vs, KV kvs vs ∧ h.DictOf (mixKind P w) a vs
  | .dT kvs => kvs.length ≤ sizeLine ∧ (a == sysModules) = false ∧ ∃ xs : List (List Key × Addr × Value),
      Paired (fun (p : List Key × V) (q : List Key × Addr × Value) => p.1 = q.1 ∧ H q.2.1 = some (.tup (p.1.map kV)) ∧ RelV p.2 q.2.2) kvs xs ∧
      ∃ o es ep, h.get? a = some o ∧ o.ExactDict ∧ o.data = .dict es ep ∧ es.toList = xs.map (entryOfKey (tupleKind (mixKind P w))) ∧ (xs.map (·.1)).Nodup
  | .set S n => h.SetOf (intKind P w) a S n
  | .ins C dx fs => H dx = some (.own a) ∧ fs.length ≤ 1000 ∧ dx ≠ a ∧ h.get? a = some (PySem.W.instObj C dx) ∧
      ∃ mA, h.Ns1 dx mA ∧ (∀ f, RelO (fs.lookup f) (mA f)) ∧ PySem.Within mA (fs.map (·.1))
  | .own _ => ∃ o, h.get? a = some o
  | .xd fs => ∃ mA, h.Ns1 a mA ∧ ∀ f, RelO (fs.lookup f) (mA f)
  | .rng lo hi => ∃ t u v, h.get? a = some { cls := .type "range", data := .fields #[.int lo t, .int hi u, .int 1 v] }
  | .frz o u => h.get? a = some o ∧ ObjOk H h a u
  | .tbl ps => h.get? a = some { cls := .none, data := .fields ps }
  | .met f x => h.get? a = some (PySem.W.methodObj (.ref f) (.ref x))
  | .ext φ => φ h ∧ (∃ o, h.get? a = some o) ∧ ∀ h1 h2 : Heap, φ h1 → (∀ o, h1.get? a = some o → h2.get? a = some o) → φ h2
/-- the abstract heap is held -/
def HOk (H : Hp) (h : Heap) : Prop := ∀ a o, H a = some o → ObjOk P w H h a o
end

section
variable {P : Program} {w : World} {H H' : Hp} {h h' : Heap} {a : Addr} {o : HO}
theorem ObjOk.lt (x : ObjOk P w H h a o) : a < h.objs.size := by
  cases o with
  | lst xs => obtain ⟨_, _, _, _, e⟩ := x; exact Heap.lt_size e
  | tup xs => obtain ⟨_, _, _, p⟩ := x; exact p.lt
  | dK kvs => obtain ⟨_, _, _, _, o, _, _, e, _⟩ := x; exact Heap.lt_size e
  | dT kvs => obtain ⟨_, _, _, _, o, _, _, e, _⟩ := x; exact Heap.lt_size e
  | set S n => obtain ⟨o, _, _, _, e, _⟩ := x; exact Heap.lt_size e
  | ins C dx fs => obtain ⟨_, _, _, e, _⟩ := x; exact Heap.lt_size e
  | own y => obtain ⟨_, e⟩ := x; exact Heap.lt_size e
  | xd fs => obtain ⟨_, ⟨_, _, _, e, _⟩, _⟩ := x; exact Heap.lt_size e
  | rng lo hi => obtain ⟨_, _, _, e⟩ := x; exact Heap.lt_size e
  | frz ob u => obtain ⟨e, _⟩ := x; exact Heap.lt_size e
  | tbl ps => exact Heap.lt_size (show h.get? a = some _ from x)
  | met f y => exact Heap.lt_size (show h.get? a = some _ from x)
  | ext φ => obtain ⟨_, ⟨_, e⟩, _⟩ := x; exact Heap.lt_size e
theorem Paired.mapP {α β : Type} {F G : α → β → Prop} : ∀ {l₁ : List α} {l₂ : List β}, Paired F l₁ l₂ → (∀ a b, F a b → G a b) → Paired G l₁ l₂
  | _, _, .nil, _ => .nil
  | _, _, .cons r t, f => .cons (f _ _ r) (Paired.mapP t f)
/-- what an object's description leans on: its own object, its own dict, the tuples -/
theorem ObjOk.stay (x : ObjOk P w H h a o) (k : ∀ b u, (b = a ∨ H b = some (.own a)) → h.get? b = some u → h'.get? b = some u)
    (ho : ∀ b, H b = some (.own a) → H' b = some (.own a)) (ht : ∀ b xs, H b = some (.tup xs) → H' b = some (.tup xs)) : ObjOk P w H' h' a o := by
  induction o with
  | lst xs => obtain ⟨z, its, n, r, e⟩ := x; exact ⟨z, its, n, r, k _ _ (.inl rfl) e⟩
  | tup xs => obtain ⟨z, its, r, ob, e, c⟩ := x; exact ⟨z, its, r, ob, k _ _ (.inl rfl) e, c⟩
  | dK kvs => obtain ⟨z, y, vs, r, ob, es, ep, e, c⟩ := x; exact ⟨z, y, vs, r, ob, es, ep, k _ _ (.inl rfl) e, c⟩
  | dT kvs =>
    obtain ⟨z, y, xs, r, ob, es, ep, e, c⟩ := x
    exact ⟨z, y, xs, Paired.mapP r fun p q z => ⟨z.1, ht _ _ z.2.1, z.2.2⟩, ob, es, ep, k _ _ (.inl rfl) e, c⟩
  | set S n => obtain ⟨ob, es, ep, t, e, c⟩ := x; exact ⟨ob, es, ep, t, k _ _ (.inl rfl) e, c⟩
  | ins C dx fs =>
    obtain ⟨d, z, ne, e, mA, ⟨od, es, ep, e2, c⟩, r⟩ := x
    exact ⟨ho _ d, z, ne, k _ _ (.inl rfl) e, mA, ⟨od, es, ep, k _ _ (.inr d) e2, c⟩, r⟩
  | own y => obtain ⟨ob, e⟩ := x; exact ⟨ob, k _ _ (.inl rfl) e⟩
  | xd fs => obtain ⟨mA, ⟨od, es, ep, e, c⟩, r⟩ := x; exact ⟨mA, ⟨od, es, ep, k _ _ (.inl rfl) e, c⟩, r⟩
  | rng lo hi => obtain ⟨t, u, v, e⟩ := x; exact ⟨t, u, v, k _ _ (.inl rfl) e⟩
  | frz ob u ih => obtain ⟨e, q⟩ := x; exact ⟨k _ _ (.inl rfl) e, ih q⟩
  | tbl ps =>
    have e : h.get? a = some { cls := .none, data := .fields ps } := x
    show h'.get? a = some { cls := .none, data := .fields ps }
    exact k a _ (.inl rfl) e
  | met f y =>
    have e : h.get? a = some (PySem.W.methodObj (.ref f) (.ref y)) := x
    show h'.get? a = some (PySem.W.methodObj (.ref f) (.ref y))
    exact k a _ (.inl rfl) e
  | ext φ => obtain ⟨p, ⟨o, e⟩, st⟩ := x; exact ⟨st _ _ p fun o q => k _ _ (.inl rfl) q, ⟨o, k _ _ (.inl rfl) e⟩, st⟩
theorem HOk.lt (x : HOk P w H h) (e : H a = some o) : a < h.objs.size := (x a o e).lt
theorem HOk.fresh (x : HOk P w H h) (e : h.objs.size ≤ a) : H a = none := by
  cases q : H a with
  | none => rfl
  | some u => exact absurd (Nat.lt_of_lt_of_le (x.lt q) e) (Nat.lt_irrefl _)
/-- every object of the heap is kept -/
theorem HOk.kept (x : HOk P w H h) (k : ∀ b u, h.get? b = some u → h'.get? b = some u) : HOk P w H h' := fun a o e =>
  (x a o e).stay (fun b u _ q => k b u q) (fun _ q => q) fun _ _ q => q
/-- a new object is laid and tracked -/
theorem HOk.laid (x : HOk P w H h) (k : ∀ b u, h.get? b = some u → h'.get? b = some u) (hp : h.objs.size ≤ a) (new : ObjOk P w (upd H a o) h' a o) : HOk P w (upd H a o) h' := fun b u e => by
  have hn := x.fresh hp
  by_cases hb : b = a
  · subst hb; rw [upd_same] at e; cases e; exact new
  · rw [upd_ne hb] at e
    exact (x b u e).stay (fun c v _ q => k c v q) (fun c q => by rw [upd_ne (ne_of_none q hn)]; exact q) fun c xs q => by rw [upd_ne (ne_of_none q hn)]; exact q
end

/-- what may be read as u: it is u, or a known u -/
def Rd (H : Hp) (a : Addr) (u : HO) : Prop := H a = some u ∨ ∃ o, H a = some (.frz o u)
theorem Rd.of {H : Hp} {a : Addr} {u : HO} (h : H a = some u) : Rd H a u := .inl h
theorem Rd.ok {P : Program} {w : World} {H : Hp} {h : Heap} {a : Addr} {u : HO} (r : Rd H a u) (x : HOk P w H h) : ObjOk P w H h a u := by
  rcases r with r | ⟨o, r⟩
  · exact x a u r
  · obtain ⟨_, q⟩ := x a _ r
    exact q
/-- what may be written -/
def Mut : Option HO → Prop
  | some (.lst _) => True
  | some (.dK _) => True
  | some (.dT _) => True
  | some (.set _ _) => True
  | some (.ins _ _ _) => True
  | some (.ext _) => True
  | _ => False
section
variable {P : Program} {w : World} {H : Hp} {h h' : Heap} {x e : Addr} {o' : HO}
/-- the object at e is changed: x itself, or the dict of the instance x -/
theorem HOk.write (ok : HOk P w H h) (mu : Mut (H x)) (he : e = x ∨ H e = some (.own x)) (k : ∀ b u, b ≠ e → h.get? b = some u → h'.get? b = some u) (heo : ∃ u, h'.get? e = some u)
    (new : ObjOk P w (upd H x o') h' x o') : HOk P w (upd H x o') h' := fun b u q => by
  have nown : ∀ c y, H c = some (.own y) → c ≠ x := fun c y r z => by subst z; rw [r] at mu; exact mu
  have ntup : ∀ c xs, H c = some (.tup xs) → c ≠ x := fun c xs r z => by subst z; rw [r] at mu; exact mu
  by_cases hb : b = x
  · subst hb; rw [upd_same] at q; cases q; exact new
  · rw [upd_ne hb] at q
    by_cases hbe : b = e
    · have q' : H b = some (.own x) := by
        rcases he with z | z
        · exact absurd (hbe.trans z) hb
        · rw [hbe]; exact z
      rw [q] at q'; cases q'
      obtain ⟨v, hv⟩ := heo
      exact ⟨v, by rw [hbe]; exact hv⟩
    · refine (ok b u q).stay (fun c v hc r => k c v ?_ r) (fun c r => by rw [upd_ne (nown c b r)]; exact r) fun c xs r => by rw [upd_ne (ntup c xs r)]; exact r
      rcases hc with rfl | hc
      · exact hbe
      · rintro rfl
        rcases he with z | z
        · exact nown c b hc z
        · rw [hc] at z; cases z; exact hb rfl
end

/-! ### kept unless tracked; of the frames at fs (the callers') the slots may change (an exception that passes writes there); of the records at ex (iterators) nothing is said -/
structure Un (fs ex : List Addr) (H H' : Hp) (h h' : Heap) : Prop where
  keep : ∀ b o, h.get? b = some o → H b = none → b ∉ fs → b ∉ ex → h'.get? b = some o
  slot : ∀ b o, h.get? b = some o → H b = none → b ∈ fs → b ∉ ex → ∃ sl, h'.get? b = some { o with slots := sl }
  free : ∀ b o, h.get? b = some o → H b = none → b ∉ ex → H' b = none
  there : ∀ b o, h.get? b = some o → b ∉ ex → ∃ o', h'.get? b = some o'
  tups : ∀ b xs, H b = some (.tup xs) → H' b = some (.tup xs)
  frzs : ∀ b o u, H b = some (.frz o u) → H' b = some (.frz o u)
  tbls : ∀ b ps, H b = some (.tbl ps) → ∃ more, H' b = some (.tbl (ps ++ more))
section
variable {fs fs' ex ex' : List Addr} {H H1 H2 : Hp} {h h1 h2 h' : Heap} {a x e : Addr} {o : HO}
theorem Un.any (u : Un fs ex H H1 h h1) {b : Addr} {ob : Obj} (q : h.get? b = some ob) (n : H b = none) (hx : b ∉ ex) : ∃ sl, h1.get? b = some { ob with slots := sl } := by
  by_cases hb : b ∈ fs
  · exact u.slot b ob q n hb hx
  · exact ⟨ob.slots, u.keep b ob q n hb hx⟩
theorem Un.trans (a : Un fs ex H H1 h h1) (b : Un fs ex H1 H2 h1 h2) : Un fs ex H H2 h h2 where
  keep := fun c ob q n hc hx => b.keep c ob (a.keep c ob q n hc hx) (a.free c ob q n hx) hc hx
  slot := fun c ob q n hc hx => by
    obtain ⟨sl, e1⟩ := a.slot c ob q n hc hx
    obtain ⟨sl', e2⟩ := b.slot c _ e1 (a.free c ob q n hx) hc hx
    exact ⟨sl', e2⟩
  free := fun c ob q n hx => by
    obtain ⟨o', e1⟩ := a.there c ob q hx
    exact b.free c o' e1 (a.free c ob q n hx) hx
  there := fun c ob q hx => by
    obtain ⟨o', e1⟩ := a.there c ob q hx
    exact b.there c o' e1 hx
  tups := fun c xs q => b.tups c xs (a.tups c xs q)
  frzs := fun c ob xs q => b.frzs c ob xs (a.frzs c ob xs q)
  tbls := fun c ps q => by
    obtain ⟨m1, e1⟩ := a.tbls c ps q
    obtain ⟨m2, e2⟩ := b.tbls c _ e1
    exact ⟨m1 ++ m2, by rw [e2, Array.append_assoc]⟩
theorem Un.kept (k : ∀ b u, h.get? b = some u → h'.get? b = some u) : Un fs ex H H h h' :=
  ⟨fun b ob q _ _ _ => k b ob q, fun b ob q _ _ _ => ⟨ob.slots, k b ob q⟩, fun _ _ _ n _ => n, fun b ob q _ => ⟨ob, k b ob q⟩, fun _ _ q => q, fun _ _ _ q => q, fun _ ps q => ⟨#[], by rw [q]; simp⟩⟩
theorem Un.refl : Un fs ex H H h h := Un.kept fun _ _ q => q
theorem Un.laid (k : ∀ b u, h.get? b = some u → h'.get? b = some u) (hp : h.objs.size ≤ a) (hn : H a = none) : Un fs ex H (upd H a o) h h' where
  keep := fun b u q _ _ _ => k b u q
  slot := fun b u q _ _ _ => ⟨u.slots, k b u q⟩
  free := fun b u q n _ => by rw [upd_ne (Nat.ne_of_lt (Nat.lt_of_lt_of_le (Heap.lt_size q) hp))]; exact n
  there := fun b u q _ => ⟨u, k b u q⟩
  tups := fun b xs q => by rw [upd_ne (ne_of_none q hn)]; exact q
  frzs := fun b u xs q => by rw [upd_ne (ne_of_none q hn)]; exact q
  tbls := fun b ps q => ⟨#[], by rw [upd_ne (ne_of_none q hn), q]; simp⟩
theorem Un.write (mu : Mut (H x)) (he : e = x ∨ H e = some (.own x)) (k : ∀ b u, b ≠ e → h.get? b = some u → h'.get? b = some u) (heo : ∃ u, h'.get? e = some u) : Un fs ex H (upd H x o) h h' := by
  have hx : ∀ b, H b = none → b ≠ x := fun b n z => by subst z; rw [n] at mu; exact mu
  have hb : ∀ b, H b = none → b ≠ e := fun b n z => by
    subst z
    rcases he with r | r
    · exact hx b n r
    · rw [n] at r; cases r
  have hm : ∀ b u, H b = some u → ¬ Mut (some u) → b ≠ x := fun b u q nm z => by subst z; rw [q] at mu; exact nm mu
  refine ⟨fun b u q n _ _ => k b u (hb b n) q, fun b u q n _ _ => ⟨u.slots, k b u (hb b n) q⟩, fun b u q n _ => by rw [upd_ne (hx b n)]; exact n, fun b u q _ => ?_,
    fun b xs q => by rw [upd_ne (hm b _ q fun z => z)]; exact q, fun b u xs q => by rw [upd_ne (hm b _ q fun z => z)]; exact q, fun b ps q => ⟨#[], by rw [upd_ne (hm b _ q fun z => z), q]; simp⟩⟩
  by_cases hbe : b = e
  · subst hbe; exact heo
  · exact ⟨u, k b u hbe q⟩
theorem Un.mono (u : Un fs ex H H1 h h1) (hs : ∀ b ∈ fs, b ∈ fs') (hx : ∀ b ∈ ex, b ∈ ex') : Un fs' ex' H H1 h h1 :=
  ⟨fun b ob q n hb he => u.keep b ob q n (fun z => hb (hs b z)) fun z => he (hx b z), fun _ _ q n _ he => u.any q n fun z => he (hx _ z), fun b ob q n he => u.free b ob q n fun z => he (hx b z), fun b ob q he => u.there b ob q fun z => he (hx b z), u.tups, u.frzs, u.tbls⟩
end

/-! ### the heap without what is tracked -/
def trk (h : Heap) (H : Hp) : List Addr := (List.range h.objs.size).filter fun a => (H a).isSome
def hidT (h : Heap) (H : Hp) : Heap := PySem.W.hideAll h (trk h H)
theorem hidT_size (h : Heap) (H : Hp) : (hidT h H).objs.size = h.objs.size := PySem.W.hideAll_size _ _
theorem hidT_get {h : Heap} {H : Hp} {b : Addr} {o : Obj} (e : h.get? b = some o) (n : H b = none) : (hidT h H).get? b = some o :=
  PySem.W.hideAll_get _ e fun hm => by
    have q : (H b).isSome = true := (List.mem_filter.mp hm).2
    rw [n] at q; simp at q
theorem of_hidT {h : Heap} {H : Hp} {b : Addr} {o : Obj} (e : (hidT h H).get? b = some o) : h.get? b = some o ∧ H b = none := by
  have e' : h.get? b = some o := PySem.W.of_hideAll (trk h H) e
  refine ⟨e', ?_⟩
  cases q : H b with
  | none => rfl
  | some x =>
    have hm : b ∈ trk h H := List.mem_filter.mpr ⟨List.mem_range.mpr (Heap.lt_size e'), by simp [q]⟩
    have z : (hidT h H).get? b = none := PySem.W.hideAll_none (trk h H) hm
    rw [z] at e; cases e

/-! ### OpenK's ledger, filled with every new object but one -/
def allNews (g h : Heap) (L : Addr) : List (Addr × Obj) := (List.range h.objs.size).filterMap fun a => if a = L ∨ (g.get? a).isSome = true then none else (h.get? a).map fun o => (a, o)
def rest (g h : Heap) (L d : Addr) : List (Addr × Obj) := (allNews g h L).filter fun p => decide (p.1 ≠ d)
end L2

namespace L2
open PySem PySem.Spec PyProof.Rows

/-- the module's facts, over the base: the heap at the law's entry without what is tracked there -/
structure Mod (K : PySem.W.Frag) (mg : Str → Option Value) (base : Heap) : Prop where
  kin : K.In base
  glob : base.Ns mainGlobals mg
  blt : ∃ mb, base.Ns builtinsNs mb ∧ ∀ x : Str, x ≠ "__name__" → mb x = bootBuiltins x
  nolimit : base.NoLimit

/-- the context: a def's body (or a comprehension's block) running. base: fixed through the whole law; s₀, H₀: the entry; outer: the frames whose slots others may change (a def's callers); stack: all frames that run;
   ex: iterators that were made ahead of the entry and are walked here (a comprehension's); fn: the names whose cells were made at the entry (a def: all; a comprehension's block: its own); calm: not within an except suite; pn: pins that every state bears; xe: what is wanted of an exception that leaves the code -/
structure Cx where
  prog : Program
  w : World
  K : PySem.W.Frag
  mg : Str → Option Value
  base : Heap
  A : Around
  N : List Str
  s₀ : Shared
  H₀ : Hp
  env : Env
  outer : List Env
  stack : List Env
  ex : List Addr
  fn : Str → Bool
  calm : Bool
  pn : List (Addr × Obj)
  xe : Value → Shared → Prop
/-- the callers' frames -/
def frs (l : List Env) : List Addr := l.filterMap (·.frame)
abbrev Cx.fs (X : Cx) : List Addr := frs X.outer

def Vis (sc : Scope) (x : Str) : Prop := sc.names.lookup x = some .local ∨ sc.names.lookup x = some .cell ∨ sc.names.lookup x = some .free
def Loc (sc : Scope) (x : Str) : Prop := sc.names.lookup x = some .local ∨ sc.names.lookup x = some .cell
def Look (env : Env) (h : Heap) (m : Str → Option Value) (x : Str) (u : Value) : Prop :=
  (env.kindOf x = some .local ∧ m x = some u) ∨ ((env.kindOf x = some .cell ∨ env.kindOf x = some .free) ∧ ∃ c, env.cells.lookup x = some c ∧ h.IsCell c (some u))

/-- exceptions that stand frozen, each the context of the one ahead -/
def ChnH (H : Hp) (cs : List Addr) : Prop := cs.Nodup ∧ ∀ j a, cs[j]? = some a → ∃ o u vs, H a = some (.frz o u) ∧ o.data = .fields vs ∧ vs[2]? = some (nxt cs (j + 1))
/-- nothing is handled, or an exception that stands frozen, with its contexts -/
def HdAt (A : Around) (H : Hp) : Prop := A.handled = none ∨ ∃ a cs, A.handled = some (.ref a) ∧ ChnH H (a :: cs)
structure Cx.Ok (X : Cx) : Prop where
  mod : Mod X.K X.mg X.base
  kind : X.env.scope.kind = .function
  glob : X.env.globals = mainGlobals
  blt : X.env.builtins = builtinsNs
  above : X.s₀.heap.objs.size ≤ X.env.locals
  inj : ∀ x y c, X.env.cells.lookup x = some c → X.env.cells.lookup y = some c → x = y
  has : ∀ x, (X.env.kindOf x = some .cell ∨ X.env.kindOf x = some .free) → ∃ c, X.env.cells.lookup x = some c
  cab : ∀ x c, X.fn x = true → X.env.cells.lookup x = some c → X.s₀.heap.objs.size ≤ c
  hd : HdAt X.A X.H₀
  frames : X.A.frames = some X.stack
  stk : X.stack = X.outer ∨ (X.stack = X.env :: X.outer ∧ X.env.frame = some X.env.locals)
  exf : ∀ b ∈ X.ex, b ≠ X.env.locals ∧ ∀ x c, X.env.cells.lookup x = some c → c ≠ b
  bs : ∀ b o, X.base.get? b = some o → X.s₀.heap.get? b = some o ∧ X.H₀ b = none
  bsz : X.base.objs.size ≤ X.s₀.heap.objs.size
  noex : ∀ b o, X.base.get? b = some o → b ∉ X.ex
  exfs : ∀ b ∈ X.ex, b ∉ X.fs
  funs : X.s₀.heap.FunFrames X.base X.outer
  frf : ∀ b ∈ X.fs, X.H₀ b = none

structure Inv (X : Cx) (pins : List (Addr × Obj)) (σ : List (Option V)) (H : Hp) (s : Shared) : Prop where
  ok : X.Ok
  os : s.os = X.s₀.os
  bare : AllBare s.gens
  base : Un X.fs X.ex X.H₀ H X.s₀.heap s.heap
  loc : ∃ m, s.heap.Ns X.env.locals m ∧ ∀ (i : Nat) (x : Str) (v : V), X.N[i]? = some x → σ[i]? = some (some v) → Vis X.env.scope x → ∃ u, RelV v u ∧ Look X.env s.heap m x u
  cell : ∀ x c, X.env.cells.lookup x = some c → ∃ v, s.heap.IsCell c v
  free : H X.env.locals = none
  freeC : ∀ x c, X.env.cells.lookup x = some c → H c = none
  pin : ∀ p ∈ X.pn ++ pins, s.heap.get? p.1 = some p.2 ∧ H p.1 = none ∧ p.1 ≠ X.env.locals ∧ p.1 ∉ X.fs ∧ ∀ v, p.2.data ≠ .cell v
  hok : HOk X.prog X.w H s.heap
  len : σ.length = X.N.length

section
variable {X : Cx} {pins : List (Addr × Obj)} {σ : List (Option V)} {H H' : Hp} {s : Shared} {h' : Heap}

theorem Cx.Ok.nofr (ok : X.Ok) {b : Addr} {o : Obj} (e : X.base.get? b = some o) : b ∉ X.fs := fun hb => by
  have := (ok.funs.mem hb).1
  rw [e] at this; cases this
theorem Inv.bs (I : Inv X pins σ H s) : ∀ b o, X.base.get? b = some o → s.heap.get? b = some o ∧ H b = none := fun b o e =>
  ⟨I.base.keep b o (I.ok.bs b o e).1 (I.ok.bs b o e).2 (I.ok.nofr e) (I.ok.noex b o e), I.base.free b o (I.ok.bs b o e).1 (I.ok.bs b o e).2 (I.ok.noex b o e)⟩
theorem Inv.bk (I : Inv X pins σ H s) : ∀ b o, X.base.get? b = some o → s.heap.get? b = some o := fun b o e => (I.bs b o e).1
theorem Inv.mod (I : Inv X pins σ H s) : Mod X.K X.mg X.base := I.ok.mod
theorem Inv.kIn (I : Inv X pins σ H s) : X.K.In s.heap := I.ok.mod.kin.keeps I.bk
theorem ChnH.mono {cs : List Addr} (c : ChnH H cs) (k : ∀ b o u, H b = some (.frz o u) → H' b = some (.frz o u)) : ChnH H' cs := ⟨c.1, fun j a hj => by
  obtain ⟨o, u, vs, h, r⟩ := c.2 j a hj
  exact ⟨o, u, vs, k a o u h, r⟩⟩
theorem ChnH.chn {cs : List Addr} {P : Program} {w : World} {h : Heap} (c : ChnH H cs) (k : HOk P w H h) : Chn h cs := ⟨c.1, fun j a hj => by
  obtain ⟨o, u, vs, q, r⟩ := c.2 j a hj
  obtain ⟨z, _⟩ := k a _ q
  exact ⟨o, vs, z, r⟩⟩
theorem ChnH.not_mem {cs : List Addr} {b : Addr} (c : ChnH H cs) (hb : H b = none) : b ∉ cs := fun z => by
  obtain ⟨j, hj⟩ := List.mem_iff_getElem?.mp z
  obtain ⟨o, u, vs, q, _⟩ := c.2 j b hj
  rw [hb] at q; cases q
theorem HdAt.mono {A : Around} (x : HdAt A H) (k : ∀ b o u, H b = some (.frz o u) → H' b = some (.frz o u)) : HdAt A H' := by
  rcases x with e | ⟨a, cs, e, c⟩
  · exact .inl e
  · exact .inr ⟨a, cs, e, c.mono k⟩
theorem Inv.hdAt (I : Inv X pins σ H s) : HdAt X.A H := I.ok.hd.mono I.base.frzs
theorem HdAt.hd {A : Around} {P : Program} {w : World} {h : Heap} (x : HdAt A H) (k : HOk P w H h) : Hd A h := by
  rcases x with e | ⟨a, cs, e, c⟩
  · exact .inl e
  · exact .inr ⟨a, cs, e, c.chn k⟩
theorem HdAt.new {A : Around} {p : Addr} {u : HO} (x : HdAt A H) (hn : H p = none) : HdAt A (upd H p u) := x.mono fun b o v q => by rw [upd_ne (ne_of_none q hn)]; exact q
theorem Inv.hd (I : Inv X pins σ H s) : Hd X.A s.heap := I.hdAt.hd I.hok
theorem Inv.nolimit (I : Inv X pins σ H s) : s.heap.NoLimit := I.ok.mod.nolimit.keeps I.bk
theorem Inv.lt (I : Inv X pins σ H s) : X.env.locals < s.heap.objs.size := let ⟨_, hn, _⟩ := I.loc; hn.lt
theorem Inv.sz (I : Inv X pins σ H s) : X.s₀.heap.objs.size ≤ s.heap.objs.size := Nat.le_trans I.ok.above (Nat.le_of_lt I.lt)
theorem Inv.nofs (I : Inv X pins σ H s) {a : Addr} (h : s.heap.objs.size ≤ a) : a ∉ X.fs := fun hb => by
  obtain ⟨_, o, ho, _⟩ := I.ok.funs.mem hb
  exact absurd (Nat.lt_of_lt_of_le (Heap.lt_size ho) (Nat.le_trans I.sz h)) (Nat.lt_irrefl _)
theorem Inv.cne (I : Inv X pins σ H s) : ∀ x c, X.env.cells.lookup x = some c → c ≠ X.env.locals := fun x c e z => by
  obtain ⟨v, o, ho, hd⟩ := I.cell x c e
  obtain ⟨m, ⟨o', es, ep, ho', hd', _⟩, _⟩ := I.loc
  rw [z, ho'] at ho; cases ho; rw [hd'] at hd; cases hd
theorem Inv.funs (I : Inv X pins σ H s) : s.heap.FunFrames X.base X.outer := by
  have all : ∀ (l : List Env), (∀ b ∈ frs l, b ∈ X.fs) → X.s₀.heap.FunFrames X.base l → s.heap.FunFrames X.base l := by
    intro l
    induction l with
    | nil => intro _ _; trivial
    | cons env r ih =>
      intro hs hl
      obtain ⟨hk, ⟨L, o, hf, hn, ho, hd⟩, hr⟩ := hl
      have hL : L ∈ X.fs := hs L (by unfold frs; rw [List.filterMap_cons, hf]; exact List.mem_cons_self)
      obtain ⟨sl, e⟩ := I.base.slot L o ho (I.ok.frf L hL) hL fun z => I.ok.exfs L z hL
      exact ⟨hk, ⟨L, _, hf, hn, e, hd⟩, ih (fun b hb => hs b (by unfold frs; rw [List.filterMap_cons, hf]; exact List.mem_cons_of_mem _ hb)) hr⟩
  exact all X.outer (fun _ hb => hb) I.ok.funs

/-- the frames that run, for a call -/
theorem Inv.stack (I : Inv X pins σ H s) : s.heap.FunFrames X.base X.stack := by
  rcases I.ok.stk with e | ⟨e, hf⟩
  · rw [e]; exact I.funs
  · rw [e]
    obtain ⟨m, hn, _⟩ := I.loc
    refine .cons (by rw [I.ok.kind]; decide) hf hn ?_ I.funs
    exact Heap.get?_none_of_le (Nat.le_trans I.ok.bsz I.ok.above)
theorem Inv.stkSub (I : Inv X pins σ H s) : ∀ b ∈ frs X.stack, b ∈ X.env.locals :: X.fs := fun b hb => by
  rcases I.ok.stk with e | ⟨e, hf⟩
  · rw [e] at hb; exact List.mem_cons_of_mem _ hb
  · rw [e] at hb
    unfold frs at hb
    rw [List.filterMap_cons, hf] at hb
    exact hb
theorem Inv.stkFree (I : Inv X pins σ H s) : ∀ b ∈ frs X.stack, H b = none := fun b hb => by
  rcases List.mem_cons.mp (I.stkSub b hb) with e | hb
  · rw [e]; exact I.free
  · obtain ⟨_, o, ho, _⟩ := I.ok.funs.mem hb
    exact I.base.free b o ho (I.ok.frf b hb) fun z => I.ok.exfs b z hb

/-- THE STEP: the untracked objects but the frame and the records at ch are kept (the callers' frames up to slots), the frame's map is kept, the new abstract heap is held -/
theorem Inv.step {g' : Array GenState} {t' : Nat} {d' : Drawn} {ch : List Addr} (I : Inv X pins σ H s)
    (hch : ∀ b ∈ ch, (b ∈ X.ex ∨ X.s₀.heap.objs.size ≤ b) ∧ b ≠ X.env.locals ∧ (∀ x c, X.env.cells.lookup x = some c → c ≠ b) ∧ ∀ p ∈ X.pn ++ pins, p.1 ≠ b)
    (keep : ∀ b o, b ≠ X.env.locals → b ∉ X.fs → b ∉ ch → s.heap.get? b = some o → H b = none → h'.get? b = some o)
    (slot : ∀ b o, b ≠ X.env.locals → b ∈ X.fs → b ∉ ch → s.heap.get? b = some o → H b = none → ∃ sl, h'.get? b = some { o with slots := sl }) (free : ∀ b o, b ∉ ch → s.heap.get? b = some o → H b = none → H' b = none)
    (there : ∀ b o, b ∉ ch → s.heap.get? b = some o → ∃ o', h'.get? b = some o')
    (tups : ∀ b xs, H b = some (.tup xs) → H' b = some (.tup xs)) (frzs : ∀ b o u, H b = some (.frz o u) → H' b = some (.frz o u)) (tbls : ∀ b ps, H b = some (.tbl ps) → ∃ more, H' b = some (.tbl (ps ++ more)))
    (ns : ∀ m, s.heap.Ns X.env.locals m → h'.Ns X.env.locals m) (hok : HOk X.prog X.w H' h') (hg : AllBare g') :
    Inv X pins σ H' { s with heap := h', gens := g', drawn := d', toks := t' } := by
  have neL : ∀ b o, X.s₀.heap.get? b = some o → b ≠ X.env.locals := fun b o e => Nat.ne_of_lt (Nat.lt_of_lt_of_le (Heap.lt_size e) I.ok.above)
  have neC : ∀ b o, X.s₀.heap.get? b = some o → b ∉ X.ex → b ∉ ch := fun b o e hx hb => by
    rcases (hch b hb).1 with z | z
    · exact hx z
    · exact absurd (Nat.lt_of_lt_of_le (Heap.lt_size e) z) (Nat.lt_irrefl _)
  have cellK : ∀ x c, X.env.cells.lookup x = some c → ∀ v, s.heap.IsCell c v → h'.IsCell c v := fun x c e v ⟨o, ho, hd⟩ => by
    have nch : c ∉ ch := fun z => (hch c z).2.2.1 x c e rfl
    by_cases hc : c ∈ X.fs
    · obtain ⟨sl, q⟩ := slot c o (I.cne x c e) hc nch ho (I.freeC x c e)
      exact ⟨_, q, hd⟩
    · exact ⟨o, keep c o (I.cne x c e) hc nch ho (I.freeC x c e), hd⟩
  refine ⟨I.ok, I.os, hg, ⟨fun b o e n hb hx => ?_, fun b o e n hb hx => ?_, fun b o e n hx => ?_, fun b o e hx => ?_, fun b xs e => tups b xs (I.base.tups b xs e), fun b o xs e => frzs b o xs (I.base.frzs b o xs e), fun b ps e => ?_⟩, ?_, fun x c e => ?_, ?_, fun x c e => ?_, fun p hp => ?_, hok, I.len⟩
  · exact keep b o (neL b o e) hb (neC b o e hx) (I.base.keep b o e n hb hx) (I.base.free b o e n hx)
  · obtain ⟨sl, e1⟩ := I.base.slot b o e n hb hx
    obtain ⟨sl', e2⟩ := slot b _ (neL b o e) hb (neC b o e hx) e1 (I.base.free b o e n hx)
    exact ⟨sl', e2⟩
  · obtain ⟨o', e1⟩ := I.base.there b o e hx
    exact free b o' (neC b o e hx) e1 (I.base.free b o e n hx)
  · obtain ⟨o', e1⟩ := I.base.there b o e hx
    exact there b o' (neC b o e hx) e1
  · obtain ⟨m1, e1⟩ := I.base.tbls b ps e
    obtain ⟨m2, e2⟩ := tbls b _ e1
    exact ⟨m1 ++ m2, by rw [e2, Array.append_assoc]⟩
  · obtain ⟨m, hn, hl⟩ := I.loc
    refine ⟨m, ns m hn, fun i x v e1 e2 e3 => ?_⟩
    obtain ⟨u, r, l⟩ := hl i x v e1 e2 e3
    refine ⟨u, r, ?_⟩
    rcases l with l | ⟨k, c, e, z⟩
    · exact .inl l
    · exact .inr ⟨k, c, e, cellK x c e _ z⟩
  · obtain ⟨v, z⟩ := I.cell x c e
    exact ⟨v, cellK x c e v z⟩
  · obtain ⟨m, ⟨o, _, _, ho, _⟩, _⟩ := I.loc
    exact free _ o (fun z => (hch _ z).2.1 rfl) ho I.free
  · obtain ⟨v, o, ho, hd⟩ := I.cell x c e
    exact free c o (fun z => (hch c z).2.2.1 x c e rfl) ho (I.freeC x c e)
  · obtain ⟨e, n, ne, nf, d⟩ := I.pin p hp
    have nch : p.1 ∉ ch := fun z => (hch p.1 z).2.2.2 p hp rfl
    exact ⟨keep p.1 p.2 ne nf nch e n, free p.1 p.2 nch e n, ne, nf, d⟩
/-- .. where the frame's own object is kept too -/
theorem Inv.un {t' : Nat} (I : Inv X pins σ H s) (u : Un X.fs [] H H' s.heap h') (hok : HOk X.prog X.w H' h') : Inv X pins σ H' { s with heap := h', toks := t' } := by
  obtain ⟨m, ⟨o, es, ep, ho, r⟩, _⟩ := id I.loc
  obtain ⟨sl, hL⟩ := u.any ho I.free (by simp)
  exact I.step (g' := s.gens) (d' := s.drawn) (ch := []) (fun _ z => nomatch z) (fun b o _ hb _ e n => u.keep b o e n hb (by simp)) (fun b o _ hb _ e n => u.slot b o e n hb (by simp)) (fun b o _ e n => u.free b o e n (by simp)) (fun b o _ e => u.there b o e (by simp)) u.tups u.frzs u.tbls (fun m' hm => by
    obtain ⟨o', es', ep', ho', r'⟩ := hm
    rw [ho] at ho'; cases ho'
    exact ⟨_, es', ep', hL, r'⟩) hok I.bare
/-- behind a call (or a comprehension's block): the slots of this frame may have changed too, the records at ch may have turned -/
theorem Inv.call {g' : Array GenState} {t' : Nat} {d' : Drawn} {ch : List Addr} (I : Inv X pins σ H s) (u : Un (frs X.stack) ch H H' s.heap h') (hok : HOk X.prog X.w H' h') (hg : AllBare g')
    (hch : ∀ b ∈ ch, (b ∈ X.ex ∨ X.s₀.heap.objs.size ≤ b) ∧ b ≠ X.env.locals ∧ (∀ x c, X.env.cells.lookup x = some c → c ≠ b) ∧ ∀ p ∈ X.pn ++ pins, p.1 ≠ b) :
    Inv X pins σ H' { s with heap := h', gens := g', drawn := d', toks := t' } := by
  obtain ⟨m, ⟨o, es, ep, ho, r⟩, _⟩ := id I.loc
  obtain ⟨sl, hL⟩ := u.any ho I.free fun z => (hch _ z).2.1 rfl
  exact I.step (ch := ch) hch (fun b o hL hb hc e n => u.keep b o e n (fun z => (List.mem_cons.mp (I.stkSub b z)).elim hL hb) hc) (fun b o _ _ hc e n => u.any e n hc) (fun b o hc e n => u.free b o e n hc) (fun b o hc e => u.there b o e hc) u.tups u.frzs u.tbls (fun m' hm => by
    obtain ⟨o', es', ep', ho', r'⟩ := hm
    rw [ho] at ho'; cases ho'
    exact ⟨_, es', ep', hL, r'⟩) hok hg
/-- an untracked record of ours (an iterator) has turned -/
theorem Inv.turned {t' : Nat} {it : Addr} (I : Inv X pins σ H s) (k : ∀ b o, b ≠ it → s.heap.get? b = some o → h'.get? b = some o) (hn : H it = none) (hL : it ≠ X.env.locals)
    (h1 : it ∈ X.ex ∨ X.s₀.heap.objs.size ≤ it) (h2 : ∀ x c, X.env.cells.lookup x = some c → c ≠ it) (h3 : ∀ p ∈ X.pn ++ pins, p.1 ≠ it) : Inv X pins σ H { s with heap := h', toks := t' } := by
  have nit : ∀ b u, H b = some u → b ≠ it := fun b u e z => by rw [z, hn] at e; cases e
  refine I.step (g' := s.gens) (d' := s.drawn) (ch := [it]) (fun b hb => ?_) (fun b o _ _ hc e _ => k b o (fun z => hc (by simp [z])) e) (fun b o _ _ hc e _ => ⟨o.slots, k b o (fun z => hc (by simp [z])) e⟩) (fun _ _ _ _ n => n)
    (fun b o hc e => ⟨o, k b o (fun z => hc (by simp [z])) e⟩) (fun _ _ e => e) (fun _ _ _ e => e) (fun b ps e => ⟨#[], by rw [e]; simp⟩) (fun m hm => ?_) (fun b u e => ?_) I.bare
  · have e : b = it := by simpa using hb
    subst e
    exact ⟨h1, hL, h2, h3⟩
  · obtain ⟨o, es, ep, ho, r⟩ := hm
    exact ⟨o, es, ep, k _ o (Ne.symm hL) ho, r⟩
  · refine (I.hok b u e).stay (fun c v hc q => k c v ?_ q) (fun _ q => q) fun _ _ q => q
    rcases hc with z | z
    · rw [z]; exact nit b u e
    · exact nit c _ z
theorem Inv.tok (I : Inv X pins σ H s) (t : Nat) : Inv X pins σ H { s with toks := t } := I.un (h' := s.heap) (t' := t) Un.refl I.hok
/-- all objects kept -/
theorem Inv.kept {t' : Nat} (I : Inv X pins σ H s) (k : ∀ b u, s.heap.get? b = some u → h'.get? b = some u) : Inv X pins σ H { s with heap := h', toks := t' } := I.un (Un.kept k) (I.hok.kept k)
/-- a new object laid and tracked -/
theorem Inv.laid {a : Addr} {o : HO} {t' : Nat} (I : Inv X pins σ H s) (k : ∀ b u, s.heap.get? b = some u → h'.get? b = some u) (hp : s.heap.objs.size ≤ a) (new : ObjOk X.prog X.w (upd H a o) h' a o) :
    Inv X pins σ (upd H a o) { s with heap := h', toks := t' } := I.un (Un.laid k hp (I.hok.fresh hp)) (I.hok.laid k hp new)
/-- an object written -/
theorem Inv.write {x e : Addr} {o : HO} {t' : Nat} (I : Inv X pins σ H s) (mu : Mut (H x)) (he : e = x ∨ H e = some (.own x)) (k : ∀ b u, b ≠ e → s.heap.get? b = some u → h'.get? b = some u) (heo : ∃ u, h'.get? e = some u)
    (new : ObjOk X.prog X.w (upd H x o) h' x o) : Inv X pins σ (upd H x o) { s with heap := h', toks := t' } := I.un (Un.write mu he k heo) (I.hok.write mu he k heo new)
theorem Inv.pins_of {pins' : List (Addr × Obj)} (I : Inv X pins σ H s) (h : ∀ p ∈ pins', s.heap.get? p.1 = some p.2 ∧ H p.1 = none ∧ p.1 ≠ X.env.locals ∧ p.1 ∉ X.fs ∧ ∀ v, p.2.data ≠ .cell v) : Inv X pins' σ H s :=
  ⟨I.ok, I.os, I.bare, I.base, I.loc, I.cell, I.free, I.freeC, fun p hp => (List.mem_append.mp hp).elim (fun z => I.pin p (List.mem_append_left _ z)) (h p), I.hok, I.len⟩

theorem nodup_ix {N : List Str} (hN : N.Nodup) {i j : Nat} {x : Str} (a : N[i]? = some x) (b : N[j]? = some x) : i = j := by
  obtain ⟨h1, e1⟩ := List.getElem?_eq_some_iff.mp a
  obtain ⟨h2, e2⟩ := List.getElem?_eq_some_iff.mp b
  exact (List.getElem_inj hN).mp (e1.trans e2.symm)

/-- a name is stored; what changed -/
theorem store_ok2 {M : Model} {A : Around} {E : Value → Shared → Prop} {i : Nat} {x : Str} {v : V} {u : Value} {Q : Unit → Shared → Prop} (I : Inv X pins σ H s) (hN : X.N.Nodup) (hi : X.N[i]? = some x) (hx : Loc X.env.scope x) (r : RelV v u)
    (h : ∀ s', Inv X pins (σ.set i (some v)) H s' → (∃ a, Heap.SameBut a s.heap s'.heap ∧ (a = X.env.locals ∨ X.env.cells.lookup x = some a)) → Q () s') (hf : X.fn x = true ∨ X.env.scope.names.lookup x = some .local := by first | exact .inl rfl | exact .inr rfl | assumption) : wpAny M A (storeName X.env x u) Q E s := by
  obtain ⟨m, hn, hl⟩ := id I.loc
  have hcls : (X.env.scope.kind == .class || (X.env.scope.kind == .module && X.env.locals != X.env.globals)) = false := by rw [I.ok.kind]; rfl
  have hiσ : i < σ.length := by rw [I.len]; exact (List.getElem?_eq_some_iff.mp hi).1
  have cne := I.cne
  have tracked : ∀ {a : Addr} {h' : Heap}, (∃ o, s.heap.get? a = some o ∧ H a = none) → Heap.SameBut a s.heap h' → HOk X.prog X.w H h' := fun {a h'} ha hs b ob e => by
    obtain ⟨_, _, hfree⟩ := ha
    refine (I.hok b ob e).stay (fun c w' hc q => (hs.2 c ?_).trans q) (fun _ q => q) fun _ _ q => q
    rintro rfl
    rcases hc with rfl | hc
    · rw [hfree] at e; cases e
    · rw [hfree] at hc; cases hc
  rcases hx with hk | hk
  · refine wpAny_storeName_local hk hn (fun h' hn' hs => ?_) hcls
    obtain ⟨oL, _, _, hoL, _⟩ := id hn
    refine h _ ⟨I.ok, I.os, I.bare, ⟨fun b o e n hb hx => ?_, fun b o e n hb hx => ?_, I.base.free, fun b o e hx => ?_, I.base.tups, I.base.frzs, I.base.tbls⟩, ⟨_, hn', fun j y v' e1 e2 e3 => ?_⟩, fun y c e => ?_, I.free, I.freeC, fun p hp => ?_, tracked ⟨oL, hoL, I.free⟩ hs, by simpa using I.len⟩ ⟨_, hs, .inl rfl⟩
    · exact (hs.2 b (Nat.ne_of_lt (Nat.lt_of_lt_of_le (Heap.lt_size e) I.ok.above))).trans (I.base.keep b o e n hb hx)
    · obtain ⟨sl, e1⟩ := I.base.slot b o e n hb hx
      exact ⟨sl, (hs.2 b (Nat.ne_of_lt (Nat.lt_of_lt_of_le (Heap.lt_size e) I.ok.above))).trans e1⟩
    · obtain ⟨o', e1⟩ := I.base.there b o e hx
      exact ⟨o', (hs.2 b (Nat.ne_of_lt (Nat.lt_of_lt_of_le (Heap.lt_size e) I.ok.above))).trans e1⟩
    · by_cases hj : j = i
      · subst hj
        rw [hi] at e1; cases e1
        rw [List.getElem?_set_self hiσ] at e2
        cases e2
        exact ⟨u, r, .inl ⟨hk, by simp⟩⟩
      · rw [List.getElem?_set_ne (Ne.symm hj)] at e2
        obtain ⟨u', r', q⟩ := hl j y v' e1 e2 e3
        refine ⟨u', r', ?_⟩
        rcases q with ⟨k, e⟩ | ⟨k, c, e, z⟩
        · refine .inl ⟨k, ?_⟩
          have : y ≠ x := fun e => hj (nodup_ix hN e1 (e ▸ hi))
          simp [this, e]
        · exact .inr ⟨k, c, e, z.sameBut hs (cne y c e)⟩
    · obtain ⟨w', z⟩ := I.cell y c e
      exact ⟨w', z.sameBut hs (cne y c e)⟩
    · obtain ⟨e, n, ne, nf, d⟩ := I.pin p hp
      exact ⟨(hs.2 p.1 ne).trans e, n, ne, nf, d⟩
  · have hfn : X.fn x = true := by
      rcases hf with z | z
      · exact z
      · rw [z] at hk; cases hk
    obtain ⟨c, hc⟩ := I.ok.has x (.inl hk)
    obtain ⟨w', z⟩ := I.cell x c hc
    refine wpAny_storeName_cell I.ok.kind hk hc z (fun h' hc' hs => ?_)
    obtain ⟨oc, hoc, hocd⟩ := id z
    refine h { s with heap := h' } ⟨I.ok, I.os, I.bare, ⟨fun b o e n hb hx => ?_, fun b o e n hb hx => ?_, I.base.free, fun b o e hx => ?_, I.base.tups, I.base.frzs, I.base.tbls⟩, ⟨m, hn.sameBut hs (Ne.symm (cne x c hc)), fun j y v' e1 e2 e3 => ?_⟩, fun y c' e => ?_, I.free, I.freeC, fun p hp => ?_, tracked ⟨oc, hoc, I.freeC x c hc⟩ hs, by simpa using I.len⟩ ⟨c, hs, .inr hc⟩
    · exact (hs.2 b (Nat.ne_of_lt (Nat.lt_of_lt_of_le (Heap.lt_size e) (I.ok.cab x c hfn hc)))).trans (I.base.keep b o e n hb hx)
    · obtain ⟨sl, e1⟩ := I.base.slot b o e n hb hx
      exact ⟨sl, (hs.2 b (Nat.ne_of_lt (Nat.lt_of_lt_of_le (Heap.lt_size e) (I.ok.cab x c hfn hc)))).trans e1⟩
    · obtain ⟨o', e1⟩ := I.base.there b o e hx
      exact ⟨o', (hs.2 b (Nat.ne_of_lt (Nat.lt_of_lt_of_le (Heap.lt_size e) (I.ok.cab x c hfn hc)))).trans e1⟩
    · by_cases hj : j = i
      · subst hj
        rw [hi] at e1; cases e1
        rw [List.getElem?_set_self hiσ] at e2
        cases e2
        exact ⟨u, r, .inr ⟨.inl hk, c, hc, hc'⟩⟩
      · rw [List.getElem?_set_ne (Ne.symm hj)] at e2
        obtain ⟨u', r', q⟩ := hl j y v' e1 e2 e3
        refine ⟨u', r', ?_⟩
        rcases q with q | ⟨k, c', e, z'⟩
        · exact .inl q
        · refine .inr ⟨k, c', e, z'.sameBut hs ?_⟩
          rintro rfl
          exact hj (nodup_ix hN e1 (I.ok.inj _ _ _ e hc ▸ hi))
    · by_cases hcc : c' = c
      · subst hcc; exact ⟨_, hc'⟩
      · obtain ⟨w2, z2⟩ := I.cell y c' e
        exact ⟨w2, z2.sameBut hs hcc⟩
    · obtain ⟨e, n, ne, nf, d⟩ := I.pin p hp
      refine ⟨(hs.2 p.1 ?_).trans e, n, ne, nf, d⟩
      intro q
      rw [q, hoc] at e
      have q' : oc = p.2 := Option.some.inj e
      exact d w' (by rw [← q']; exact hocd)
theorem store_ok {M : Model} {A : Around} {E : Value → Shared → Prop} {i : Nat} {x : Str} {v : V} {u : Value} {Q : Unit → Shared → Prop} (I : Inv X pins σ H s) (hN : X.N.Nodup) (hi : X.N[i]? = some x) (hx : Loc X.env.scope x) (r : RelV v u)
    (h : ∀ s', Inv X pins (σ.set i (some v)) H s' → Q () s') (hf : X.fn x = true ∨ X.env.scope.names.lookup x = some .local := by first | exact .inl rfl | exact .inr rfl | assumption) : wpAny M A (storeName X.env x u) Q E s :=
  store_ok2 I hN hi hx r (fun s' I' _ => h s' I') hf
/-- behind a call or a block, the state as it is -/
theorem Inv.call' {s' : Shared} {ch : List Addr} (I : Inv X pins σ H s) (ho : s'.os = s.os) (u : Un (frs X.stack) ch H H' s.heap s'.heap) (hok : HOk X.prog X.w H' s'.heap) (hg : AllBare s'.gens)
    (hch : ∀ b ∈ ch, (b ∈ X.ex ∨ X.s₀.heap.objs.size ≤ b) ∧ b ≠ X.env.locals ∧ (∀ x c, X.env.cells.lookup x = some c → c ≠ b) ∧ ∀ p ∈ X.pn ++ pins, p.1 ≠ b) : Inv X pins σ H' s' := by
  obtain ⟨h', g', d', t', o'⟩ := s'
  have e : o' = s.os := ho
  subst e
  exact I.call (g' := g') (t' := t') (d' := d') u hok hg hch
end

/-! ### the judgements -/
/-- an exception: its class, its own dict's address (where it has one), the abstract heap behind it -/
abbrev XK := Value → Option Addr → Hp → Prop
abbrev St := List (Option V)
abbrev VK := V → Hp → Prop
/-- an expression's reading; a test's; an argument list's -/
abbrev TE := St → Hp → VK → Prop
abbrev TT := St → Hp → (Bool → Hp → Prop) → Prop
abbrev TA := St → Hp → (List V → Hp → Prop) → Prop
/-- what is wanted behind a statement -/
structure Ends where
  nx : St → Hp → Prop
  rt : VK
  bk : St → Hp → Prop := fun _ _ => False
  ct : St → Hp → Prop := fun _ _ => False
abbrev TS := Ends → St → Hp → Prop

def EP (X : Cx) (pins : List (Addr × Obj)) (σ : St) (Q : VK) (u : Value) (s' : Shared) : Prop := ∃ v H', Inv X pins σ H' s' ∧ RelV v u ∧ Q v H'
def TP (X : Cx) (pins : List (Addr × Obj)) (σ : St) (Q : Bool → Hp → Prop) (b : Bool) (s' : Shared) : Prop := ∃ H', Inv X pins σ H' s' ∧ Q b H'
def AP (X : Cx) (pins : List (Addr × Obj)) (σ : St) (Q : List V → Hp → Prop) (us : List Value) (s' : Shared) : Prop := ∃ vs H', Inv X pins σ H' s' ∧ Vals vs us ∧ Q vs H'
def SP (X : Cx) (pins : List (Addr × Obj)) (D : Ends) (f : Flow) (s' : Shared) : Prop :=
  match f with
  | .next => ∃ σ' H', Inv X pins σ' H' s' ∧ D.nx σ' H'
  | .brk => ∃ σ' H', Inv X pins σ' H' s' ∧ D.bk σ' H'
  | .cont => ∃ σ' H', Inv X pins σ' H' s' ∧ D.ct σ' H'
  | .ret u => ∃ v σ' H', Inv X pins σ' H' s' ∧ RelV v u ∧ D.rt v H'

def PE (X : Cx) (e : Expr) (t : TE) : Prop :=
  ∀ (pins : List (Addr × Obj)) (s : Shared) (σ : St) (H : Hp) (Q : VK), Inv X pins σ H s → t σ H Q → wpAny (model X.prog X.w) X.A (eval e X.env) (EP X pins σ Q) X.xe s
def PT (X : Cx) (e : Expr) (t : TT) : Prop :=
  ∀ (pins : List (Addr × Obj)) (s : Shared) (σ : St) (H : Hp) (Q : Bool → Hp → Prop), Inv X pins σ H s → t σ H Q → wpAny (model X.prog X.w) X.A (isTrue e X.env (eval e X.env)) (TP X pins σ Q) X.xe s
/-- a test whatever its 'whole' is (and, or) -/
def PW (X : Cx) (e : Expr) (t : TT) : Prop :=
  ∀ (whole : Sem Value) (pins : List (Addr × Obj)) (s : Shared) (σ : St) (H : Hp) (Q : Bool → Hp → Prop), Inv X pins σ H s → t σ H Q → wpAny (model X.prog X.w) X.A (isTrue e X.env whole) (TP X pins σ Q) X.xe s
theorem PW.pt {X : Cx} {e : Expr} {t : TT} (h : PW X e t) : PT X e t := h _
/-- an argument list (no star), from the left -/
def PA (X : Cx) (es : List Expr) (t : TA) : Prop :=
  ∀ (pos : Pos) (pins : List (Addr × Obj)) (s : Shared) (σ : St) (H : Hp) (Q : List V → Hp → Prop), Inv X pins σ H s → t σ H Q → wpAny (model X.prog X.w) X.A (spliced (backTo pos (starEach es X.env))) (AP X pins σ Q) X.xe s
def PS (X : Cx) (st : Stmt) (t : TS) : Prop :=
  ∀ (pins : List (Addr × Obj)) (s : Shared) (σ : St) (H : Hp) (D : Ends), Inv X pins σ H s → t D σ H → wpAny (model X.prog X.w) X.A (exec st X.env) (SP X pins D) X.xe s
def PSs (X : Cx) (st : List Stmt) (t : TS) : Prop :=
  ∀ (pins : List (Addr × Obj)) (s : Shared) (σ : St) (H : Hp) (D : Ends), Inv X pins σ H s → t D σ H → wpAny (model X.prog X.w) X.A (execs st X.env) (SP X pins D) X.xe s
/-- weaken the end -/
theorem thn {α : Type} {t : Sem α} {Q Q' : α → Shared → Prop} {M : Model} {A : Around} {E : Value → Shared → Prop} {s : Shared} (h : wpAny M A t Q E s) (hQ : ∀ a s, Q a s → Q' a s) : wpAny M A t Q' E s := wpAny_mono h hQ fun _ _ x => x
end L2

namespace L2
open PySem PySem.Spec PyProof.Rows
section
variable {X : Cx}

/-! ### names and constants -/
def tVar (i : Nat) : TE := fun σ H Q => ∃ v, σ[i]? = some (some v) ∧ Q v H
def tC (v : V) : TE := fun _ H Q => Q v H
theorem pe_var {i : Nat} {x : Str} {pos : Pos} (hN : X.N[i]? = some x) (hv : Vis X.env.scope x) (hd : (x == ("__debug__" : Str)) = false := by decide) (hcd : (x == ("__classdict__" : Str)) = false := by decide) : PE X (.Name x pos) (tVar i) := by
  intro pins s σ H Q I h
  obtain ⟨v, e, h⟩ := h
  obtain ⟨m, hn, hl⟩ := I.loc
  obtain ⟨u, r, l⟩ := hl i x v hN e hv
  have fin : EP X pins σ Q u s := ⟨v, H, I, r, h⟩
  rcases l with ⟨hk, hm⟩ | ⟨hk, c, hc, hcell⟩
  · exact wpAny_Name (wpAny_loadName_local I.ok.kind hk hn hm fin) hd
  · rcases hk with hk | hk
    · exact wpAny_Name (wpAny_loadName_cell I.ok.kind hk hc hcell fin) hd
    · exact wpAny_Name (wpAny_loadName_free I.ok.kind hk hc hcell fin hcd) hd
theorem pe_int {i j pos} : PE X (.Constant (.int i) j pos) (tC (.int i)) := fun _ _ _ H _ I h => wpAny_Constant_int ⟨.int i, H, I.tok _, ⟨_, rfl⟩, h⟩
theorem pe_bl {b j pos} : PE X (.Constant (.bool b) j pos) (tC (.bl b)) := fun _ _ _ H _ I h => Constant_bool ⟨.bl b, H, I, rfl, h⟩
theorem pe_str {x j pos} : PE X (.Constant (.str x) j pos) (tC (.str x)) := fun _ _ _ H _ I h => Calls.Constant_str ⟨.str x, H, I.tok _, ⟨_, rfl⟩, h⟩

/-- a global name of the def -/
def Gl (X : Cx) (x : Str) : Prop := X.env.kindOf x = some .globalImplicit
theorem ld_glob {E : Value → Shared → Prop} {pins : List (Addr × Obj)} {s : Shared} {σ : St} {H : Hp} {x : Str} {u : Value} {pos : Pos} {Q : Value → Shared → Prop} (I : Inv X pins σ H s) (hg : Gl X x) (hm : X.mg x = some u) (h : Q u s)
    (hd : (x == ("__debug__" : Str)) = false := by decide) : wpAny (model X.prog X.w) X.A (eval (.Name x pos) X.env) Q E s :=
  Calls.Name_function_global I.ok.kind hg (Calls.loadGlobal_global (by rw [I.ok.glob]; exact I.mod.glob.keeps I.bk) hm h) hd
theorem ld_blt {E : Value → Shared → Prop} {pins : List (Addr × Obj)} {s : Shared} {σ : St} {H : Hp} {x : Str} {u : Value} {pos : Pos} {Q : Value → Shared → Prop} (I : Inv X pins σ H s) (hg : Gl X x) (hm : X.mg x = none) (hv : bootBuiltins x = some u) (h : Q u s)
    (hn : x ≠ "__name__" := by decide) (hd : (x == ("__debug__" : Str)) = false := by decide) : wpAny (model X.prog X.w) X.A (eval (.Name x pos) X.env) Q E s := by
  obtain ⟨mb, h1, h2⟩ := I.mod.blt
  exact Calls.Name_function_global I.ok.kind hg (Calls.loadGlobal_builtin (by rw [I.ok.glob]; exact I.mod.glob.keeps I.bk) hm (by rw [I.ok.blt]; exact h1.keeps I.bk) ((h2 x hn).trans hv) h) hd
theorem pe_bltn {x : Str} {v : V} {u : Value} {pos : Pos} (hg : Gl X x) (hm : X.mg x = none) (hv : bootBuiltins x = some u) (r : RelV v u) (hn : x ≠ "__name__" := by decide) (hd : (x == ("__debug__" : Str)) = false := by decide) : PE X (.Name x pos) (tC v) :=
  fun _ _ _ H _ I h => ld_blt I hg hm hv ⟨v, H, I, r, h⟩ hn hd

/-! ### arithmetic -/
/-- two ints -/
def t2I (ta tb : TE) (k : Int → Int → Hp → Prop) : St → Hp → Prop := fun σ H => ta σ H fun x H1 => tb σ H1 fun y H2 => ∃ i j, x = .int i ∧ y = .int j ∧ k i j H2
def tAdd (ta tb : TE) : TE := fun σ H Q => t2I ta tb (fun i j H2 => Q (.int (i + j)) H2) σ H
def tSub (ta tb : TE) : TE := fun σ H Q => t2I ta tb (fun i j H2 => Q (.int (i - j)) H2) σ H
/-- the left factor below 2^64 -/
def tMul (ta tb : TE) : TE := fun σ H Q => t2I ta tb (fun i j H2 => (-(2 ^ 64) < i ∧ i < 2 ^ 64) ∧ Q (.int (i * j)) H2) σ H
variable {a b : Expr} {ta tb : TE} {pos : Pos}
/-! ### comparisons -/
def PC (X : Cx) (op : CmpOp) (a b : Expr) (t : TE) : Prop :=
  ∀ (pins : List (Addr × Obj)) (s : Shared) (σ : St) (H : Hp) (Q : VK), Inv X pins σ H s → t σ H Q →
    wpAny (model X.prog X.w) X.A (eval a X.env) (fun v s₁ => wpAny (model X.prog X.w) X.A (eval b X.env) (fun u s₂ => wpAny (model X.prog X.w) X.A (compareOp op v u) (EP X pins σ Q) X.xe s₂) X.xe s₁) X.xe s
def tCmp (p : Int → Int → Bool) (ta tb : TE) : TE := fun σ H Q => t2I ta tb (fun i j H2 => Q (.bl (p i j)) H2) σ H
abbrev tLt : TE → TE → TE := tCmp fun i j => decide (i < j)
abbrev tLe : TE → TE → TE := tCmp fun i j => decide (i ≤ j)
abbrev tGt : TE → TE → TE := tCmp fun i j => decide (j < i)
abbrev tGe : TE → TE → TE := tCmp fun i j => decide (j ≤ i)
abbrev tEqI : TE → TE → TE := tCmp fun i j => decide (i = j)
abbrev tNeI : TE → TE → TE := tCmp fun i j => !decide (i = j)
/-- is None -/
def tIsN (ta : TE) : TE := fun σ H Q => ta σ H fun x H1 => Q (.bl (decide (x = .non))) H1
def tNotN (ta : TE) : TE := fun σ H Q => ta σ H fun x H1 => Q (.bl (!decide (x = .non))) H1
/-- a comparison as a value, as a test -/
def tB (t : TE) : TT := fun σ H Q => t σ H fun x H1 => ∃ c, x = .bl c ∧ Q c H1
/-- an expression whose value is a bool, as a test -/
theorem pt_val {e : Expr} {t : TE} (h : PE X e t) (he : ∀ whole, isTrue e X.env whole = (do let v ← whole; standAt e.pos; holding [v] (truthy v)) := by intro _; rfl) : PT X e (tB t) := by
  intro pins s σ H Q I hw
  refine isTrue_plain (thn (h pins s σ H _ I hw) fun v s1 ⟨x, H1, I1, r1, q1⟩ => ?_) (he _)
  obtain ⟨d, rfl, q⟩ := q1
  cases r1
  exact wpAny_truthy_bool ⟨H1, I1, q⟩

/-! ### and, or, not -/
variable {tA tB' : TT} {rest : List Expr}
def tAnd (t u : TT) : TT := fun σ H Q => t σ H fun c H1 => if c = true then u σ H1 Q else Q false H1
def tOr (t u : TT) : TT := fun σ H Q => t σ H fun c H1 => if c = true then Q true H1 else u σ H1 Q
def tNot (t : TT) : TT := fun σ H Q => t σ H fun c H1 => Q (!c) H1
theorem pw_or1 (ha : PT X a tA) : PW X (.BoolOp .Or [a] pos) tA := by
  intro wh pins s σ H Q I h
  refine isTrue_or (thn (ha pins s σ H Q I h) fun c s1 e => ?_)
  cases c with
  | false => exact isTrue_or_nil e
  | true => exact e
theorem pw_or (ha : PT X a tA) (hb : PW X (.BoolOp .Or (b :: rest) pos) tB') : PW X (.BoolOp .Or (a :: b :: rest) pos) (tOr tA tB') := by
  intro wh pins s σ H Q I h
  refine isTrue_or (thn (ha pins s σ H _ I h) fun c s1 ⟨H1, I1, q1⟩ => ?_)
  cases c with
  | true => exact ⟨H1, I1, q1⟩
  | false => exact hb wh pins s1 σ H1 Q I1 q1
theorem pt_not (ha : PT X a tA) : PT X (.UnaryOp .Not a pos) (tNot tA) := by
  intro pins s σ H Q I h
  exact isTrue_not (ha pins s σ H (fun c H1 => Q (!c) H1) I h)
/-- .. as values (bools) -/
def tAndV (ta tb : TE) : TE := fun σ H Q => ta σ H fun x H1 => ∃ c, x = .bl c ∧ if c = true then tb σ H1 Q else Q (.bl false) H1
def tOrV (ta tb : TE) : TE := fun σ H Q => ta σ H fun x H1 => ∃ c, x = .bl c ∧ if c = true then Q (.bl true) H1 else tb σ H1 Q
def tNotV (ta : TE) : TE := fun σ H Q => ta σ H fun x H1 => ∃ c, x = .bl c ∧ Q (.bl (!c)) H1
/-- a if t else b -/
def tIf (t : TT) (ta tb : TE) : TE := fun σ H Q => t σ H fun c H1 => if c = true then ta σ H1 Q else tb σ H1 Q
end
end L2

namespace L2
open PySem PySem.Spec PyProof.Rows

/-! ### a list, a tuple that is read: tracked, frozen, or an object of the module -/
def SqL (K : PySem.W.Frag) (H : Hp) (a : Addr) (xs : List V) : Prop :=
  Rd H a (.lst xs) ∨
    ∃ (o : Obj) (its : Array Value) (n : Nat), K.lookup a = some o ∧ o.cls = .type "list" ∧ o.dict = none ∧ o.data = .seq its n ∧ its.size ≤ sizeLine ∧ Vals xs its.toList
def SqT (K : PySem.W.Frag) (H : Hp) (a : Addr) (xs : List V) : Prop :=
  Rd H a (.tup xs) ∨
    ∃ (o : Obj) (its : Array Value) (n : Nat), K.lookup a = some o ∧ o.cls = .type "tuple" ∧ o.data = .seq its n ∧ its.size ≤ sizeLine ∧ Vals xs its.toList
def absV : Value → Option V
  | .none => some .non
  | .bool b => some (.bl b)
  | .int i _ => some (.int i)
  | .str x _ => some (.str x)
  | .bytes b _ => some (.byt b)
  | .float b _ => some (.flt b)
  | .ref a => some (.ref a)
  | .type n => some (.ty n)
  | _ => none
theorem RelV.abs {x : V} {u : Value} (r : RelV x u) : absV u = some x := by
  cases x with
  | non => cases r; rfl
  | bl _ => cases r; rfl
  | int _ => obtain ⟨t, rfl⟩ := r; rfl
  | str _ => obtain ⟨t, rfl⟩ := r; rfl
  | byt _ => obtain ⟨t, rfl⟩ := r; rfl
  | flt _ => obtain ⟨t, rfl⟩ := r; rfl
  | ref _ => cases r; rfl
  | ty _ => cases r; rfl
theorem RelV.inj {x y : V} {u : Value} (r : RelV x u) (q : RelV y u) : x = y := Option.some.inj (r.abs.symm.trans q.abs)
theorem Vals.inj : ∀ {xs ys : List V} {us : List Value}, Vals xs us → Vals ys us → xs = ys
  | _, _, _, .nil, .nil => rfl
  | _, _, _, .cons r t, .cons r' t' => by rw [r.inj r', Vals.inj t t']
section
variable {X : Cx} {pins : List (Addr × Obj)} {σ : St} {H : Hp} {s : Shared} {a : Addr} {xs ys : List V}
theorem SqL.of {K : PySem.W.Frag} (h : H a = some (.lst xs)) : SqL K H a xs := .inl (.inl h)
theorem SqT.of {K : PySem.W.Frag} (h : H a = some (.tup xs)) : SqT K H a xs := .inl (.inl h)
theorem Inv.list (I : Inv X pins σ H s) (h : SqL X.K H a xs) : ∃ its : List Value, Vals xs its ∧ PlainL s.heap a its.toArray ∧ xs.length ≤ sizeLine := by
  rcases h with h | ⟨o, its, n, hk, hc, hd, hs, hz, r⟩
  · obtain ⟨z, its, n, r, e⟩ := h.ok I.hok
    exact ⟨its, r, ⟨_, n, e, rfl, rfl, rfl⟩, z⟩
  · refine ⟨its.toList, r, ⟨o, n, I.kIn a o hk, hc, hd, by simpa using hs⟩, ?_⟩
    have e := r.length
    simp only [Array.length_toList] at e
    omega
theorem Inv.tuple (I : Inv X pins σ H s) (h : SqT X.K H a xs) : ∃ its : List Value, Vals xs its ∧ IsTup s.heap a its.toArray ∧ xs.length ≤ sizeLine := by
  rcases h with h | ⟨o, its, n, hk, hc, hs, hz, r⟩
  · obtain ⟨z, its, r, p⟩ := h.ok I.hok
    exact ⟨its, r, p, z⟩
  · refine ⟨its.toList, r, ⟨o, I.kIn a o hk, hc, n, by simpa using hs⟩, ?_⟩
    have e := r.length
    simp only [Array.length_toList] at e
    omega
theorem Inv.list_inj (I : Inv X pins σ H s) (h : SqL X.K H a xs) (h' : SqL X.K H a ys) : xs = ys := by
  obtain ⟨its, r, ⟨o, n, e, _, _, d⟩, _⟩ := I.list h
  obtain ⟨its', r', ⟨o', n', e', _, _, d'⟩, _⟩ := I.list h'
  rw [e] at e'; cases e'
  rw [d] at d'
  injection d' with d1 _
  have : its = its' := by simpa using congrArg Array.toList d1
  subst this
  exact r.inj r'
theorem Inv.tuple_inj (I : Inv X pins σ H s) (h : SqT X.K H a xs) (h' : SqT X.K H a ys) : xs = ys := by
  obtain ⟨its, r, ⟨o, e, _, n, d⟩, _⟩ := I.tuple h
  obtain ⟨its', r', ⟨o', e', _, n', d'⟩, _⟩ := I.tuple h'
  rw [e] at e'; cases e'
  rw [d] at d'
  injection d' with d1 _
  have : its = its' := by simpa using congrArg Array.toList d1
  subst this
  exact r.inj r'
end

/-! ### another wish about exceptions -/
abbrev Cx.wish (X : Cx) (E : Value → Shared → Prop) : Cx := { X with xe := E }
/-- no exception leaves -/
abbrev Cx.nox (X : Cx) : Cx := X.wish fun _ _ => False
theorem Cx.Ok.wish {X : Cx} (ok : X.Ok) (E : Value → Shared → Prop) : (X.wish E).Ok :=
  ⟨ok.mod, ok.kind, ok.glob, ok.blt, ok.above, ok.inj, ok.has, ok.cab, ok.hd, ok.frames, ok.stk, ok.exf, ok.bs, ok.bsz, ok.noex, ok.exfs, ok.funs, ok.frf⟩
theorem Cx.Ok.unwish {X : Cx} {E : Value → Shared → Prop} (ok : (X.wish E).Ok) : X.Ok :=
  ⟨ok.mod, ok.kind, ok.glob, ok.blt, ok.above, ok.inj, ok.has, ok.cab, ok.hd, ok.frames, ok.stk, ok.exf, ok.bs, ok.bsz, ok.noex, ok.exfs, ok.funs, ok.frf⟩
section
variable {X : Cx} {pins : List (Addr × Obj)} {σ : St} {H : Hp} {s : Shared} {E : Value → Shared → Prop}
theorem Inv.wish (I : Inv X pins σ H s) (E : Value → Shared → Prop) : Inv (X.wish E) pins σ H s := ⟨I.ok.wish E, I.os, I.bare, I.base, I.loc, I.cell, I.free, I.freeC, I.pin, I.hok, I.len⟩
theorem Inv.unwish (I : Inv (X.wish E) pins σ H s) : Inv X pins σ H s := ⟨I.ok.unwish, I.os, I.bare, I.base, I.loc, I.cell, I.free, I.freeC, I.pin, I.hok, I.len⟩
theorem SP.unwish {D : Ends} {f : Flow} {s' : Shared} (h : SP (X.wish E) pins D f s') : SP X pins D f s' := by
  cases f with
  | next => obtain ⟨σ', H', I, q⟩ := h; exact ⟨σ', H', I.unwish, q⟩
  | brk => obtain ⟨σ', H', I, q⟩ := h; exact ⟨σ', H', I.unwish, q⟩
  | cont => obtain ⟨σ', H', I, q⟩ := h; exact ⟨σ', H', I.unwish, q⟩
  | ret u => obtain ⟨v, σ', H', I, r, q⟩ := h; exact ⟨v, σ', H', I.unwish, r, q⟩
theorem PE.nox {e : Expr} {t : TE} (h : PE X.nox e t) : PE X e t := fun pins s σ H Q I hw =>
  wpAny_mono (h pins s σ H Q (I.wish _) hw) (fun _ _ ⟨v, H', I', r, q⟩ => ⟨v, H', I'.unwish, r, q⟩) fun _ _ z => False.elim z
theorem PT.nox {e : Expr} {t : TT} (h : PT X.nox e t) : PT X e t := fun pins s σ H Q I hw =>
  wpAny_mono (h pins s σ H Q (I.wish _) hw) (fun _ _ ⟨H', I', q⟩ => ⟨H', I'.unwish, q⟩) fun _ _ z => False.elim z
theorem PSs.nox {st : List Stmt} {t : TS} (h : PSs X.nox st t) : PSs X st t := fun pins s σ H D I hw =>
  wpAny_mono (h pins s σ H D (I.wish _) hw) (fun _ _ q => q.unwish) fun _ _ z => False.elim z
end

/-! ### blocks and small statements -/
section
variable {X : Cx} {st : Stmt} {rest : List Stmt} {t u : TS} {e : Expr} {te : TE} {pos : Pos}
def tNext : TS := fun D σ H => D.nx σ H
def tSeq (t u : TS) : TS := fun D σ H => t { D with nx := u D } σ H
theorem pss_nil : PSs X [] tNext := fun _ _ σ H _ I h => wpAny_execs_nil ⟨σ, H, I, h⟩
theorem pss_cons (h1 : PS X st t) (h2 : PSs X rest u) : PSs X (st :: rest) (tSeq t u) := by
  intro pins s σ H D I h
  refine wpAny_execs_cons (thn (h1 pins s σ H { D with nx := u D } I h) fun f s1 q => ?_)
  cases f with
  | next =>
    obtain ⟨σ', H', I', q⟩ := q
    exact h2 pins s1 σ' H' D I' q
  | ret v => exact q
  | brk => exact q
  | cont => exact q
theorem pss_one (h1 : PS X st t) : PSs X [st] t := by
  intro pins s σ H D I h
  refine wpAny_execs_cons (thn (h1 pins s σ H D I h) fun f s1 q => ?_)
  cases f with
  | next => exact wpAny_execs_nil q
  | ret v => exact q
  | brk => exact q
  | cont => exact q
def tBreak : TS := fun D σ H => D.bk σ H
def tCont : TS := fun D σ H => D.ct σ H
/-- in a def's body nothing is shown -/
theorem Inv.quiet {pins : List (Addr × Obj)} {σ : St} {H : Hp} {s : Shared} (I : Inv X pins σ H s) : interactive X.env = false := by simp [interactive, I.ok.kind]
/-- an expression whose value is dropped -/
def tDrop (te : TE) : TS := fun D σ H => te σ H fun _ H1 => D.nx σ H1
theorem ps_expr (he : PE X e te) (hs : swapsWith e none pos.line X.env = pure false := by rfl) : PS X (.Expr e pos) (tDrop te) := by
  intro pins s σ H D I h
  exact wpAny_Expr_any (thn (he pins s σ H _ I h) fun v s1 ⟨x, H1, I1, r1, q1⟩ => ⟨σ, H1, I1, q1⟩) I.quiet hs
def tRet (te : TE) : TS := fun D σ H => te σ H D.rt
theorem ps_ret (he : PE X e te) : PS X (.Return (some e) pos) (tRet te) := by
  intro pins s σ H D I h
  exact wpAny_Return_some (thn (he pins s σ H _ I h) fun v s1 ⟨x, H1, I1, r1, q1⟩ => ⟨x, σ, H1, I1, r1, q1⟩)
def tRetN : TS := fun D _ H => D.rt .non H
def tIfS (c : TT) (t u : TS) : TS := fun D σ H => c σ H fun b H1 => if b = true then t D σ H1 else u D σ H1
theorem ps_if {c : Expr} {a b : List Stmt} {tc : TT} (hc : PT X c tc) (ha : PSs X a t) (hb : PSs X b u) : PS X (.If c a b pos) (tIfS tc t u) := by
  intro pins s σ H D I h
  refine wpAny_If (thn (hc pins s σ H _ I h) fun d s1 ⟨H1, I1, q1⟩ => ?_)
  cases d with
  | true => exact ha pins s1 σ H1 D I1 q1
  | false => exact hb pins s1 σ H1 D I1 q1
/-- code that the proof never comes to -/
def tNever : TS := fun _ _ _ => False
end

/-! ### targets -/
abbrev TG := V → St → Hp → (St → Hp → Prop) → Prop
abbrev TGs := List V → St → Hp → (St → Hp → Prop) → Prop
def PG (X : Cx) (target : Expr) (t : TG) : Prop :=
  ∀ (pins : List (Addr × Obj)) (s : Shared) (σ : St) (H : Hp) (v : V) (u : Value) (Q : St → Hp → Prop), Inv X pins σ H s → RelV v u → t v σ H Q →
    wpAny (model X.prog X.w) X.A (assign target X.env u) (fun _ s' => ∃ σ' H', Inv X pins σ' H' s' ∧ Q σ' H') X.xe s
/-- several targets, one after another -/
def PGs (X : Cx) (ts : List Expr) (t : TGs) : Prop :=
  ∀ (pins : List (Addr × Obj)) (s : Shared) (σ : St) (H : Hp) (vs : List V) (us : List Value) (Q : St → Hp → Prop), Inv X pins σ H s → Vals vs us → t vs σ H Q →
    wpAny (model X.prog X.w) X.A (assignInOrder ((assignEach ts X.env).map (·.2)) us) (fun _ s' => ∃ σ' H', Inv X pins σ' H' s' ∧ Q σ' H') X.xe s
/-- o[i] = v, by values -/
abbrev TSet := V → V → V → Hp → (Hp → Prop) → Prop
def PSet (X : Cx) (t : TSet) : Prop :=
  ∀ (pins : List (Addr × Obj)) (s : Shared) (σ : St) (H : Hp) (o i v : V) (ov iv u : Value) (Q : Hp → Prop), Inv X pins σ H s → RelV o ov → RelV i iv → RelV v u → t o i v H Q →
    wpAny (model X.prog X.w) X.A (setItem ov iv u) (fun _ s' => ∃ H', Inv X pins σ H' s' ∧ Q H') X.xe s
/-- a op= b, by values -/
abbrev TIp := V → V → Hp → VK → Prop
def PIp (X : Cx) (op : Operator) (t : TIp) : Prop :=
  ∀ (pins : List (Addr × Obj)) (s : Shared) (σ : St) (H : Hp) (x y : V) (v u : Value) (Q : VK), Inv X pins σ H s → RelV x v → RelV y u → t x y H Q →
    wpAny (model X.prog X.w) X.A (inplaceOp op v u) (EP X pins σ Q) X.xe s
section
variable {X : Cx} {pos : Pos}
def gName (i : Nat) : TG := fun v σ H Q => Q (σ.set i (some v)) H
theorem pg_name {i : Nat} {x : Str} (hN : X.N.Nodup) (hi : X.N[i]? = some x) (hx : Loc X.env.scope x) (hf : X.fn x = true ∨ X.env.scope.names.lookup x = some .local := by first | exact .inl rfl | exact .inr rfl | assumption) : PG X (.Name x pos) (gName i) := by
  intro pins s σ H v u Q I r h
  exact wpAny_assign_Name (store_ok I hN hi hx r (fun s' I' => ⟨_, H, I', h⟩) hf)
def gNil : TGs := fun vs σ H Q => vs = [] ∧ Q σ H
def gCons (t : TG) (u : TGs) : TGs := fun vs σ H Q => ∃ v r, vs = v :: r ∧ t v σ H fun σ' H' => u r σ' H' Q
theorem pgs_nil : PGs X [] gNil := by
  intro pins s σ H vs us Q I r h
  obtain ⟨e, h⟩ := h
  subst e
  cases r
  exact assignInOrder_nil ⟨σ, H, I, h⟩
theorem pgs_cons {e : Expr} {es : List Expr} {t : TG} {u : TGs} (h1 : PG X e t) (h2 : PGs X es u)
    (hs : (assignEach (e :: es) X.env).map (·.2) = assign e X.env :: (assignEach es X.env).map (·.2) := by rfl) : PGs X (e :: es) (gCons t u) := by
  intro pins s σ H vs us Q I r h
  obtain ⟨v, vr, e1, h⟩ := h
  subst e1
  cases r with
  | cons r rr =>
    rw [hs]
    refine assignInOrder_cons (thn (h1 pins s σ H _ _ _ I r h) fun _ s1 ⟨σ1, H1, I1, q1⟩ => ?_)
    exact h2 pins s1 σ1 H1 _ _ Q I1 rr q1
/-- (a, b, ..) = a tuple of that length -/
def gTup (K : PySem.W.Frag) (n : Nat) (t : TGs) : TG := fun v σ H Q => ∃ a xs, v = .ref a ∧ SqT K H a xs ∧ xs.length = n ∧ t xs σ H Q
theorem pg_tup {es : List Expr} {k : Nat} {t : TGs} {n : Nat} (hc : X.calm = true) (h : PGs X es t)
    (hn : (assignEach es X.env).length = n := by rfl) (hst : (assignEach es X.env).findIdx? (·.1) = none := by rfl) : PG X (.Tuple es k pos) (gTup X.K n t) := by
  intro pins s σ H v u Q I r hw
  obtain ⟨a, xs, e1, hq, hl, hw⟩ := hw
  subst e1
  cases r
  obtain ⟨its, rv, ht, hz⟩ := I.tuple hq
  refine assign_tupH I.hd ht (by simp [hn, ← hl, rv.length]) hst fun h' hx => ?_
  have I1 : Inv X pins σ H { s with heap := h' } := I.kept (t' := s.toks) fun b o e => hx b o (Nat.ne_of_lt (Heap.lt_size e)) e
  exact h pins _ σ H xs _ Q I1 (by simpa using rv) hw
/-- o[i] = .. -/
def gSub (to ti : TE) (t : TSet) : TG := fun v σ H Q => to σ H fun o H1 => ti σ H1 fun i H2 => t o i v H2 fun H3 => Q σ H3
/-- target = value -/
def tAsg (te : TE) (g : TG) : TS := fun D σ H => te σ H fun x H1 => g x σ H1 D.nx
theorem ps_asg {tg e : Expr} {te : TE} {g : TG} (he : PE X e te) (hg : PG X tg g) (hs : swapsWithSole [tg] e pos.line X.env = pure false := by rfl) (hw : swappedStores [tg] e X.env = pure none := by rfl)
    (h1 : (assignEach [tg] X.env).map (·.2) = [assign tg X.env] := by rfl) : PS X (.Assign [tg] e pos) (tAsg te g) := by
  intro pins s σ H D I h
  refine wpAny_Assign_stores (thn (he pins s σ H _ I h) fun v s1 ⟨x, H1, I1, r1, q1⟩ => ?_) hs hw
  rw [h1]
  exact thn (hg pins s1 σ H1 x v _ I1 r1 q1) fun _ s2 q => q
/-- name = value -/
theorem ps_set {i : Nat} {x : Str} {e : Expr} {te : TE} {pos' : Pos} (hN : X.N.Nodup) (hi : X.N[i]? = some x) (hx : Loc X.env.scope x) (he : PE X e te) (hs : swapsWith e (some (.Name x pos')) pos.line X.env = pure false := by rfl) (hf : X.fn x = true ∨ X.env.scope.names.lookup x = some .local := by first | exact .inl rfl | exact .inr rfl | assumption) :
    PS X (.Assign [.Name x pos'] e pos) (tAsg te (gName i)) := by
  intro pins s σ H D I h
  refine wpAny_Assign_Name (thn (he pins s σ H _ I h) fun v s1 ⟨y, H1, I1, r1, q1⟩ => ?_) hs
  exact store_ok I1 hN hi hx r1 (fun s2 I2 => ⟨_, H1, I2, q1⟩) hf
/-- a, b = x, y with plain local names: stored from the right; the pair itself is not tracked (the opening rows as in PyProof/Rows/TupAssign.lean:23) -/
def tPar (i j : Nat) (ta : TA) : TS := fun D σ H => ta σ H fun vs H1 => ∃ v w, vs = [v, w] ∧ D.nx ((σ.set i (some v)).set j (some w)) H1
/-- name op= e -/
def tAug (i : Nat) (te : TE) (ti : TIp) : TS := fun D σ H => ∃ x, σ[i]? = some (some x) ∧ te σ H fun y H1 => ti x y H1 fun z H2 => D.nx (σ.set i (some z)) H2
/-- o[i] op= e -/
def tAugS (to ti te : TE) (tget : V → V → Hp → VK → Prop) (tip : TIp) (tset : TSet) : TS := fun D σ H => to σ H fun o H1 => ti σ H1 fun i H2 => tget o i H2 fun x H3 => te σ H3 fun y H4 => tip x y H4 fun z H5 => tset o i z H5 fun H6 => D.nx σ H6
/-- o[i], by values -/
def PGet (X : Cx) (t : V → V → Hp → VK → Prop) : Prop :=
  ∀ (pins : List (Addr × Obj)) (s : Shared) (σ : St) (H : Hp) (o i : V) (ov iv : Value) (Q : VK), Inv X pins σ H s → RelV o ov → RelV i iv → t o i H Q →
    wpAny (model X.prog X.w) X.A (getItem ov iv) (EP X pins σ Q) X.xe s
/-- ints -/
def ipI (f : Int → Int → Int) : TIp := fun x y H Q => ∃ i j, x = .int i ∧ y = .int j ∧ Q (.int (f i j)) H
end

/-! ### while -/
section
variable {X : Cx} {pos : Pos}
/-- the invariant W with its measure -/
def tWhile (c : TT) (tb : TS) : TS := fun D σ H => ∃ W : Nat → St → Hp → Prop, (∃ m, W m σ H) ∧ ∀ m σ H, W m σ H →
  c σ H fun b H1 => if b = true then ∃ N : St → Hp → Prop, (∀ σ' H', N σ' H' → ∃ m', m' < m ∧ W m' σ' H') ∧ tb { D with nx := N, ct := N, bk := D.nx } σ H1 else D.nx σ H1
end

/-! ### what a loop or a comprehension walks -/
/-- at turn i: it yields x (the heap may grow), or it stops -/
structure It where
  go : Nat → Hp → Prop
  yld : Nat → Hp → V → Hp → Prop
  stop : Nat → Hp → Prop
/-- the iterator's own objects may turn: they are not the frame's, not pinned, younger than the entry (or a comprehension's own) -/
def FpOk (X : Cx) (pins : List (Addr × Obj)) (H : Hp) (b : Addr) : Prop :=
  H b = none ∧ b ≠ X.env.locals ∧ b ∉ X.fs ∧ (b ∈ X.ex ∨ X.s₀.heap.objs.size ≤ b) ∧ (∀ x c, X.env.cells.lookup x = some c → c ≠ b) ∧ ∀ p ∈ X.pn ++ pins, p.1 ≠ b
theorem Inv.fpOk {X : Cx} {pins : List (Addr × Obj)} {σ : St} {H H' : Hp} {s : Shared} {b : Addr} (I : Inv X pins σ H s) (hb : s.heap.objs.size ≤ b) (hn : H' b = none) : FpOk X pins H' b := by
  refine ⟨hn, Nat.ne_of_gt (Nat.lt_of_lt_of_le I.lt hb), I.nofs hb, .inr (Nat.le_trans I.sz hb), fun x c e z => ?_, fun p hp z => ?_⟩
  · obtain ⟨v, q⟩ := I.cell x c e
    exact absurd (Nat.lt_of_lt_of_le q.lt (by rw [z]; exact hb)) (Nat.lt_irrefl _)
  · exact absurd (Nat.lt_of_lt_of_le (Heap.lt_size (I.pin p hp).1) (by rw [z]; exact hb)) (Nat.lt_irrefl _)
structure Turn (P : Program) (w : World) (K : PySem.W.Frag) (tg : Expr) (J : It) (fp : List Addr) (it : Addr) (tn : Nat → Heap → Prop) : Prop where
  mem : it ∈ fp
  obj : ∀ i h, tn i h → ∀ b ∈ fp, ∃ o, h.get? b = some o ∧ ∀ v, o.data ≠ .cell v
  keep : ∀ i h h', tn i h → (∀ b ∈ fp, ∀ o, h.get? b = some o → h'.get? b = some o) → tn i h'
  item : ∀ (X : Cx), X.prog = P → X.w = w → X.K = K → X.calm = true → ∀ (i : Nat) (pins : List (Addr × Obj)) (s : Shared) (σ : St) (H : Hp) (E : Value → Shared → Prop), Inv X pins σ H s → (∀ b ∈ fp, FpOk X pins H b) → tn i s.heap → J.go i H →
    wpAny (model P w) X.A (pyNext (.ref it)) (fun r s1 => ∃ u, r = some u ∧
      wpAny (model P w) X.A (letOwnedTupleGo tg (.ref it) u) (fun _ s2 => ∃ x H', Inv X pins σ H' s2 ∧ RelV x u ∧ J.yld i H x H' ∧ tn (i + 1) s2.heap ∧ ∀ b ∈ fp, H' b = none) E s1) E s
  done : ∀ (X : Cx), X.prog = P → X.w = w → X.K = K → X.calm = true → ∀ (i : Nat) (pins : List (Addr × Obj)) (s : Shared) (σ : St) (H : Hp) (E : Value → Shared → Prop), Inv X pins σ H s → (∀ b ∈ fp, FpOk X pins H b) → tn i s.heap → J.stop i H →
    wpAny (model P w) X.A (pyNext (.ref it)) (fun r s1 => r = none ∧ Inv X pins σ H s1) E s
  self : ∀ (A : Around) (i : Nat) (s : Shared) (Q : Value → Shared → Prop) (E : Value → Shared → Prop), tn i s.heap → Q (.ref it) s → wpAny (model P w) A (pyIter (.ref it)) Q E s
abbrev TI := St → Hp → (It → Hp → Prop) → Prop
/-- an iterator has come -/
def PIE (X : Cx) (pins : List (Addr × Obj)) (σ : St) (tg : Expr) (R : It → Hp → Prop) (itv : Value) (s2 : Shared) : Prop :=
  ∃ (it : Addr) (fp : List Addr) (tn : Nat → Heap → Prop) (J : It) (H' : Hp), itv = .ref it ∧ Inv X pins σ H' s2 ∧ Turn X.prog X.w X.K tg J fp it tn ∧ tn 0 s2.heap ∧ (∀ b ∈ fp, FpOk X pins H' b) ∧ R J H'
def PI (X : Cx) (tg iter : Expr) (wi : TI) : Prop :=
  ∀ (pins : List (Addr × Obj)) (s : Shared) (σ : St) (H : Hp) (R : It → Hp → Prop), Inv X pins σ H s → wi σ H R →
    wpAny (model X.prog X.w) X.A (eval iter X.env) (fun v s1 => wpAny (model X.prog X.w) X.A (pyIter v) (PIE X pins σ tg R) X.xe s1) X.xe s

/-- the step ahead of the store is nothing for an iterator that keeps no tuple -/
theorem go_of {M : Model} {A : Around} {E : Value → Shared → Prop} {s : Shared} {tg : Expr} {it : Addr} {u : Value} {o : Obj} {n : String} {vs : Array Value} {Q : Unit → Shared → Prop} (ho : s.heap.get? it = some o) (hc : o.cls = .type n) (hd : o.data = .fields vs)
    (hn : ["enumerate", "zip", "dict_itemiterator", "dict_reverseitemiterator", "odict_iterator", "itertools.zip_longest", "itertools.pairwise"].contains n = false) (hQ : Q () s) : wpAny M A (letOwnedTupleGo tg (.ref it) u) Q E s := by
  unfold letOwnedTupleGo
  cases tg <;> first
    | exact wpAny_pure hQ
    | (cases u <;> first
        | exact wpAny_pure hQ
        | (refine wpAny_bind (wpAny_load ho ?_)
           rw [hc, hd]
           show wpAny M A (if (["enumerate", "zip", "dict_itemiterator", "dict_reverseitemiterator", "odict_iterator", "itertools.zip_longest", "itertools.pairwise"].contains n && vs[0]? == some (rawInt _)) = true then _ else _) Q E s
           rw [if_neg (by intro h; rw [hn, Bool.false_and] at h; cases h)]
           exact wpAny_pure hQ))

/-- the list at a, as it stands at each turn (a loop may append to it) -/
def Itl (K : PySem.W.Frag) (a : Addr) : It :=
  ⟨fun i H => ∃ xs x, SqL K H a xs ∧ xs[i]? = some x, fun i H x H' => H' = H ∧ ∀ xs, SqL K H a xs → xs[i]? = some x, fun i H => ∃ xs, SqL K H a xs ∧ xs.length ≤ i⟩
def Itt (K : PySem.W.Frag) (a : Addr) : It :=
  ⟨fun i H => ∃ xs x, SqT K H a xs ∧ xs[i]? = some x, fun i H x H' => H' = H ∧ ∀ xs, SqT K H a xs → xs[i]? = some x, fun i H => ∃ xs, SqT K H a xs ∧ xs.length ≤ i⟩
/-- lo, lo + 1, .. (n of them) -/
def Itr (lo : Int) (n : Nat) : It := ⟨fun i _ => i < n, fun i H x H' => H' = H ∧ x = .int (lo + i), fun i _ => n ≤ i⟩
theorem turn_list {P : Program} {w : World} {K : PySem.W.Frag} {tg : Expr} (a it : Addr) : Turn P w K tg (Itl K a) [it] it (fun i h => h.IsListIter it a i) where
  mem := by simp
  obj := fun i h st b hb => by
    have e : b = it := by simpa using hb
    subst e
    obtain ⟨o, e, c, d⟩ := st
    exact ⟨o, e, fun v z => by rw [d] at z; cases z⟩
  keep := fun i h h' st k => st.at fun o e => k it (by simp) o e
  item := by
    intro X hP hw hK hc i pins s σ H E I hf st hg
    subst hP hw hK
    obtain ⟨xs, x, hq, hx⟩ := hg
    obtain ⟨its, rv, p, hz⟩ := I.list hq
    obtain ⟨u, hu, ru⟩ := rv.get hx
    obtain ⟨f0, f1, f2, f3, f4, f5⟩ := hf it (by simp)
    refine wpAny_pyNext_list_item st p.isList (x := u) (by simpa using hu) fun h' st' sb => ?_
    have I1 : Inv X pins σ H { s with heap := h' } := I.turned (t' := s.toks) (fun b o hb e => (sb.2 b hb).trans e) f0 f1 f3 f4 f5
    obtain ⟨o, e, c, d⟩ := id st'
    exact ⟨u, rfl, go_of (s := { s with heap := h' }) e c d (by decide) ⟨x, H, I1, ru, ⟨rfl, fun ys hy => by rw [I.list_inj hy hq]; exact hx⟩, st', fun b hb => (hf b hb).1⟩⟩
  done := by
    intro X hP hw hK hc i pins s σ H E I hf st hg
    subst hP hw hK
    obtain ⟨xs, hq, hx⟩ := hg
    obtain ⟨its, rv, p, hz⟩ := I.list hq
    obtain ⟨f0, f1, f2, f3, f4, f5⟩ := hf it (by simp)
    have hl := rv.length
    exact list_endH I.hd st p.isList (by simp; omega) fun h' eb => ⟨rfl, I.turned (t' := s.toks) (fun b o hb e => eb b o hb e) f0 f1 f3 f4 f5⟩
  self := fun _ _ _ _ _ st h => wpAny_pyIter_listiter st h
theorem turn_range {P : Program} {w : World} {K : PySem.W.Frag} {tg : Expr} (it : Addr) (lo : Int) (n : Nat) : Turn P w K tg (Itr lo n) [it] it (fun i h => IsRangeIter h it (lo + (i : Nat) * 1) ((n : Int) - (i : Nat)) 1) where
  mem := by simp
  obj := fun i h st b hb => by
    have e : b = it := by simpa using hb
    subst e
    exact ⟨_, st, fun v z => by
      have z' : Data.fields _ = Data.cell v := z
      cases z'⟩
  keep := fun i h h' st k => k it (by simp) _ st
  item := by
    intro X hP hw hK hc i pins s σ H E I hf st hg
    subst hP hw hK
    obtain ⟨f0, f1, f2, f3, f4, f5⟩ := hf it (by simp)
    refine wpAny_pyNext_range_item st (by have : i < n := hg; omega) fun h' st0 sb => ?_
    have st' : IsRangeIter h' it (lo + ((i + 1 : Nat) : Int) * 1) ((n : Int) - ((i + 1 : Nat) : Int)) 1 := by
      rw [show lo + ((i + 1 : Nat) : Int) * 1 = lo + (i : Int) * 1 + 1 by omega, show (n : Int) - ((i + 1 : Nat) : Int) = (n : Int) - (i : Int) - 1 by omega]
      exact st0
    have I1 : Inv X pins σ H { s with heap := h', toks := s.toks + 1 } := I.turned (fun b o hb e => sb.extBut b o hb e) f0 f1 f3 f4 f5
    exact ⟨_, rfl, go_of (s := { s with heap := h', toks := s.toks + 1 }) (n := "range_iterator") st' rfl rfl (by decide) ⟨.int (lo + i), H, I1, ⟨_, by rw [Int.mul_one]⟩, ⟨rfl, rfl⟩, st', fun b hb => (hf b hb).1⟩⟩
  done := by
    intro X hP hw hK hc i pins s σ H E I hf st hg
    subst hP hw hK
    obtain ⟨f0, f1, f2, f3, f4, f5⟩ := hf it (by simp)
    exact range_endH I.hd st (by have : n ≤ i := hg; omega) fun h' eb => ⟨rfl, I.turned (t' := s.toks) (fun b o hb e => eb b o hb e) f0 f1 f3 f4 f5⟩
  self := fun _ _ _ _ _ st h => wpAny_pyIter_rangeiter st h
end L2

namespace L2
open PySem PySem.Spec PyProof.Rows
section
variable {X : Cx} {tg : Expr}
def iList (K : PySem.W.Frag) (tl : TE) : TI := fun σ H R => tl σ H fun x H1 => ∃ a, x = .ref a ∧ (∃ xs, SqL K H1 a xs) ∧ R (Itl K a) H1
def iTup (K : PySem.W.Frag) (tl : TE) : TI := fun σ H R => tl σ H fun x H1 => ∃ a, x = .ref a ∧ (∃ xs, SqT K H1 a xs) ∧ R (Itt K a) H1
theorem pi_list {l : Expr} {tl : TE} (hl : PE X l tl) : PI X tg l (iList X.K tl) := by
  intro pins s σ H R I h
  refine thn (hl pins s σ H _ I h) fun v s1 ⟨x, H1, I1, r1, q1⟩ => ?_
  obtain ⟨a, e, ⟨xs, hq⟩, q⟩ := q1
  subst e
  cases r1
  obtain ⟨its, rv, p, hz⟩ := I1.list hq
  refine wpAny_pyIter_list p.isList ?_
  refine ⟨s1.heap.objs.size, [s1.heap.objs.size], _, _, H1, rfl, I1.kept (t' := s1.toks) fun b o e => Heap.get?_push_of_some _ e, turn_list a _, ⟨_, Heap.get?_push_size _ rfl, rfl, rfl⟩, fun b hb => ?_, q⟩
  have e : b = s1.heap.objs.size := by simpa using hb
  subst e
  exact I1.fpOk (Nat.le_refl _) (I1.hok.fresh (Nat.le_refl _))
/-- a range object just made, walked -/
theorem range_it {pins : List (Addr × Obj)} {σ : St} {H : Hp} {s : Shared} {R : It → Hp → Prop} {E : Value → Shared → Prop} {lo hi : Int} {t u v : Tok} {tk : Nat} (I : Inv X pins σ H s) (h1 : -(2 ^ 62) ≤ lo) (h2 : lo < 2 ^ 62) (h3 : -(2 ^ 62) ≤ hi) (h4 : hi < 2 ^ 62)
    (q : R (Itr lo (hi - lo).toNat) H) : wpAny (model X.prog X.w) X.A (pyIter (.ref s.heap.objs.size)) (PIE X pins σ tg R) E { s with heap := s.heap.push { cls := .type "range", data := .fields #[.int lo t, .int hi u, .int 1 v] }, toks := tk } := by
  refine wpAny_pyIter_range (IsRange.new ..) (small_one h1 h2 h3 h4) ?_
  have I1 : Inv X pins σ H { s with heap := s.heap.push { cls := .type "range", data := .fields #[.int lo t, .int hi u, .int 1 v] }, toks := tk } := I.kept fun b o e => Heap.get?_push_of_some _ e
  refine ⟨(s.heap.push { cls := .type "range", data := .fields #[.int lo t, .int hi u, .int 1 v] }).objs.size, [(s.heap.push { cls := .type "range", data := .fields #[.int lo t, .int hi u, .int 1 v] }).objs.size], _, _, H, rfl,
    I1.kept (t' := tk) fun b o e => Heap.get?_push_of_some _ e, turn_range _ lo (hi - lo).toNat, ?_, fun b hb => ?_, q⟩
  · have e1 : lo + ((0 : Nat) : Int) * 1 = lo := by simp
    have e2 : (((hi - lo).toNat : Nat) : Int) - ((0 : Nat) : Int) = Builtin.Range.rangeSize lo hi 1 := by rw [rangeSize_one]; split <;> omega
    show IsRangeIter _ _ (lo + ((0 : Nat) : Int) * 1) ((((hi - lo).toNat : Nat) : Int) - ((0 : Nat) : Int)) 1
    rw [e1, e2]
    exact Heap.get?_push_size _ rfl
  · have e : b = (s.heap.push { cls := .type "range", data := .fields #[.int lo t, .int hi u, .int 1 v] }).objs.size := by simpa using hb
    subst e
    exact I1.fpOk (Nat.le_refl _) (I1.hok.fresh (Nat.le_refl _))
def iRng1 (ta : TA) : TI := fun σ H R => ta σ H fun vs H1 => ∃ j : Int, vs = [.int j] ∧ -(2 ^ 62) ≤ j ∧ j < 2 ^ 62 ∧ R (Itr 0 j.toNat) H1
def iRng2 (ta : TA) : TI := fun σ H R => ta σ H fun vs H1 => ∃ i j : Int, vs = [.int i, .int j] ∧ (-(2 ^ 62) ≤ i ∧ i < 2 ^ 62 ∧ -(2 ^ 62) ≤ j ∧ j < 2 ^ 62) ∧ R (Itr i (j - i).toNat) H1
theorem pi_range1 {a : Expr} {ta : TA} {p pos : Pos} (hg : Gl X "range") (hm : X.mg "range" = none) (ha : PA X [a] ta) (hs : starEach [a] X.env = [(false, eval a X.env)] := by rfl) : PI X tg (.Call (.Name "range" p) [a] [] pos) (iRng1 ta) := by
  intro pins s σ H R I h
  refine Call_ (ld_blt I hg hm boot_range (PyProof.Rows.callWith_type1 (thn (ha pos pins s σ H _ I h) fun us s1 ⟨vs, H1, I1, r1, q1⟩ => ?_) hs rfl))
  obtain ⟨j, e, q1, q2, q⟩ := q1
  subst e
  cases r1 with
  | cons r rr =>
    cases rr
    obtain ⟨t, rfl⟩ := r
    exact call_range_1 (range_it I1 (by omega) (by omega) q1 q2 (by simpa using q))
theorem pi_range2 {a b : Expr} {ta : TA} {p pos : Pos} (hg : Gl X "range") (hm : X.mg "range" = none) (ha : PA X [a, b] ta) (hs : starEach [a, b] X.env = [(false, eval a X.env), (false, eval b X.env)] := by rfl) (hs2 : starEach [b] X.env = [(false, eval b X.env)] := by rfl) :
    PI X tg (.Call (.Name "range" p) [a, b] [] pos) (iRng2 ta) := by
  intro pins s σ H R I h
  refine Call_ (ld_blt I hg hm boot_range (PyProof.Rows.callWith_type1 (thn (ha pos pins s σ H _ I h) fun us s1 ⟨vs, H1, I1, r1, q1⟩ => ?_) (by rw [hs, hs2]) (by rw [hs2]; rfl)))
  obtain ⟨i, j, e, ⟨q1, q2, q3, q4⟩, q⟩ := q1
  subst e
  cases r1 with
  | cons r rr =>
    cases rr with
    | cons r' rr =>
      cases rr
      obtain ⟨t, rfl⟩ := r
      obtain ⟨t', rfl⟩ := r'
      exact call_range_2 (range_it I1 q1 q2 q3 q4 q)

/-! ### for -/
/-- W: the invariant by the turn and a measure; N: what the body is to reach -/
def tFor (wi : TI) (g : TG) (tb : TS) : TS := fun D σ H => wi σ H fun J H1 => ∃ W : Nat → Nat → St → Hp → Prop, (∃ m, W 0 m σ H1) ∧ ∀ i m σ H, W i m σ H →
  (J.stop i H ∧ D.nx σ H) ∨ (J.go i H ∧ ∃ N : St → Hp → Prop, (∀ σ' H', N σ' H' → ∃ m', m' < m ∧ W (i + 1) m' σ' H') ∧ ∀ x H', J.yld i H x H' → g x σ H' fun σ2 H2 => tb { D with nx := N, ct := N, bk := D.nx } σ2 H2)
/-- the records at fp as they stand -/
def pinsAt (fp : List Addr) (h : Heap) : List (Addr × Obj) := fp.filterMap fun b => (h.get? b).map fun o => (b, o)
theorem mem_pinsAt {fp : List Addr} {h : Heap} {b : Addr} {o : Obj} (hb : b ∈ fp) (e : h.get? b = some o) : (b, o) ∈ pinsAt fp h := List.mem_filterMap.mpr ⟨b, hb, by rw [e]; rfl⟩
theorem of_pinsAt {fp : List Addr} {h : Heap} {p : Addr × Obj} (hp : p ∈ pinsAt fp h) : p.1 ∈ fp ∧ h.get? p.1 = some p.2 := by
  obtain ⟨b, hb, e⟩ := List.mem_filterMap.mp hp
  cases q : h.get? b with
  | none => rw [q] at e; cases e
  | some o =>
    rw [q] at e
    have e' : (b, o) = p := Option.some.inj e
    subst e'
    exact ⟨hb, q⟩
theorem Inv.pinned {pins : List (Addr × Obj)} {σ : St} {H : Hp} {s : Shared} {fp : List Addr} (I : Inv X pins σ H s) (hf : ∀ b ∈ fp, FpOk X pins H b) (ho : ∀ b ∈ fp, ∃ o, s.heap.get? b = some o ∧ ∀ v, o.data ≠ .cell v) : Inv X (pins ++ pinsAt fp s.heap) σ H s :=
  I.pins_of fun p hp => (List.mem_append.mp hp).elim (fun z => I.pin p (List.mem_append_right _ z)) fun z => by
    obtain ⟨hb, e⟩ := of_pinsAt z
    obtain ⟨f0, f1, f2, _⟩ := hf p.1 hb
    obtain ⟨o, e', d⟩ := ho p.1 hb
    rw [e] at e'; cases e'
    exact ⟨e, f0, f1, f2, d⟩
theorem Inv.unpinned {pins pl : List (Addr × Obj)} {σ : St} {H : Hp} {s : Shared} (I : Inv X (pins ++ pl) σ H s) : Inv X pins σ H s := I.pins_of fun p hp => I.pin p (List.mem_append_right _ (List.mem_append_left _ hp))
theorem ps_for {iter : Expr} {body : List Stmt} {wi : TI} {g : TG} {tb : TS} {pos : Pos} (hp : PassesOwn (model X.prog X.w) X.A X.env X.xe) (hc : X.calm = true) (hi : PI X tg iter wi) (hg : PG X tg g) (hb : PSs X body tb)
    (hs : ∀ x, foldedSetIterable iter X.env x = pure x := by intro _; rfl) : PS X (.For tg iter body [] pos) (tFor wi g tb) := by
  intro pins s σ H D I h
  refine wpAny_For (thn (hi pins s σ H _ I h) fun v s1 h1 => thn h1 fun itv s2 h2 => ?_) hs
  obtain ⟨it, fp, tn, J, H2, e, I2, T, st2, f2, W, ⟨m0, w0⟩, turn⟩ := h2
  subst e
  -- what stays true of the iterator's objects through the loop
  have stat : ∀ {H' : Hp}, (∀ b ∈ fp, H' b = none) → ∀ b ∈ fp, FpOk X pins H' b := fun hn b hb => ⟨hn b hb, (f2 b hb).2⟩
  refine codeAny_forLoop_any (fun n s' => ∃ i σ' H', Inv X pins σ' H' s' ∧ tn i s'.heap ∧ (∀ b ∈ fp, H' b = none) ∧ W i n σ' H') ?_ m0 ⟨0, σ, H2, I2, st2, fun b hb => (f2 b hb).1, w0⟩
  rintro n s3 ⟨i, σ3, H3, I3, st3, fr3, w3⟩
  rcases turn i n σ3 H3 w3 with ⟨stop, qn⟩ | ⟨go, N, hN, step⟩
  · refine wpAny_passesOwn hp (thn (T.done X rfl rfl rfl hc i pins s3 σ3 H3 X.xe I3 (stat fr3) st3 stop) fun r s4 ⟨hr, I4⟩ => ?_)
    subst hr
    exact wpAny_execs_nil ⟨σ3, H3, I4, qn⟩
  · refine wpAny_passesOwn hp (thn (T.item X rfl rfl rfl hc i pins s3 σ3 H3 X.xe I3 (stat fr3) st3 go) fun r s4 ⟨u, hr, h4⟩ => ?_)
    subst hr
    refine wpAny_passesOwn hp (thn h4 fun _ s5 ⟨x, H5, I5, r5, y5, st5, fr5⟩ => ?_)
    have I5' := I5.pinned (stat fr5) (T.obj _ _ st5)
    refine wpAny_passesOwn hp (thn (hg _ s5 σ3 H5 x u _ I5' r5 (step x H5 y5)) fun _ s6 ⟨σ6, H6, I6, q6⟩ => ?_)
    refine wpAny_passesOwn hp (thn (hb _ s6 σ6 H6 _ I6 q6) fun f s7 q7 => ?_)
    have again : ∀ {σ7 : St} {H7 : Hp}, Inv X (pins ++ pinsAt fp s5.heap) σ7 H7 s7 → N σ7 H7 → ∃ m, m < n ∧ ∃ i σ' H', Inv X pins σ' H' s7 ∧ tn i s7.heap ∧ (∀ b ∈ fp, H' b = none) ∧ W i m σ' H' := fun {σ7 H7} I7 n7 => by
      obtain ⟨m', hm, w7⟩ := hN σ7 H7 n7
      refine ⟨m', hm, i + 1, σ7, H7, I7.unpinned, T.keep _ _ _ st5 fun b hb o e => (I7.pin (b, o) (List.mem_append_right _ (List.mem_append_right _ (mem_pinsAt hb e)))).1, fun b hb => ?_, w7⟩
      obtain ⟨o, e, d⟩ := T.obj _ _ st5 b hb
      exact (I7.pin (b, o) (List.mem_append_right _ (List.mem_append_right _ (mem_pinsAt hb e)))).2.1
    cases f with
    | next => obtain ⟨σ7, H7, I7, n7⟩ := q7; exact again I7 n7
    | cont => obtain ⟨σ7, H7, I7, n7⟩ := q7; exact again I7 n7
    | brk => obtain ⟨σ7, H7, I7, q7⟩ := q7; exact ⟨σ7, H7, I7.unpinned, q7⟩
    | ret v => obtain ⟨x7, σ7, H7, I7, r7, q7⟩ := q7; exact ⟨x7, σ7, H7, I7.unpinned, r7, q7⟩
end

/-! ### the forms one uses -/
/-- over a list that the body leaves as it is -/
theorem for_list {K : PySem.W.Frag} {a : Addr} {xs : List V} {g : TG} {tb : TS} {D : Ends} {σ : St} {H : Hp} (Pv : Nat → St → Hp → Prop) (h0 : Pv 0 σ H) (hl : ∀ i σ H, i ≤ xs.length → Pv i σ H → SqL K H a xs)
    (hs : ∀ i x σ H, xs[i]? = some x → Pv i σ H → g x σ H fun σ2 H2 => tb { D with nx := Pv (i + 1), ct := Pv (i + 1), bk := D.nx } σ2 H2) (hd : ∀ σ H, Pv xs.length σ H → D.nx σ H) :
    ∃ W : Nat → Nat → St → Hp → Prop, (∃ m, W 0 m σ H) ∧ ∀ i m σ H, W i m σ H →
      ((Itl K a).stop i H ∧ D.nx σ H) ∨ ((Itl K a).go i H ∧ ∃ N : St → Hp → Prop, (∀ σ' H', N σ' H' → ∃ m', m' < m ∧ W (i + 1) m' σ' H') ∧ ∀ x H', (Itl K a).yld i H x H' → g x σ H' fun σ2 H2 => tb { D with nx := N, ct := N, bk := D.nx } σ2 H2) := by
  refine ⟨fun i m σ H => m = xs.length - i ∧ i ≤ xs.length ∧ Pv i σ H, ⟨xs.length, by simp, Nat.zero_le _, h0⟩, ?_⟩
  rintro i m σ H ⟨rfl, hi, p⟩
  have q := hl i σ H hi p
  by_cases hlt : i < xs.length
  · refine .inr ⟨⟨xs, xs[i], q, by simp [hlt]⟩, Pv (i + 1), fun σ' H' p' => ⟨xs.length - (i + 1), by omega, rfl, hlt, p'⟩, fun x H' y => ?_⟩
    obtain ⟨e, y⟩ := y
    subst e
    exact hs i x σ _ (y xs q) p
  · have e : i = xs.length := by omega
    subst e
    exact .inl ⟨⟨xs, q, Nat.le_refl _⟩, hd σ H p⟩
theorem for_range {lo : Int} {n : Nat} {g : TG} {tb : TS} {D : Ends} {σ : St} {H : Hp} (Pv : Nat → St → Hp → Prop) (h0 : Pv 0 σ H)
    (hs : ∀ i σ H, i < n → Pv i σ H → g (.int (lo + i)) σ H fun σ2 H2 => tb { D with nx := Pv (i + 1), ct := Pv (i + 1), bk := D.nx } σ2 H2) (hd : ∀ σ H, Pv n σ H → D.nx σ H) :
    ∃ W : Nat → Nat → St → Hp → Prop, (∃ m, W 0 m σ H) ∧ ∀ i m σ H, W i m σ H →
      ((Itr lo n).stop i H ∧ D.nx σ H) ∨ ((Itr lo n).go i H ∧ ∃ N : St → Hp → Prop, (∀ σ' H', N σ' H' → ∃ m', m' < m ∧ W (i + 1) m' σ' H') ∧ ∀ x H', (Itr lo n).yld i H x H' → g x σ H' fun σ2 H2 => tb { D with nx := N, ct := N, bk := D.nx } σ2 H2) := by
  refine ⟨fun i m σ H => m = n - i ∧ i ≤ n ∧ Pv i σ H, ⟨n, by simp, Nat.zero_le _, h0⟩, ?_⟩
  rintro i m σ H ⟨rfl, hi, p⟩
  by_cases hlt : i < n
  · refine .inr ⟨hlt, Pv (i + 1), fun σ' H' p' => ⟨n - (i + 1), by omega, rfl, hlt, p'⟩, fun x H' y => ?_⟩
    obtain ⟨e, y⟩ := y
    subst e y
    exact hs i σ _ hlt p
  · have e : i = n := by omega
    subst e
    exact .inl ⟨Nat.le_refl _, hd σ H p⟩
end L2

namespace L2
open PySem PySem.Spec PyProof.Rows

abbrev R2 := V → V → Hp → VK → Prop
/-- a two-place operation on values: f is binaryOp op, inplaceOp op or compareOp op -/
def OpR (X : Cx) (f : Value → Value → Sem Value) (r : R2) : Prop :=
  ∀ (pins : List (Addr × Obj)) (s : Shared) (σ : St) (H : Hp) (x y : V) (v u : Value) (Q : VK), Inv X pins σ H s → RelV x v → RelV y u → r x y H Q →
    wpAny (model X.prog X.w) X.A (f v u) (EP X pins σ Q) X.xe s
/-- a one-place operation -/
def UnR (X : Cx) (f : Value → Sem Value) (r : V → Hp → VK → Prop) : Prop :=
  ∀ (pins : List (Addr × Obj)) (s : Shared) (σ : St) (H : Hp) (x : V) (v : Value) (Q : VK), Inv X pins σ H s → RelV x v → r x H Q →
    wpAny (model X.prog X.w) X.A (f v) (EP X pins σ Q) X.xe s
/-- a call of a value that is known (a builtin, a type) with values -/
def CallR (X : Cx) (f : Value) (r : List V → Hp → VK → Prop) : Prop :=
  ∀ (pins : List (Addr × Obj)) (s : Shared) (σ : St) (H : Hp) (xs : List V) (us : List Value) (Q : VK), Inv X pins σ H s → Vals xs us → r xs H Q →
    wpAny (model X.prog X.w) X.A (call f us) (EP X pins σ Q) X.xe s
/-- a value's truth -/
def TruR (X : Cx) (r : V → Hp → (Bool → Hp → Prop) → Prop) : Prop :=
  ∀ (pins : List (Addr × Obj)) (s : Shared) (σ : St) (H : Hp) (x : V) (v : Value) (Q : Bool → Hp → Prop), Inv X pins σ H s → RelV x v → r x H Q →
    wpAny (model X.prog X.w) X.A (truthy v) (TP X pins σ Q) X.xe s

def tOp (r : R2) (ta tb : TE) : TE := fun σ H Q => ta σ H fun x H1 => tb σ H1 fun y H2 => r x y H2 Q
def tUn (r : V → Hp → VK → Prop) (ta : TE) : TE := fun σ H Q => ta σ H fun x H1 => r x H1 Q
/-- ints in, under C, and a value out -/
def rI (C : Int → Int → Prop) (g : Int → Int → V) : R2 := fun x y H Q => ∃ i j, x = .int i ∧ y = .int j ∧ C i j ∧ Q (g i j) H
def rI0 (g : Int → Int → V) : R2 := fun x y H Q => ∃ i j, x = .int i ∧ y = .int j ∧ Q (g i j) H
def rU (g : Int → V) : V → Hp → VK → Prop := fun x H Q => ∃ i, x = .int i ∧ Q (g i) H

section
variable {X : Cx} {a b c : Expr} {ta tb tc : TE} {pos : Pos}

theorem binT (ha : PE X a ta) (hb : PE X b tb) {pins : List (Addr × Obj)} {s : Shared} {σ : St} {H : Hp} {R : V → V → Hp → Prop} (I : Inv X pins σ H s)
    (h : ta σ H fun x H1 => tb σ H1 fun y H2 => R x y H2) {Q : Value → Shared → Prop} {f : Value → Value → Sem Value}
    (hf : ∀ v u s2 x y H2, Inv X pins σ H2 s2 → RelV x v → RelV y u → R x y H2 → wpAny (model X.prog X.w) X.A (f v u) Q X.xe s2) :
    wpAny (model X.prog X.w) X.A (eval a X.env) (fun v s₁ => wpAny (model X.prog X.w) X.A (eval b X.env) (fun u s₂ => wpAny (model X.prog X.w) X.A (f v u) Q X.xe s₂) X.xe s₁) X.xe s := by
  refine thn (ha pins s σ H _ I h) fun v s1 ⟨x, H1, I1, r1, q1⟩ => ?_
  refine thn (hb pins s1 σ H1 _ I1 q1) fun u s2 ⟨y, H2, I2, r2, q2⟩ => ?_
  exact hf v u s2 x y H2 I2 r1 r2 q2

theorem pe_op {op : Operator} {r : R2} (ho : OpR X (binaryOp op) r) (ha : PE X a ta) (hb : PE X b tb) : PE X (.BinOp a op b pos) (tOp r ta tb) := by
  intro pins s σ H Q I h
  exact wpAny_BinOp (binT ha hb I h fun v u s2 x y H2 I2 rx ry q => ho pins s2 σ H2 x y v u Q I2 rx ry q)
theorem pe_un {op : UnaryOp} {r : V → Hp → VK → Prop} (ho : UnR X (unaryOp op) r) (ha : PE X a ta) : PE X (.UnaryOp op a pos) (tUn r ta) := by
  intro pins s σ H Q I h
  exact UnaryOp_ (thn (ha pins s σ H _ I h) fun v s1 ⟨x, H1, I1, r1, q1⟩ => ho pins s1 σ H1 x v Q I1 r1 q1)
/-! ### ints -/
theorem opI {f : Value → Value → Sem Value} {C : Int → Int → Prop} {g : Int → Int → Int}
    (rule : ∀ (i j : Int) (t u : Tok) (s : Shared) (Q : Value → Shared → Prop) (E : Value → Shared → Prop), C i j → Q (.int (g i j) s.toks) { s with toks := s.toks + 1 } → wpAny (model X.prog X.w) X.A (f (.int i t) (.int j u)) Q E s) :
    OpR X f (rI C fun i j => .int (g i j)) := by
  intro pins s σ H x y v u Q I rx ry h
  obtain ⟨i, j, rfl, rfl, hc, q⟩ := h
  obtain ⟨t, rfl⟩ := rx
  obtain ⟨t', rfl⟩ := ry
  exact rule i j t t' s _ _ hc ⟨.int (g i j), H, I.tok _, ⟨_, rfl⟩, q⟩
theorem opI0 {f : Value → Value → Sem Value} {g : Int → Int → Int}
    (rule : ∀ (i j : Int) (t u : Tok) (s : Shared) (Q : Value → Shared → Prop) (E : Value → Shared → Prop), Q (.int (g i j) s.toks) { s with toks := s.toks + 1 } → wpAny (model X.prog X.w) X.A (f (.int i t) (.int j u)) Q E s) :
    OpR X f (rI0 fun i j => .int (g i j)) := by
  intro pins s σ H x y v u Q I rx ry h
  obtain ⟨i, j, rfl, rfl, q⟩ := h
  obtain ⟨t, rfl⟩ := rx
  obtain ⟨t', rfl⟩ := ry
  exact rule i j t t' s _ _ ⟨.int (g i j), H, I.tok _, ⟨_, rfl⟩, q⟩
theorem opB0 {f : Value → Value → Sem Value} {g : Int → Int → Bool}
    (rule : ∀ (i j : Int) (t u : Tok) (s : Shared) (Q : Value → Shared → Prop) (E : Value → Shared → Prop), Q (.bool (g i j)) s → wpAny (model X.prog X.w) X.A (f (.int i t) (.int j u)) Q E s) :
    OpR X f (rI0 fun i j => .bl (g i j)) := by
  intro pins s σ H x y v u Q I rx ry h
  obtain ⟨i, j, rfl, rfl, q⟩ := h
  obtain ⟨t, rfl⟩ := rx
  obtain ⟨t', rfl⟩ := ry
  exact rule i j t t' s _ _ ⟨.bl (g i j), H, I, rfl, q⟩

def CDiv (i j : Int) : Prop := 0 < j ∧ j < 1073741824
def CDivN (i j : Int) : Prop := j ≠ 0 ∧ j.natAbs < 1073741824
def CPow (i j : Int) : Prop := 0 ≤ j ∧ j ≤ 1000000 ∧ i.natAbs < 2 ^ 64
def CMul (i j : Int) : Prop := (-(2 ^ 64) < i ∧ i < 2 ^ 64) ∨ (-(2 ^ 64) < j ∧ j < 2 ^ 64)
theorem CMul.ok {i j : Int} (h : CMul i j) : IntMulOk i j := by
  rcases h with ⟨h1, h2⟩ | ⟨h1, h2⟩
  · exact .of_left (intBits_le_64 h1 h2)
  · exact .of_right (intBits_le_64 h1 h2)
theorem op_add : OpR X (binaryOp .Add) (rI0 fun i j => .int (i + j)) := opI0 fun _ _ _ _ _ _ _ q => add_int q
theorem op_sub : OpR X (binaryOp .Sub) (rI0 fun i j => .int (i - j)) := opI0 fun _ _ _ _ _ _ _ q => sub_int q
theorem op_mul : OpR X (binaryOp .Mult) (rI CMul fun i j => .int (i * j)) := opI fun _ _ _ _ _ _ _ hc q => mul_int q hc.ok
/-- // by a positive divisor -/
theorem op_fdiv : OpR X (binaryOp .FloorDiv) (rI CDiv fun i j => .int (i / j)) := opI fun i j _ _ _ _ _ hc q => by
  have h1 : (0 : Int) < j := hc.1
  have h2 : j < 1073741824 := hc.2
  exact floordiv_int (by omega) (by rw [Int.fdiv_eq_ediv_of_nonneg i (by omega)]; exact q) (.inl (PyProof.noPylong_small (by omega)))
/-- % by a positive divisor of any size -/
theorem op_mod : OpR X (binaryOp .Mod) (rI (fun _ j => 0 < j) fun i j => .int (i % j)) := opI fun i j _ _ _ _ _ hc q => by
  have h1 : (0 : Int) < j := hc
  exact mod_int' (by omega) (by rw [Int.fmod_eq_emod_of_nonneg i (by omega)]; exact q)
theorem op_pow : OpR X (binaryOp .Pow) (rI CPow fun i j => .int (i ^ j.toNat)) := opI fun _ _ _ _ _ _ _ hc q => pow_int_small hc.1 hc.2.1 hc.2.2 q
theorem unI {f : Value → Sem Value} {g : Int → Int}
    (rule : ∀ (i : Int) (t : Tok) (s : Shared) (Q : Value → Shared → Prop) (E : Value → Shared → Prop), Q (.int (g i) s.toks) { s with toks := s.toks + 1 } → wpAny (model X.prog X.w) X.A (f (.int i t)) Q E s) :
    UnR X f (rU fun i => .int (g i)) := by
  intro pins s σ H x v Q I rx h
  obtain ⟨i, rfl, q⟩ := h
  obtain ⟨t, rfl⟩ := rx
  exact rule i t s _ _ ⟨.int (g i), H, I.tok _, ⟨_, rfl⟩, q⟩
theorem un_neg : UnR X (unaryOp .USub) (rU fun i => .int (-i)) := unI fun _ _ _ _ _ q => neg_int q
/-! ### bools among ints: n += (a < b) -/
end

/-! ### comparisons -/
/-- the scalars that == tells apart as data does -/
def scal : V → V → Bool
  | .non, .non => true | .non, .int _ => true | .int _, .non => true | .non, .bl _ => true | .bl _, .non => true | .non, .str _ => true | .str _, .non => true
  | .int _, .int _ => true | .bl _, .bl _ => true | .str _, .str _ => true | .byt _, .byt _ => true
  | .int _, .str _ => true | .str _, .int _ => true | .bl _, .str _ => true | .str _, .bl _ => true
  | _, _ => false
def rEq : R2 := fun x y H Q => scal x y = true ∧ Q (.bl (decide (x = y))) H
def rNe : R2 := fun x y H Q => scal x y = true ∧ Q (.bl (!decide (x = y))) H

theorem dec_int {i j : Int} : decide (V.int i = V.int j) = (i == j) := by
  rw [Bool.eq_iff_iff]
  simp
theorem dec_bl {i j : Bool} : decide (V.bl i = V.bl j) = (i == j) := by
  rw [Bool.eq_iff_iff]
  simp
theorem dec_str {i j : Str} : decide (V.str i = V.str j) = (i == j) := by
  rw [Bool.eq_iff_iff]
  simp
theorem dec_byt {i j : Array UInt8} : decide (V.byt i = V.byt j) = (i.toList == j.toList) := by
  rw [Bool.eq_iff_iff]
  cases i
  cases j
  simp

section
variable {X : Cx} {a b c : Expr} {ta tb tc : TE} {pos : Pos}
theorem fin_bl {pins : List (Addr × Obj)} {σ : St} {H : Hp} {s : Shared} {Q : VK} {k k' : Bool} (I : Inv X pins σ H s) (q : Q (.bl k) H) (e : k = k') : EP X pins σ Q (.bool k') s := by
  subst e
  exact ⟨.bl k, H, I, rfl, q⟩
theorem op_eq : OpR X (compareOp .Eq) rEq := by
  intro pins s σ H x y v u Q I rx ry h
  obtain ⟨hs, q⟩ := h
  cases x with
  | non =>
    cases rx
    cases y with
    | non => cases ry; exact PySem.EqNone.eq_none_none (fin_bl I q (by simp))
    | bl j => cases ry; exact PySem.EqNone.eq_none_bool (fin_bl I q (by simp))
    | int j => obtain ⟨t', rfl⟩ := ry; exact PySem.EqNone.eq_none_int (fin_bl I q (by simp))
    | str j => obtain ⟨t', rfl⟩ := ry; exact PySem.EqNone.eq_none_str (fin_bl I q (by simp))
    | _ => exact absurd (show false = true from hs) Bool.false_ne_true
  | bl i =>
    cases rx
    cases y with
    | non => cases ry; exact PySem.EqNone.eq_bool_none (fin_bl I q (by simp))
    | bl j => cases ry; exact eq_bool (fin_bl I q dec_bl)
    | str j => obtain ⟨t', rfl⟩ := ry; exact PySem.EqMixed.eq_bool_str (fin_bl I q (by simp))
    | _ => exact absurd (show false = true from hs) Bool.false_ne_true
  | int i =>
    obtain ⟨t, rfl⟩ := rx
    cases y with
    | non => cases ry; exact PySem.EqNone.eq_int_none (fin_bl I q (by simp))
    | int j => obtain ⟨t', rfl⟩ := ry; exact eq_int (fin_bl I q dec_int)
    | str j => obtain ⟨t', rfl⟩ := ry; exact PySem.EqMixed.eq_int_str (fin_bl I q (by simp))
    | _ => exact absurd (show false = true from hs) Bool.false_ne_true
  | str i =>
    obtain ⟨t, rfl⟩ := rx
    cases y with
    | non => cases ry; exact PySem.EqNone.eq_str_none (fin_bl I q (by simp))
    | bl j => cases ry; exact PySem.EqMixed.eq_str_bool (fin_bl I q (by simp))
    | int j => obtain ⟨t', rfl⟩ := ry; exact PySem.EqMixed.eq_str_int (fin_bl I q (by simp))
    | str j => obtain ⟨t', rfl⟩ := ry; exact eq_str (fin_bl I q dec_str)
    | _ => exact absurd (show false = true from hs) Bool.false_ne_true
  | byt i =>
    obtain ⟨t, rfl⟩ := rx
    cases y with
    | byt j => obtain ⟨t', rfl⟩ := ry; exact PySem.W.eq_bytes (fin_bl I q dec_byt)
    | _ => exact absurd (show false = true from hs) Bool.false_ne_true
  | _ => cases y <;> exact absurd (show false = true from hs) Bool.false_ne_true
theorem op_ne : OpR X (compareOp .NotEq) rNe := by
  intro pins s σ H x y v u Q I rx ry h
  obtain ⟨hs, q⟩ := h
  cases x with
  | non =>
    cases rx
    cases y with
    | non => cases ry; exact PySem.EqNone.ne_none_none (fin_bl I q (by simp))
    | bl j => cases ry; exact PySem.EqNone.ne_none_bool (fin_bl I q (by simp))
    | int j => obtain ⟨t', rfl⟩ := ry; exact PySem.EqNone.ne_none_int (fin_bl I q (by simp))
    | str j => obtain ⟨t', rfl⟩ := ry; exact PySem.EqNone.ne_none_str (fin_bl I q (by simp))
    | _ => exact absurd (show false = true from hs) Bool.false_ne_true
  | bl i =>
    cases rx
    cases y with
    | non => cases ry; exact PySem.EqNone.ne_bool_none (fin_bl I q (by simp))
    | bl j => cases ry; exact ne_bool (fin_bl I q (congrArg not dec_bl))
    | str j => obtain ⟨t', rfl⟩ := ry; exact PySem.EqMixed.ne_bool_str (fin_bl I q (by simp))
    | _ => exact absurd (show false = true from hs) Bool.false_ne_true
  | int i =>
    obtain ⟨t, rfl⟩ := rx
    cases y with
    | non => cases ry; exact PySem.EqNone.ne_int_none (fin_bl I q (by simp))
    | int j => obtain ⟨t', rfl⟩ := ry; exact ne_int (fin_bl I q (congrArg not dec_int))
    | str j => obtain ⟨t', rfl⟩ := ry; exact PySem.EqMixed.ne_int_str (fin_bl I q (by simp))
    | _ => exact absurd (show false = true from hs) Bool.false_ne_true
  | str i =>
    obtain ⟨t, rfl⟩ := rx
    cases y with
    | non => cases ry; exact PySem.EqNone.ne_str_none (fin_bl I q (by simp))
    | bl j => cases ry; exact PySem.EqMixed.ne_str_bool (fin_bl I q (by simp))
    | int j => obtain ⟨t', rfl⟩ := ry; exact PySem.EqMixed.ne_str_int (fin_bl I q (by simp))
    | str j => obtain ⟨t', rfl⟩ := ry; exact ne_str (fin_bl I q (congrArg not dec_str))
    | _ => exact absurd (show false = true from hs) Bool.false_ne_true
  | byt i =>
    obtain ⟨t, rfl⟩ := rx
    cases y with
    | byt j => obtain ⟨t', rfl⟩ := ry; exact PySem.W.ne_bytes (fin_bl I q (congrArg not dec_byt))
    | _ => exact absurd (show false = true from hs) Bool.false_ne_true
  | _ => cases y <;> exact absurd (show false = true from hs) Bool.false_ne_true

theorem op_lt : OpR X (compareOp .Lt) (rI0 fun i j => .bl (decide (i < j))) := opB0 fun _ _ _ _ _ _ _ q => lt_int q
theorem op_gt : OpR X (compareOp .Gt) (rI0 fun i j => .bl (decide (j < i))) := opB0 fun _ _ _ _ _ _ _ q => gt_int q
theorem op_ge : OpR X (compareOp .GtE) (rI0 fun i j => .bl (decide (j ≤ i))) := opB0 fun _ _ _ _ _ _ _ q => ge_int q
/-- is, is not of two objects that are tracked lists or instances -/
def isObj : HO → Bool
  | .lst _ => true
  | .ins _ _ _ => true
  | _ => false
theorem nomark (b : Expr) {op : CmpOp} (h : op ≠ .In := by decide) (h2 : op ≠ .NotIn := by decide) : behindInMarks op b = false := by
  have e1 : (op == CmpOp.In) = false := by cases op <;> first | rfl | exact absurd rfl h
  have e2 : (op == CmpOp.NotIn) = false := by cases op <;> first | rfl | exact absurd rfl h2
  cases b <;> simp [behindInMarks, e1, e2]
/-- a comparison as a value; hm: nomark b, or (for in, not in) by with_unfolding_all rfl -/
theorem pe_cmpR {op : CmpOp} {r : R2} (ho : OpR X (compareOp op) r) (ha : PE X a ta) (hb : PE X b tb) (hm : behindInMarks op b = false) : PE X (.Compare a [op] [b] pos) (tOp r ta tb) := by
  intro pins s σ H Q I h
  exact wpAny_Compare1 (binT ha hb I h fun v u s2 x y H2 I2 rx ry q => ho pins s2 σ H2 x y v u Q I2 rx ry q) hm
/-- a reading of a value as a test -/
def tTest (t : TE) : TT := fun σ H Q => t σ H fun x H' => ∃ k, x = .bl k ∧ Q k H'
theorem pt_cmpR {op : CmpOp} {r : R2} (ho : OpR X (compareOp op) r) (ha : PE X a ta) (hb : PE X b tb) (hm : behindInMarks op b = false) : PT X (.Compare a [op] [b] pos) (tTest (tOp r ta tb)) := by
  intro pins s σ H Q I h
  refine wpAny_isTrue_Compare1 (thn (ha pins s σ H _ I h) fun v s1 ⟨x, H1, I1, r1, q1⟩ => thn (hb pins s1 σ H1 _ I1 q1) fun u s2 ⟨y, H2, I2, r2, q2⟩ =>
    thn (ho pins s2 σ H2 x y v u _ I2 r1 r2 q2) fun c s3 ⟨z, H3, I3, r3, k, e, q3⟩ => ?_) hm
  subst e
  cases r3
  exact wpAny_truthy_bool ⟨H3, I3, q3⟩
/-- a op1 b op2 c -/
def tChain (r r' : R2) (ta tb tc : TE) : TE := fun σ H Q => ta σ H fun x H1 => tb σ H1 fun y H2 => r x y H2 fun z H3 => ∃ k, z = .bl k ∧
  (if k = true then tc σ H3 fun w' H4 => r' y w' H4 Q else Q (.bl false) H3)
/-! ### truth -/
/-- a value's truth by the abstract heap -/
def TruV (K : PySem.W.Frag) (x : V) (H : Hp) (k : Bool) : Prop :=
  match x with
  | .non => k = false
  | .bl b => k = b
  | .int i => k = (i != 0)
  | .str y => y.length ≤ sizeLine ∧ k = ((y.length : Int) != 0)
  | .byt y => y.size ≤ sizeLine ∧ k = ((y.size : Int) != 0)
  | .ref p => (∃ xs, SqL K H p xs ∧ k = !xs.isEmpty) ∨ (∃ xs, SqT K H p xs ∧ k = !xs.isEmpty) ∨ ∃ kvs, H p = some (.dK kvs) ∧ k = !kvs.isEmpty
  | _ => False
theorem line63 : (sizeLine : Nat) < 2 ^ 63 := by rw [sizeLine_eq]; decide
/-! ### strs and bytes -/
def PlainIxT (b : Expr) : Prop := ∀ o i, subscripted b false o i = operate [o, i] (getItem o i)
/-! ### scalar builtins, by CallR -/
theorem vals1 {x : V} {us : List Value} (r : Vals [x] us) : ∃ u, us = [u] ∧ RelV x u := by
  cases r with
  | cons r1 r2 => cases r2; exact ⟨_, rfl, r1⟩
theorem vals2 {x y : V} {us : List Value} (r : Vals [x, y] us) : ∃ u w', us = [u, w'] ∧ RelV x u ∧ RelV y w' := by
  cases r with
  | cons r1 r2 =>
    cases r2 with
    | cons r3 r4 => cases r4; exact ⟨_, _, rfl, r1, r3⟩
theorem call_abs : CallR X (.builtin "abs") (fun xs H Q => ∃ i, xs = [.int i] ∧ Q (.int (if i < 0 then -i else i)) H) := by
  intro pins s σ H xs us Q I r h
  obtain ⟨i, rfl, q⟩ := h
  obtain ⟨u, rfl, t, rfl⟩ := vals1 r
  exact call_abs_int fun u tk => ⟨.int (if i < 0 then -i else i), H, I.tok _, ⟨_, rfl⟩, q⟩
/-- len of a str, a bytes, a list, a tuple -/
def LenV (K : PySem.W.Frag) (x : V) (H : Hp) (n : Nat) : Prop :=
  match x with
  | .str y => y.length ≤ sizeLine ∧ n = y.length
  | .byt y => y.size ≤ sizeLine ∧ n = y.size
  | .ref p => (∃ xs, SqL K H p xs ∧ n = xs.length) ∨ ∃ xs, SqT K H p xs ∧ n = xs.length
  | _ => False
end
end L2

namespace L2
open PySem PySem.Spec PyProof.Rows

/-! ### an instance, its attributes a map -/
structure ObjM (h : Heap) (x dx C : Addr) (mA : Str → Option Value) : Prop where
  obj : h.get? x = some (PySem.W.instObj C dx)
  ns : h.Ns1 dx mA
  ne : dx ≠ x

theorem lookIn_ns {h : Heap} {dx : Addr} {mA : Str → Option Value} (n : h.Ns1 dx mA) : ∃ od, h.get? dx = some od ∧ ∀ name, PySem.W.lookIn name od = some (mA name) := by
  obtain ⟨o, es, ep, ho, hd, hk, _, hm⟩ := n
  refine ⟨o, ho, fun name => ?_⟩
  have e := hm name
  unfold nsFind findBy at e
  rw [← Array.find?_toList] at e
  unfold PySem.W.lookIn
  rw [hd]
  dsimp only
  split
  · rename_i y q
    rw [q] at e
    exact congrArg some e
  · rename_i q
    rw [q] at e
    have a : es.toList.any (·.refKey) = false := by
      rw [List.any_eq_false]
      intro y hy
      obtain ⟨z, t, hkey⟩ := hk y (Array.mem_toList_iff.mp hy)
      simp [DictEntry.refKey, hkey]
    have a' : ¬ es.toList.any (·.refKey) = true := by rw [a]; exact Bool.false_ne_true
    rw [if_neg a']
    exact congrArg some e

theorem ObjM.look {h : Heap} {x dx C : Addr} {mA : Str → Option Value} (I : ObjM h x dx C mA) : ∃ od, PySem.W.InstAt h x (PySem.W.instObj C dx) C (some od) ∧ ∀ name, PySem.W.lookIn name od = some (mA name) :=
  let ⟨od, ho, hl⟩ := lookIn_ns I.ns
  ⟨od, ⟨I.obj, rfl, rfl, ho⟩, hl⟩

section
variable {prog : Program} {w : World} {A : Around} {E : Value → Shared → Prop} {s : Shared} {K : PySem.W.Frag} {x dx C f : Addr} {mA : Str → Option Value} {name : Str} {v : Value}

end

/-! ### the attributes as a list of pairs -/
def putF (f : Str) (v : V) : List (Str × V) → List (Str × V)
  | [] => [(f, v)]
  | (g, x) :: r => if g = f then (g, v) :: r else (g, x) :: putF f v r
theorem RelO.some_of {v : V} {o : Option Value} (r : RelO (some v) o) : ∃ u, o = some u ∧ RelV v u := by
  cases o with
  | none => exact (show False from r).elim
  | some u => exact ⟨u, rfl, r⟩
section
variable {P : Program} {w : World} {H H' : Hp} {h h' : Heap} {a C dx : Addr} {fs fs' : List (Str × V)}
theorem ins_get (hok : HOk P w H h) (e : H a = some (.ins C dx fs)) : ∃ mA, ObjM h a dx C mA ∧ (∀ f, RelO (fs.lookup f) (mA f)) ∧ PySem.Within mA (fs.map (·.1)) ∧ fs.length ≤ 1000 ∧ H dx = some (.own a) := by
  obtain ⟨d, z, ne, ob, mA, n, r, q⟩ := (show ObjOk P w H h a (.ins C dx fs) from hok a _ e)
  exact ⟨mA, ⟨ob, n, ne⟩, r, q, z, d⟩
end

/-! ### what of the text a class must have -/
structure Cls (K : PySem.W.Frag) (C : Addr) : Prop where
  pg : PySem.W.plainGet K C Str.empty = true
  hd : PySem.W.hasDictIn K C = true
  po : PySem.W.plainOver K C = true
  sa : PySem.W.findIn K (.ref C) "__setattr__" = some (some (.builtin "object.__setattr__"))
theorem Cls.get {K : PySem.W.Frag} {C : Addr} (c : Cls K C) (f : Str) : PySem.W.plainGet K C f = true := c.pg
/-- no class of it has the name -/
def NoAttr (K : PySem.W.Frag) (C : Addr) (f : Str) : Prop := PySem.W.findIn K (.ref C) f = some none
/-- a constant of the class -/
structure Con (K : PySem.W.Frag) (C : Addr) (f : Str) (v : V) (u : Value) : Prop where
  at_ : PySem.W.findIn K (.ref C) f = some (some u)
  rel : RelV v u
  get : PySem.W.specialIn K u "__get__" = some none
  cp : PySem.W.copiedNames.contains f = false
/-- a method: a plain def of the class or of one above it -/
structure Meth (K : PySem.W.Frag) (C : Addr) (m : Str) (f : Addr) : Prop where
  at_ : PySem.W.findIn K (.ref C) m = some (some (.ref f))
  fn : PySem.W.isFn K (.ref f) = true
  kp : PySem.W.keepIn K (.ref f) = true

section
variable {X : Cx} {pins : List (Addr × Obj)} {σ : St} {H : Hp} {s : Shared} {a C dx : Addr} {fs : List (Str × V)} {f : Str} {v : V} {A : Around} {E : Value → Shared → Prop}

end

/-! ### readings and rules -/
/-- e.f, an attribute of the instance -/
def tFld (K : PySem.W.Frag) (ta : TE) (f : Str) : TE := fun σ H Q => ta σ H fun x H1 => ∃ a C dx fs v, x = .ref a ∧ H1 a = some (.ins C dx fs) ∧ Cls K C ∧ NoAttr K C f ∧ fs.lookup f = some v ∧ Q v H1
/-- e.f, a constant of the class -/
def tCon (K : PySem.W.Frag) (ta : TE) (f : Str) : TE := fun σ H Q => ta σ H fun x H1 => ∃ a C dx fs v u, x = .ref a ∧ H1 a = some (.ins C dx fs) ∧ Cls K C ∧ Con K C f v u ∧ fs.lookup f = none ∧ Q v H1
/-- e.f = value -/
def sFld (K : PySem.W.Frag) (ta tv : TE) (f : Str) : TS := fun D σ H => tv σ H fun y H1 => ta σ H1 fun x H2 => ∃ a C dx fs, x = .ref a ∧ H2 a = some (.ins C dx fs) ∧ Cls K C ∧ NoAttr K C f ∧ fs.length < 1000 ∧
  D.nx σ (upd H2 a (.ins C dx (putF f y fs)))
/-- an augmented operator on two values -/
def InOp (X : Cx) (op : Operator) (rd : V → V → Hp → VK → Prop) : Prop :=
  ∀ (pins : List (Addr × Obj)) (s : Shared) (σ : St) (H : Hp) (x y : V) (u v : Value) (Q : VK), Inv X pins σ H s → RelV x u → RelV y v → rd x y H Q → wpAny (model X.prog X.w) X.A (inplaceOp op u v) (EP X pins σ Q) X.xe s
/-- e.f op= value -/
def sFldAug (K : PySem.W.Frag) (ta tv : TE) (rd : V → V → Hp → VK → Prop) (f : Str) : TS := fun D σ H => ta σ H fun x H1 => ∃ a C dx fs v, x = .ref a ∧ H1 a = some (.ins C dx fs) ∧ Cls K C ∧ NoAttr K C f ∧ fs.lookup f = some v ∧
  tv σ H1 fun y H2 => rd v y H2 fun z H3 => ∃ dx' fs', H3 a = some (.ins C dx' fs') ∧ fs'.length < 1000 ∧ D.nx σ (upd H3 a (.ins C dx' (putF f z fs')))

section
variable {X : Cx} {o e value : Expr} {f : Str} {pos pos' tpos : Pos} {ta tv : TE}
def rAdd : V → V → Hp → VK → Prop := fun x y H Q => ∃ i j, x = .int i ∧ y = .int j ∧ Q (.int (i + j)) H
def rSub : V → V → Hp → VK → Prop := fun x y H Q => ∃ i j, x = .int i ∧ y = .int j ∧ Q (.int (i - j)) H
end

/-! ### isinstance -/
section
variable {X : Cx} {pins : List (Addr × Obj)} {σ : St} {H : Hp} {s : Shared} {A : Around} {E : Value → Shared → Prop} {Q : Value → Shared → Prop} {c : Value} {b : Bool}
/-- the type of a value, as the fragment's deciders take it; for an instance its class -/
inductive TyOf (K : PySem.W.Frag) (H : Hp) : V → Value → Prop where
  | non : TyOf K H .non (.type "NoneType")
  | bl (x : Bool) : TyOf K H (.bl x) (.type "bool")
  | int (i : Int) : TyOf K H (.int i) (.type "int")
  | str (x : Str) : TyOf K H (.str x) (.type "str")
  | flt (x : UInt64) : TyOf K H (.flt x) (.type "float")
  | lst {a : Addr} {xs : List V} (e : H a = some (.lst xs)) : TyOf K H (.ref a) (.type "list")
  | frz {a : Addr} {o : Obj} {xs : List V} (e : H a = some (.frz o (.lst xs))) : TyOf K H (.ref a) (.type "list")
  | tup {a : Addr} {xs : List V} (e : H a = some (.tup xs)) : TyOf K H (.ref a) (.type "tuple")
  | dK {a : Addr} {kvs : List (Key × V)} (e : H a = some (.dK kvs)) : TyOf K H (.ref a) (.type "dict")
  | dT {a : Addr} {kvs : List (List Key × V)} (e : H a = some (.dT kvs)) : TyOf K H (.ref a) (.type "dict")
  | ins {a C dx : Addr} {fs : List (Str × V)} (e : H a = some (.ins C dx fs)) (cl : Cls K C) (ha : PySem.W.findIn K (.ref C) "__class__" = some (some (.builtin "object.__class__")))
      (hn : PySem.W.specialIn K (.builtin "object.__class__") "__get__" = some (some (.builtin "getset_descriptor.__get__"))) (htk : PySem.W.takesIn K (.builtin "object.__class__") = some true)
      (hm : PySem.W.mroIn K C (.type "object") = some true) : TyOf K H (.ref a) (.ref C)
/-- isinstance(x, c) for one class c, a built-in or an own one: kitOne's answer -/
theorem isinst_ok {x : V} {u t : Value} (I : Inv X pins σ H s) (rx : RelV x u) (ty : TyOf X.K H x t) (e : PySem.W.kitOne X.K t c = some b) (h : ∀ tk, Q (.bool b) { s with toks := tk }) :
    wpAny (model X.prog X.w) A (call (.builtin "isinstance") [u, c]) Q E s := by
  cases ty with
  | non => cases (show u = Value.none from rx); exact PySem.W.kia_one PySem.W.kitx_none I.kIn True.intro e (fun z => nomatch z) h
  | bl y => cases (show u = Value.bool y from rx); exact PySem.W.kia_one PySem.W.kitx_bool I.kIn True.intro e (fun z => nomatch z) h
  | int i => obtain ⟨t, q⟩ := (show ∃ t, u = Value.int i t from rx); cases q; exact PySem.W.kia_one PySem.W.kitx_int I.kIn True.intro e (fun z => nomatch z) h
  | str y => obtain ⟨t, q⟩ := (show ∃ t, u = Value.str y t from rx); cases q; exact PySem.W.kia_one PySem.W.kitx_str I.kIn True.intro e (fun z => nomatch z) h
  | flt y => obtain ⟨t, q⟩ := (show ∃ t, u = Value.float y t from rx); cases q; exact PySem.W.kia_one PySem.W.kitx_float I.kIn True.intro e (fun z => nomatch z) h
  | @lst a xs ea =>
    cases (show u = Value.ref a from rx)
    obtain ⟨_, _, n, _, h1⟩ := (show ObjOk X.prog X.w H s.heap a (.lst xs) from I.hok a _ ea)
    exact PySem.W.kia_one PySem.W.kitx_list I.kIn ⟨_, h1, rfl⟩ e (fun z => nomatch z) h
  | @frz a ob xs ea =>
    cases (show u = Value.ref a from rx)
    obtain ⟨_, _, _, n, _, h1⟩ := (show ObjOk X.prog X.w H s.heap a (.frz ob (.lst xs)) from I.hok a _ ea)
    exact PySem.W.kia_one PySem.W.kitx_list I.kIn ⟨_, h1, rfl⟩ e (fun z => nomatch z) h
  | @tup a xs ea =>
    cases (show u = Value.ref a from rx)
    obtain ⟨_, _, _, p⟩ := (show ObjOk X.prog X.w H s.heap a (.tup xs) from I.hok a _ ea)
    obtain ⟨o, h1, h2, _⟩ := p
    exact PySem.W.kia_one PySem.W.kitx_tuple I.kIn ⟨o, h1, h2⟩ e (fun z => nomatch z) h
  | @dK a kvs ea =>
    cases (show u = Value.ref a from rx)
    obtain ⟨_, _, vs, _, p⟩ := (show ObjOk X.prog X.w H s.heap a (.dK kvs) from I.hok a _ ea)
    obtain ⟨o, es, ep, h1, h2, _⟩ := p
    exact PySem.W.kia_one PySem.W.kitx_dict I.kIn ⟨o, h1, h2.1⟩ e (fun z => nomatch z) h
  | @dT a kvs ea =>
    cases (show u = Value.ref a from rx)
    obtain ⟨_, _, xs, _, o, es, ep, h1, h2, _⟩ := (show ObjOk X.prog X.w H s.heap a (.dT kvs) from I.hok a _ ea)
    exact PySem.W.kia_one PySem.W.kitx_dict I.kIn ⟨o, h1, h2.1⟩ e (fun z => nomatch z) h
  | @ins a C dx fs ea cl ha hn htk hm =>
    cases (show u = Value.ref a from rx)
    obtain ⟨mA, O, _⟩ := ins_get I.hok ea
    obtain ⟨od, J, _⟩ := O.look
    exact PySem.W.kia_one (PySem.W.kitx_own (cl.get _) cl.hd ha hn htk hm) I.kIn J e (fun z => nomatch z) h
end
end L2

namespace L2
open PySem PySem.Spec PyProof.Rows

/-! ### room -/
structure Room (k : Nat) (A : Around) : Prop where
  dp : A.depth + 3 * k + 5 < recursionLimit
  un : A.units + 16 * k + 200 < cLine
theorem Room.mono {j k : Nat} {A : Around} (r : Room k A) (h : j ≤ k) : Room j A := ⟨by have := r.dp; omega, by have := r.un; omega⟩
theorem Room.deeper {k : Nat} {A : Around} (r : Room (k + 1) A) (env : Env) : Room k (A.deeper env) :=
  ⟨by have := r.dp; show A.depth + 1 + 3 * k + 5 < _; omega, by have := r.un; show A.units + 3 + 16 * k + 200 < _; omega⟩
theorem Room.in1 {k : Nat} {A : Around} (r : Room (k + 1) A) : Room k A.in1 :=
  ⟨by have := r.dp; show A.depth + 3 * k + 5 < _; omega, by have := r.un; show A.units + 1 + 16 * k + 200 < _; omega⟩
theorem Room.depth {k : Nat} {A : Around} (r : Room k A) : A.depth < recursionLimit := by have := r.dp; omega
theorem Room.units {k : Nat} {A : Around} (r : Room k A) : A.units + 64 < cLine := by have := r.un; omega
/-! ### argument lists and displays -/
def tNil : TA := fun _ H Q => Q [] H
def tCons (ta : TE) (tr : TA) : TA := fun σ H Q => ta σ H fun x H1 => tr σ H1 fun xs H2 => Q (x :: xs) H2
section
variable {X : Cx} {e : Expr} {es : List Expr} {te : TE} {t : TA} {pos : Pos}
theorem pa_nil : PA X [] tNil := fun _ _ _ _ H Q I h => Calls.spliced_nil ⟨[], H, I, .nil, h⟩
theorem pa_cons (ha : PE X e te) (hr : PA X es t) (hs : starEach (e :: es) X.env = (false, eval e X.env) :: starEach es X.env := by rfl) : PA X (e :: es) (tCons te t) := by
  intro pos pins s σ H Q I h
  rw [hs]
  show wpAny _ _ (spliced ((false, eval e X.env) :: backTo pos (starEach es X.env))) _ _ s
  refine Calls.spliced_cons (thn (ha pins s σ H _ I h) fun u s1 ⟨x, H1, I1, r1, q1⟩ => ?_)
  exact thn (hr pos pins s1 σ H1 _ I1 q1) fun us s2 ⟨xs, H2, I2, r2, q2⟩ => ⟨x :: xs, H2, I2, .cons r1 r2, q2⟩

/-- a tuple, a list of written items -/
def tTup (t : TA) : TE := fun σ H Q => t σ H fun xs H1 => xs.length ≤ sizeLine ∧ ∀ p, H1 p = none → Q (.ref p) (upd H1 p (.tup xs))
def tLst (t : TA) : TE := fun σ H Q => t σ H fun xs H1 => xs.length ≤ sizeLine ∧ ∀ p, H1 p = none → Q (.ref p) (upd H1 p (.lst xs))
theorem pe_tup {x1} (h : PA X es t) : PE X (.Tuple es x1 pos) (tTup t) := by
  intro pins s σ H Q I hq
  refine wpAny_Tuple_spliced (thn (h pos pins s σ H _ I hq) fun us s1 ⟨xs, H1, I1, r, z, q⟩ => ⟨by rw [← r.length]; exact z, ?_⟩)
  have hf : H1 s1.heap.objs.size = none := I1.hok.fresh (Nat.le_refl _)
  refine ⟨.ref s1.heap.objs.size, upd H1 s1.heap.objs.size (.tup xs), I1.laid (t' := s1.toks) (fun b u e => Heap.get?_push_of_some _ e) (Nat.le_refl _) ?_, rfl, q _ hf⟩
  exact ⟨z, us, r, ⟨_, Heap.get?_push_size _ rfl, rfl, _, rfl⟩⟩
theorem pe_lst (h : PA X es t) : PE X (.List es pos) (tLst t) := by
  intro pins s σ H Q I hq
  refine wpAny_List_spliced (thn (h pos pins s σ H _ I hq) fun us s1 ⟨xs, H1, I1, r, z, q⟩ => ⟨by rw [← r.length]; exact z, ?_⟩)
  have hf : H1 s1.heap.objs.size = none := I1.hok.fresh (Nat.le_refl _)
  refine ⟨.ref s1.heap.objs.size, upd H1 s1.heap.objs.size (.lst xs), I1.laid (t' := s1.toks) (fun b u e => Heap.get?_push_of_some _ e) (Nat.le_refl _) ?_, rfl, q _ hf⟩
  exact ⟨z, us, 0, r, Heap.get?_push_size _ rfl⟩
end

/-! ### what a def promises -/
/-- a def's promise: the bound arguments in the parameters' order, the heap, the wanted end, the wanted exception -/
abbrev Sp := List V → Hp → VK → XK → Prop
/-- how an exception lies behind a call (file 08 gives it): the callers' frames, abstract heap and state ahead of the call, the wish, the exception, the state -/
abbrev CXT := List Env → Hp → Shared → XK → Value → Shared → Prop

/-- the state at a call -/
structure Env0 (P : Program) (w : World) (K : PySem.W.Frag) (mg : Str → Option Value) (base : Heap) (A : Around) (outer : List Env) (s : Shared) (H : Hp) : Prop where
  frames : A.frames = some outer
  mod : Mod K mg base
  bs : ∀ b o, base.get? b = some o → s.heap.get? b = some o ∧ H b = none
  bsz : base.objs.size ≤ s.heap.objs.size
  funs : s.heap.FunFrames base outer
  frf : ∀ b ∈ frs outer, H b = none
  hok : HOk P w H s.heap
  bare : AllBare s.gens
  hd : HdAt A H
/-- a call's end -/
def CE (outer : List Env) (P : Program) (w : World) (H : Hp) (s : Shared) (Q : VK) (u : Value) (s' : Shared) : Prop :=
  ∃ v H', s'.os = s.os ∧ AllBare s'.gens ∧ Un (frs outer) [] H H' s.heap s'.heap ∧ HOk P w H' s'.heap ∧ RelV v u ∧ Q v H'
def CR (CX : CXT) (outer : List Env) (P : Program) (w : World) (H : Hp) (s : Shared) (Q : VK) (E : XK) (r : Result) (s' : Shared) : Prop :=
  match r with
  | .ok (.ret u) => CE outer P w H s Q u s'
  | .ok _ => False
  | .error e => CX outer H s E e s'
structure FnOk (P : Program) (w : World) (K : PySem.W.Frag) (mg : Str → Option Value) (base : Heap) (CX : CXT) (k : Nat) (f : Addr) (fd : FuncData) (ps : List Str) (sp : Sp) : Prop where
  len : ∀ vs H Q E, sp vs H Q E → vs.length = ps.length
  run : ∀ (A : Around) (outer : List Env) (s : Shared) (H : Hp) (args : Args) (us : List Value) (vs : List V) (Q : VK) (E : XK), Room k A → Env0 P w K mg base A outer s H → BindsTo s fd args (ps.zip us) → Vals vs us → sp vs H Q E →
    codeAny (model P w) A (.call (.ref f) args) (CR CX outer P w H s Q E) s
theorem FnOk.mono {P : Program} {w : World} {K : PySem.W.Frag} {mg : Str → Option Value} {base : Heap} {CX : CXT} {j k : Nat} {f : Addr} {fd : FuncData} {ps : List Str} {sp : Sp} (F : FnOk P w K mg base CX j f fd ps sp) (h : j ≤ k) :
    FnOk P w K mg base CX k f fd ps sp := ⟨F.len, fun A outer s H args us vs Q E hr => F.run A outer s H args us vs Q E (hr.mono h)⟩
theorem Env0.in1 {P : Program} {w : World} {K : PySem.W.Frag} {mg : Str → Option Value} {base : Heap} {A : Around} {outer : List Env} {s : Shared} {H : Hp} (e : Env0 P w K mg base A outer s H) :
    Env0 P w K mg base A.in1 outer s H := ⟨e.frames, e.mod, e.bs, e.bsz, e.funs, e.frf, e.hok, e.bare, e.hd⟩

section
variable {X : Cx} {pins : List (Addr × Obj)} {σ : St} {H : Hp} {s s' : Shared}
/-- from a body: what a callee wants -/
theorem Inv.env0 (I : Inv X pins σ H s) : Env0 X.prog X.w X.K X.mg X.base X.A X.stack s H :=
  ⟨I.ok.frames, I.ok.mod, I.bs, Nat.le_trans I.ok.bsz I.sz, I.stack, I.stkFree, I.hok, I.bare, I.hdAt⟩
/-- behind a call -/
theorem Inv.after {Q : VK} {u : Value} (I : Inv X pins σ H s) (h : CE X.stack X.prog X.w H s Q u s') : EP X pins σ Q u s' := by
  obtain ⟨v, H', os, bare, un, hok, r, q⟩ := h
  obtain ⟨hh, g, d, t, os'⟩ := s'
  obtain rfl : os' = s.os := os
  exact ⟨v, H', I.call (h' := hh) (g' := g) (d' := d) (t' := t) (ch := []) un hok bare (fun b z => absurd z (by simp)), r, q⟩
end

/-! ### calls -/
/-- f(..): the written arguments, then the defaults dvs; E: what is wanted of an exception -/
def tCall (sp : Sp) (dvs : List V) (E : XK) (t : TA) : TE := fun σ H Q => t σ H fun vs H1 => sp (vs ++ dvs) H1 Q E
/-- o.m(..) of an instance of the class at C -/
def tMeth (C : Addr) (m : Str) (sp : Sp) (dvs : List V) (E : XK) (ta : TE) (t : TA) : TE := fun σ H Q => ta σ H fun x H1 => ∃ a dx fs, x = .ref a ∧ H1 a = some (.ins C dx fs) ∧ fs.lookup m = none ∧
  t σ H1 fun vs H2 => sp (x :: (vs ++ dvs)) H2 Q E
/-- C(..): a new instance and its dict, then __init__ -/
def tMake (C : Addr) (sp : Sp) (dvs : List V) (E : XK) (t : TA) : TE := fun σ H Q => t σ H fun vs H1 => ∀ x dx, H1 x = none → H1 dx = none → dx ≠ x →
  sp (.ref x :: (vs ++ dvs)) (upd (upd H1 dx (.own x)) x (.ins C dx [])) (fun v H2 => v = .non ∧ Q (.ref x) H2) E

/-- how the parameters are bound: us the positional arguments, kw the keywords' values by name, ds the defaults that fill up -/
def Binds (K : PySem.W.Frag) (fd : FuncData) (ps : List Str) (ds : List Value) : Prop :=
  ∀ (s : Shared) (us : List Value), K.In s.heap → (us ++ ds).length = ps.length → BindsTo s fd ⟨us, []⟩ (ps.zip (us ++ ds))
/-- every parameter is given -/
theorem Binds.all {K : PySem.W.Frag} {fd : FuncData} {ps : List Str} (h : ∀ us : List Value, us.length = ps.length → bindArgs fd ⟨us, []⟩ = pure (ps.zip us)) : Binds K fd ps [] := fun s us _ hl => by
  rw [List.append_nil] at hl ⊢
  exact .of_eq (h us hl)

/-- an exception of a callee reaches what this body wants of exceptions -/
def Passes (CX : CXT) (X : Cx) (E : XK) : Prop := ∀ (pins : List (Addr × Obj)) (σ : St) (H : Hp) (s : Shared) (e : Value) (s' : Shared), Inv X pins σ H s → CX X.stack H s E e s' → X.xe e s'

section
variable {X : Cx} {CX : CXT} {k : Nat} {f C : Addr} {fd : FuncData} {ps : List Str} {sp : Sp} {dvs : List V} {ds : List Value} {E : XK} {x m : Str} {p pos apos : Pos} {e o : Expr} {es : List Expr} {ta : TE} {t : TA}

/-- the callee runs -/
theorem run_fn {pins : List (Addr × Obj)} {σ : St} {H : Hp} {s : Shared} {Q : VK} {us : List Value} {vs : List V} (F : FnOk X.prog X.w X.K X.mg X.base CX k f fd ps sp) (hr : Room k X.A) (hb : Binds X.K fd ps ds) (hd : Vals dvs ds) (hx : Passes CX X E)
    (I : Inv X pins σ H s) (r : Vals vs us) (h : sp (vs ++ dvs) H Q E) : wpAny (model X.prog X.w) X.A (call (.ref f) us) (EP X pins σ Q) X.xe s := by
  have r2 : Vals (vs ++ dvs) (us ++ ds) := r.append hd
  have hl : (us ++ ds).length = ps.length := by rw [← r2.length]; exact F.len _ _ _ _ h
  refine wpAny_call (codeAny_mono (F.run X.A X.stack s H ⟨us, []⟩ (us ++ ds) (vs ++ dvs) Q E hr I.env0 (hb s us I.kIn hl) r2 h) fun r s' hq => ?_)
  cases r with
  | error e => exact hx pins σ H s e s' I hq
  | ok fl =>
    cases fl with
    | ret u => exact I.after hq
    | next => exact False.elim hq
    | brk => exact False.elim hq
    | cont => exact False.elim hq

theorem pe_call (F : FnOk X.prog X.w X.K X.mg X.base CX k f fd ps sp) (hr : Room k X.A) (hg : Gl X x) (hm : X.mg x = some (.ref f)) (hk : PySem.W.keepIn X.K (.ref f) = true) (hb : Binds X.K fd ps ds) (hd : Vals dvs ds) (hx : Passes CX X E)
    (ha : PA X (e :: es) t) (hdb : (x == ("__debug__" : Str)) = false := by decide) (he : starEach (e :: es) X.env = (false, eval e X.env) :: starEach es X.env := by rfl) (hpl : (backTo pos (starEach es X.env)).any (·.1) = false := by rfl) :
    PE X (.Call (.Name x p) (e :: es) [] pos) (tCall sp dvs E t) := by
  intro pins s σ H Q I h
  refine wpAny_Call_Name_kw (ld_glob I hg hm ?_ hdb)
  refine PySem.W.callWith_K (h₀ := X.base) I.ok.mod.kin hk (thn (ha pos pins s σ H _ I h) fun us s1 ⟨vs, H1, I1, r, q⟩ => ⟨I1.kIn, ?_⟩) he hpl
  exact run_fn F hr hb hd hx I1 r q
/-- what a class must have to be made -/
structure Mk (K : PySem.W.Frag) (C f : Addr) : Prop where
  makes : PySem.W.makesIn K C = true
  init : PySem.W.findIn K (.ref C) "__init__" = some (some (.ref f))
  fn : PySem.W.isFn K (.ref f) = true
  kp : PySem.W.keepIn K (.ref C) = true

end

/-! ### keywords -/
/-- the values of the keywords, from the left -/
def PK (X : Cx) (kws : List Keyword) (t : TA) : Prop :=
  ∀ (pos : Pos) (pins : List (Addr × Obj)) (s : Shared) (σ : St) (H : Hp) (Q : List V → Hp → Prop), Inv X pins σ H s → t σ H Q → wpAny (model X.prog X.w) X.A (evalAll ((backToKw pos (keywordEach kws X.env)).map (·.2))) (AP X pins σ Q) X.xe s
section
variable {X : Cx} {CX : CXT} {k : Nat} {f C : Addr} {fd : FuncData} {ps ks : List Str} {sp : Sp} {E : XK} {x m : Str} {p pos apos kpos : Pos} {e o : Expr} {es : List Expr} {kws : List Keyword} {te ta : TE} {t tk : TA} {nm : Option Str}
/-- how a call with keywords binds: g puts the positional values us and the keywords' values ws (names ks) in the parameters' order, defaults among them -/
structure KBinds (K : PySem.W.Frag) (fd : FuncData) (ps ks : List Str) (g : List Value → List Value → List Value) (gV : List V → List V → List V) : Prop where
  to : ∀ (s : Shared) (us ws : List Value), K.In s.heap → (g us ws).length = ps.length → BindsTo s fd ⟨us, ks.zip ws⟩ (ps.zip (g us ws))
  rel : ∀ {vs : List V} {us : List Value} {zs : List V} {ws : List Value}, Vals vs us → Vals zs ws → Vals (gV vs zs) (g us ws)
def tCallK (sp : Sp) (gV : List V → List V → List V) (E : XK) (t tk : TA) : TE := fun σ H Q => t σ H fun vs H1 => tk σ H1 fun zs H2 => sp (gV vs zs) H2 Q E
variable {g : List Value → List Value → List Value} {gV : List V → List V → List V}
end

/-! ### a def's body keeps its promise -/
/-- names: the parameters first -/
structure FnScope (N P : List Str) (sc : Scope) : Prop where
  kind : sc.kind = .function
  co : sc.isCoroutine = false
  gen : sc.isGenerator = false
  nd : N.Nodup
  pre : N.take P.length = P
  par : ∀ x ∈ P, sc.names.lookup x = some .local ∨ sc.names.lookup x = some .cell
  nofree : ∀ y ∈ sc.names, y.2 ≠ .free

theorem bindL_out {kindOf : Str → Option NameKind} {x : Str} : ∀ {binds : List (Str × Value)} {m : Str → Option Value}, (∀ v, (x, v) ∉ binds) → bindL kindOf binds m x = m x
  | [], _, _ => rfl
  | (n, v) :: r, m, h => by
    unfold bindL
    rw [bindL_out fun w hw => h w (List.mem_cons_of_mem _ hw)]
    split
    · have : x ≠ n := by rintro rfl; exact h v List.mem_cons_self
      simp [this]
    · rfl
theorem bindC_out {kindOf : Str → Option NameKind} {x : Str} : ∀ {binds : List (Str × Value)} {m : Str → Option Value}, (∀ v, (x, v) ∉ binds) → bindC kindOf binds m x = m x
  | [], _, _ => rfl
  | (n, v) :: r, m, h => by
    unfold bindC
    rw [bindC_out fun w hw => h w (List.mem_cons_of_mem _ hw)]
    split
    · rfl
    · have : x ≠ n := by rintro rfl; exact h v List.mem_cons_self
      simp [this]
theorem bindL_get {kindOf : Str → Option NameKind} {x : Str} {v : Value} : ∀ {P : List Str} {vs : List Value} {i : Nat} {m : Str → Option Value}, P.Nodup → P[i]? = some x → vs[i]? = some v → kindOf x = some .local →
    bindL kindOf (P.zip vs) m x = some v
  | [], _, _, _, _, h, _, _ => by simp at h
  | _ :: _, [], _, _, _, _, h, _ => by simp at h
  | p :: P, w :: vs, 0, m, nd, h1, h2, hk => by
    simp at h1 h2; subst h1; subst h2
    show bindL kindOf ((p, w) :: P.zip vs) m p = _
    unfold bindL
    rw [bindL_out fun v hv => (List.nodup_cons.mp nd).1 (List.of_mem_zip hv).1, if_pos hk]
    simp
  | p :: P, w :: vs, i + 1, m, nd, h1, h2, hk => by
    show bindL kindOf ((p, w) :: P.zip vs) m x = _
    unfold bindL
    exact bindL_get (i := i) (List.nodup_cons.mp nd).2 (by simpa using h1) (by simpa using h2) hk
theorem bindC_get {kindOf : Str → Option NameKind} {x : Str} {v : Value} : ∀ {P : List Str} {vs : List Value} {i : Nat} {m : Str → Option Value}, P.Nodup → P[i]? = some x → vs[i]? = some v → kindOf x ≠ some .local →
    bindC kindOf (P.zip vs) m x = some v
  | [], _, _, _, _, h, _, _ => by simp at h
  | _ :: _, [], _, _, _, _, h, _ => by simp at h
  | p :: P, w :: vs, 0, m, nd, h1, h2, hk => by
    simp at h1 h2; subst h1; subst h2
    show bindC kindOf ((p, w) :: P.zip vs) m p = _
    unfold bindC
    rw [bindC_out fun v hv => (List.nodup_cons.mp nd).1 (List.of_mem_zip hv).1, if_neg hk]
    simp
  | p :: P, w :: vs, i + 1, m, nd, h1, h2, hk => by
    show bindC kindOf ((p, w) :: P.zip vs) m x = _
    unfold bindC
    exact bindC_get (i := i) (List.nodup_cons.mp nd).2 (by simpa using h1) (by simpa using h2) hk

/-- the names' values at the entry -/
def start (N : List Str) (vs : List V) : St := vs.map some ++ List.replicate (N.length - vs.length) none

/-- the context of a def's body, at its entry; an exception leaves the frame, then lies as CX says -/
def cxOf (CX : CXT) (P : Program) (w : World) (K : PySem.W.Frag) (mg : Str → Option Value) (base : Heap) (N : List Str) (qual : Str) (scope : Scope) (f : Addr) (cd : Value) (A : Around) (outer : List Env) (s : Shared) (H : Hp) (E : XK) : Cx where
  prog := P
  w := w
  K := K
  mg := mg
  base := base
  A := A.deeper (envOfC qual scope s.heap.objs.size f cd)
  N := N
  s₀ := s
  H₀ := H
  env := envOfC qual scope s.heap.objs.size f cd
  outer := outer
  stack := envOfC qual scope s.heap.objs.size f cd :: outer
  ex := []
  calm := true
  fn := fun _ => true
  pn := []
  xe := fun e s' => wpAny (model P w) (A.deeper (envOfC qual scope s.heap.objs.size f cd)) (leaving (envOfC qual scope s.heap.objs.size f cd) e) (fun _ s'' => CX outer H s E e s'') (fun e' s'' => CX outer H s E e' s'') s'

theorem cell_has {sc : Scope} {n : Nat} {x : Str} (h : sc.names.lookup x = some .cell) : ∃ c, (cellsFrom n sc.names []).lookup x = some c := by
  have q := PySem.W.cellsFrom_some sc.names n [] (.inl h)
  exact Option.isSome_iff_exists.mp q

theorem inv_start {CX : CXT} {P : Program} {w : World} {K : PySem.W.Frag} {mg : Str → Option Value} {base : Heap} {N ps : List Str} {qual : Str} {scope : Scope} {f : Addr} {cd : Value} {A : Around} {outer : List Env} {s s1 : Shared} {H : Hp} {E : XK} {us : List Value} {vs : List V}
    (S : FnScope N ps scope) (e0 : Env0 P w K mg base A outer s H) (hl : vs.length = ps.length) (r : Vals vs us)
    (x : InCallC s s.heap.objs.size (bindL (envOfC qual scope s.heap.objs.size f cd).kindOf (ps.zip us) fun _ => none) (cellsFrom (s.heap.objs.size + 1) scope.names []) (bindC (envOfC qual scope s.heap.objs.size f cd).kindOf (ps.zip us) fun _ => none) s1) :
    Inv (cxOf CX P w K mg base N qual scope f cd A outer s H E) [] (start N vs) H s1 := by
  have hpl : ps.length ≤ N.length := by have := congrArg List.length S.pre; rw [List.length_take] at this; omega
  obtain ⟨h1, tk, rfl, hk⟩ := x.done
  have noA : ∀ b : Addr, b ∉ (cxOf CX P w K mg base N qual scope f cd A outer s H E).ex := fun b z => absurd (show b ∈ ([] : List Addr) from z) (by simp)
  refine ⟨⟨e0.mod, S.kind, rfl, rfl, Nat.le_refl _, fun y z c h1 h2 => ?_, fun y hy => ?_, fun y c _ h => ?_, e0.hd, Around.frames_deeper e0.frames, .inr ⟨rfl, rfl⟩, fun b z => absurd z (noA b), e0.bs, e0.bsz, fun b _ _ => noA b, fun b z => absurd z (noA b), e0.funs, e0.frf⟩,
    rfl, e0.bare, Un.kept hk, ⟨_, x.toInCall.ns, fun i y v h1 h2 h3 => ?_⟩, fun y c h => ⟨_, x.cell y c h⟩, e0.hok.fresh (Nat.le_refl _), fun y c h => ?_, fun p hp => absurd (show p ∈ ([] : List (Addr × Obj)) from hp) (by simp), e0.hok.kept hk, ?_⟩
  · exact name_of_addr x.apart (PySem.mem_of_lookup h1) (PySem.mem_of_lookup h2)
  · have hy : scope.names.lookup y = some .cell ∨ scope.names.lookup y = some .free := hy
    rcases hy with hy | hy
    · exact cell_has hy
    · exact absurd rfl (S.nofree _ (PySem.mem_of_lookup hy))
  · exact Nat.le_of_lt (x.above y c (PySem.mem_of_lookup h))
  · have hi : i < vs.length := by
      unfold start at h2
      by_cases hi : i < vs.length
      · exact hi
      · rw [List.getElem?_append_right (by simpa using hi)] at h2
        rw [List.getElem?_replicate] at h2
        split at h2 <;> cases h2
    have ha : vs[i]? = some v := by
      unfold start at h2
      rw [List.getElem?_append_left (by simpa using hi), List.getElem?_map] at h2
      cases e : vs[i]? with
      | none => rw [e] at h2; cases h2
      | some a => rw [e] at h2; cases h2; rfl
    obtain ⟨u, hu, rv⟩ := r.get ha
    have hp : ps[i]? = some y := by
      rw [← S.pre, List.getElem?_take_of_lt (by omega)]; exact h1
    have ndP : ps.Nodup := by rw [← S.pre]; exact S.nd.sublist (List.take_sublist _ _)
    refine ⟨u, rv, ?_⟩
    rcases S.par y (List.mem_of_getElem? hp) with k | k
    · exact .inl ⟨k, bindL_get ndP hp hu k⟩
    · obtain ⟨c, e⟩ := cell_has (n := s.heap.objs.size + 1) k
      refine .inr ⟨.inl k, c, e, ?_⟩
      have q := x.cell y c e
      rw [bindC_get ndP hp hu (by show scope.names.lookup y ≠ _; rw [k]; decide)] at q
      exact q
  · exact e0.hok.fresh (Nat.le_of_lt (x.above y c (PySem.mem_of_lookup h)))
  · unfold start
    show _ = N.length
    rw [List.length_append, List.length_map, List.length_replicate]
    omega

/-- THE RULE: a def (or a method) of the text, by its body. The body's reading t is chosen for each entry; it is run at the parameters' values -/
theorem fn_of {CX : CXT} {P : Program} {w : World} {K : PySem.W.Frag} {mg : Str → Option Value} {base : Heap} {k : Nat} {f : Addr} {name qual : Str} {params : Arguments} {body : List Stmt} {scope : Scope} {dV kV doc pm cdv ct oc : Value} {an od : Option Addr}
    {osl : Array (Option Value)} {N ps : List Str} {sp : Sp} (lk : K.lookup f = some ⟨oc, od, .func (PySem.W.fnOf name qual params body scope dV kV doc pm an cdv ct), osl⟩) (hcd : PySem.W.codeIn K cdv qual = true) (S : FnScope N ps scope)
    (len : ∀ vs H Q E, sp vs H Q E → vs.length = ps.length)
    (hbody : ∀ (A : Around) (outer : List Env) (s : Shared) (H : Hp) (vs : List V) (Q : VK) (E : XK), Room k (A.deeper (envOfC qual scope s.heap.objs.size f cdv)) → sp vs H Q E →
      ∃ t, PSs (cxOf CX P w K mg base N qual scope f cdv A outer s H E) body t ∧ t { nx := fun _ H' => Q .non H', rt := Q } (start N vs) H) :
    FnOk P w K mg base CX (k + 1) f (PySem.W.fnOf name qual params body scope dV kV doc pm an cdv ct) ps sp := by
  refine ⟨len, fun A outer s H args us vs Q E hr e0 hb r hsp => ?_⟩
  have hl := len _ _ _ _ hsp
  have KX : K.In s.heap := e0.mod.kin.keeps fun b o e => (e0.bs b o e).1
  have lim : s.heap.NoLimit := e0.mod.nolimit.keeps fun b o e => (e0.bs b o e).1
  have hkind : ∀ y ∈ ps.zip us, scope.names.lookup y.1 = some .local ∨ (scope.names.lookup y.1 = some .cell ∧ ((cellsFrom (s.heap.objs.size + 1) scope.names []).lookup y.1).isSome = true) := fun ⟨n, v⟩ hy => by
    rcases S.par n (List.of_mem_zip hy).1 with q | q
    · exact .inl q
    · exact .inr ⟨q, PySem.W.cellsFrom_some _ _ _ (.inl q)⟩
  refine codeAny_call_function hr.depth (KX _ _ lk) rfl S.co S.gen rfl (PySem.W.codeRec_of KX hcd) (hb _ _ _ _ ?_)
  refine wpAny_newFunctionEnv_cells S.kind hkind fun env he s1 x => ?_
  subst he
  refine ⟨lim.keeps x.toInCall.keep, codeAny_func ?_⟩
  obtain ⟨t, ht, hq⟩ := hbody A outer s H vs Q E (hr.deeper _) hsp
  have I : Inv (cxOf CX P w K mg base N qual scope f cdv A outer s H E) [] (start N vs) H s1 := inv_start S e0 hl r x
  refine wpAny_mono (ht [] s1 (start N vs) H _ I hq) (fun fl s' hs => ?_) fun e s' hs => hs
  have fin : ∀ {σ' : St} {H' : Hp} {v : V} {u : Value}, Inv (cxOf CX P w K mg base N qual scope f cdv A outer s H E) [] σ' H' s' → RelV v u → Q v H' → CE outer P w H s Q u s' :=
    fun {σ' H' v u} J rv q => ⟨v, H', J.os, J.bare, J.base, J.hok, rv, q⟩
  cases fl with
  | ret u =>
    obtain ⟨v, σ', H', J, rv, q⟩ := hs
    exact fin J rv q
  | next =>
    obtain ⟨σ', H', J, q⟩ := hs
    exact fin (v := V.non) (u := Value.none) J rfl q
  | brk =>
    obtain ⟨_, _, _, q⟩ := hs
    exact False.elim q
  | cont =>
    obtain ⟨_, _, _, q⟩ := hs
    exact False.elim q
end L2

namespace L2
open PySem PySem.Spec PyProof.Rows
section
variable {X : Cx} {x : Str} {p pos : Pos} {e : Expr} {es : List Expr} {t : TA} {id T : String} {r : List V → Hp → VK → Prop}

def tCB (r : List V → Hp → VK → Prop) (t : TA) : TE := fun σ H Q => t σ H fun vs H1 => r vs H1 Q
/-- f(e, ..), f a built-in function -/
theorem pe_callB (hc : CallR X (.builtin id) r) (hg : Gl X x) (hm : X.mg x = none) (hv : bootBuiltins x = some (.builtin id)) (ha : PA X (e :: es) t) (hn : x ≠ "__name__" := by decide) (hdb : (x == ("__debug__" : Str)) = false := by decide)
    (he : starEach (e :: es) X.env = (false, eval e X.env) :: starEach es X.env := by rfl) (hpl : (backTo pos (starEach es X.env)).any (·.1) = false := by rfl) : PE X (.Call (.Name x p) (e :: es) [] pos) (tCB r t) := by
  intro pins s σ H Q I h
  refine wpAny_Call_Name_kw (ld_blt I hg hm hv ?_ hn hdb)
  exact PyProof.Rows.callWith_builtin1 (thn (ha pos pins s σ H _ I h) fun us s1 ⟨vs, H1, I1, r1, q1⟩ => hc pins s1 σ H1 vs us Q I1 r1 q1) he hpl
/-- T(e, ..), T a built-in type -/
theorem pe_callTy (hc : CallR X (.type T) r) (hg : Gl X x) (hm : X.mg x = none) (hv : bootBuiltins x = some (.type T)) (ha : PA X (e :: es) t) (hn : x ≠ "__name__" := by decide) (hdb : (x == ("__debug__" : Str)) = false := by decide)
    (he : starEach (e :: es) X.env = (false, eval e X.env) :: starEach es X.env := by rfl) (hpl : (backTo pos (starEach es X.env)).any (·.1) = false := by rfl) : PE X (.Call (.Name x p) (e :: es) [] pos) (tCB r t) := by
  intro pins s σ H Q I h
  refine wpAny_Call_Name_kw (ld_blt I hg hm hv ?_ hn hdb)
  exact PyProof.Rows.callWith_type1 (thn (ha pos pins s σ H _ I h) fun us s1 ⟨vs, H1, I1, r1, q1⟩ => hc pins s1 σ H1 vs us Q I1 r1 q1) he hpl
end
end L2

namespace HT
open PySem PyProof.Rows

/-- t < u of tuples of ints -/
def lexLt : List Int → List Int → Bool
  | [], [] => false
  | [], _ :: _ => true
  | _ :: _, [] => false
  | x :: xs, y :: ys => if x = y then lexLt xs ys else decide (x < y)
section
open PySem.SeqAt
open PySem.AutoSeq1 (wpAny_loadPart')
open PySem.MeetsSeq PySem.MeetsSeq2 PySem.MeetsSeq3

end

section
variable {prog : Program} {w : World} {A : Around} {E : Value → Shared → Prop} {s : Shared}

/-! ### t[a:b], not the whole -/
/-- a slice's bound as a place among n (d where it is left out) -/
def sIx (n d : Nat) : Option Int → Nat
  | none => d
  | some v => if v < 0 then (v + (n : Int)).toNat else min v.toNat n
theorem sIx_none (n d : Nat) : sIx n d none = d := rfl
end
end HT

namespace L2
open PySem PySem.Spec PyProof.Rows

/-! ### the parts of a slice -/
abbrev TO := St → Hp → (Option Int → Hp → Prop) → Prop
/-- a slice's part (left out, or an int) -/
def PO (X : Cx) (e : Option Expr) (t : TO) : Prop :=
  ∀ (pins : List (Addr × Obj)) (s : Shared) (σ : St) (H : Hp) (Q : Option Int → Hp → Prop), Inv X pins σ H s → t σ H Q →
    wpAny (model X.prog X.w) X.A (evalPart e X.env) (fun u s' => ∃ o H', Inv X pins σ H' s' ∧ IsPart u o ∧ Q o H') X.xe s
def tNoPart : TO := fun _ H Q => Q none H
def tPart (t : TE) : TO := fun σ H Q => t σ H fun x H1 => ∃ i, x = .int i ∧ Q (some i) H1

section
variable {X : Cx} {e : Expr} {te : TE} {lo hi : Option Expr} {tl th : TO} {pos p2 : Pos}

theorem po_none : PO X none tNoPart := by
  intro pins s σ H Q I h
  rw [evalPart_none]
  exact wpAny_pure ⟨none, H, I, .none, h⟩
theorem po_some (h : PE X e te) : PO X (some e) (tPart te) := by
  intro pins s σ H Q I hw
  rw [evalPart_some]
  refine thn (h pins s σ H _ I hw) fun u s1 ⟨x, H1, I1, r1, q1⟩ => ?_
  obtain ⟨i, rfl, q⟩ := q1
  obtain ⟨t, rfl⟩ := r1
  exact ⟨some i, H1, I1, .int i t, q⟩

/-- what a slice of a value is, by values: the slice object stands at sl -/
def SlR (X : Cx) (r : V → Option Int → Option Int → Hp → VK → Prop) : Prop :=
  ∀ (pins : List (Addr × Obj)) (s : Shared) (σ : St) (H : Hp) (x : V) (v vl vu : Value) (lo hi : Option Int) (sl : Addr) (Q : VK), Inv X pins σ H s → RelV x v → s.heap.IsSliceOf sl vl vu .none → IsPart vl lo → IsPart vu hi → r x lo hi H Q →
    ∃ T id, typeLookup (.type T) "__getitem__" = pure (some (.builtin id)) ∧ s.TypeIs v T ∧ wpAny (model X.prog X.w) X.A (getItem v (.ref sl)) (EP X pins σ Q) X.xe s
def tSl (r : V → Option Int → Option Int → Hp → VK → Prop) (te : TE) (tl th : TO) : TE := fun σ H Q => te σ H fun x H1 => tl σ H1 fun l H2 => th σ H2 fun u H3 => r x l u H3 Q
/-- a[lo:hi], any a -/
theorem pe_slice {r : V → Option Int → Option Int → Hp → VK → Prop} (hr : SlR X r) (he : PE X e te) (hl : PO X lo tl) (hu : PO X hi th) : PE X (.Subscript e (.Slice lo hi none p2) pos) (tSl r te tl th) := by
  intro pins s σ H Q I h
  refine Subscript_ (thn (he pins s σ H _ I h) fun v s1 ⟨x, H1, I1, r1, q1⟩ => ?_)
  refine wpAny_Slice (thn (hl pins s1 σ H1 _ I1 q1) fun vl s2 ⟨l, H2, I2, pl, q2⟩ => thn (hu pins s2 σ H2 _ I2 q2) fun vu s3 ⟨u, H3, I3, pu, q3⟩ => ?_)
  rw [evalPart_none]
  refine wpAny_pure ?_
  have I4 : Inv X pins σ H3 { s3 with heap := s3.heap.push { cls := .type "slice", data := .fields #[vl, vu, .none] } } := I3.kept (t' := s3.toks) fun b ob q => Heap.get?_push_of_some _ q
  obtain ⟨T, id, hT, ht, hg⟩ := hr pins { s3 with heap := s3.heap.push { cls := .type "slice", data := .fields #[vl, vu, .none] } } σ H3 x v vl vu l u s3.heap.objs.size Q I4 r1 (Heap.IsSliceOf.new ..) pl pu q3
  show wpAny (model X.prog X.w) X.A (subscriptTail e (.Slice lo hi none p2) v (.ref s3.heap.objs.size)) (EP X pins σ Q) X.xe { s3 with heap := s3.heap.push { cls := .type "slice", data := .fields #[vl, vu, .none] } }
  exact tail_any (ops := [.ref s3.heap.objs.size, v]) ht hT hg (by with_unfolding_all rfl)

/-- the items of xs[lo:hi] -/
def cutV (xs : List V) (lo hi : Option Int) : List V := (xs.drop (HT.sIx xs.length 0 lo)).take (HT.sIx xs.length xs.length hi - HT.sIx xs.length 0 lo)
theorem cutV_length (xs : List V) (lo hi : Option Int) : (cutV xs lo hi).length ≤ xs.length := by
  unfold cutV
  rw [List.length_take, List.length_drop]
  omega
/-- t[lo:hi], not the whole of it (the whole would be t itself) -/
def rSlT (K : PySem.W.Frag) : V → Option Int → Option Int → Hp → VK → Prop := fun x lo hi H Q => ∃ a xs, x = .ref a ∧ SqT K H a xs ∧
  ¬ (HT.sIx xs.length 0 lo = 0 ∧ HT.sIx xs.length xs.length hi = xs.length) ∧ ∀ p, H p = none → Q (.ref p) (upd H p (.tup (cutV xs lo hi)))
/-! ### t < u, t + u -/
def rLtT (K : PySem.W.Frag) : R2 := fun x y H Q => ∃ a b ns ms, x = .ref a ∧ y = .ref b ∧ SqT K H a (ns.map V.int) ∧ SqT K H b (ms.map V.int) ∧ Q (.bl (HT.lexLt ns ms)) H
/-- t + u, t not empty: u empty gives t itself -/
def rCatT (K : PySem.W.Frag) : R2 := fun x y H Q => ∃ a b xs ys, x = .ref a ∧ y = .ref b ∧ SqT K H a xs ∧ SqT K H b ys ∧ xs ≠ [] ∧ xs.length + ys.length ≤ sizeLine ∧
  (ys = [] → Q (.ref a) H) ∧ (ys ≠ [] → ∀ p, H p = none → Q (.ref p) (upd H p (.tup (xs ++ ys))))
end
end L2

namespace L2
open PySem PySem.Spec PyProof.Rows

/-! ### places -/
/-- the place that an index of any sign means -/
def ixN (n : Nat) (i : Int) : Option Nat := if 0 ≤ i then (if i < n then some i.toNat else none) else if -(n : Int) ≤ i then some (i + n).toNat else none
def atI {α : Type} (xs : List α) (i : Int) : Option α := (ixN xs.length i).bind fun j => xs[j]?
theorem ixN_seq {n : Nat} {i : Int} {j : Nat} (h : ixN n i = some j) : seqIndex? i n = some j ∧ j < n ∧ -(n : Int) ≤ i ∧ i < n := by
  unfold ixN at h
  by_cases h0 : 0 ≤ i
  · rw [if_pos h0] at h
    by_cases h1 : i < n
    · rw [if_pos h1] at h
      have e : i.toNat = j := Option.some.inj h
      exact ⟨by rw [seqIndex_of h0 h1, e], by omega, by omega, h1⟩
    · rw [if_neg h1] at h; cases h
  · rw [if_neg h0] at h
    by_cases h1 : -(n : Int) ≤ i
    · rw [if_pos h1] at h
      have e : (i + n).toNat = j := Option.some.inj h
      exact ⟨by rw [seqIndex_neg (by omega) h1, e], by omega, h1, by omega⟩
    · rw [if_neg h1] at h; cases h
theorem atI_get {α : Type} {xs : List α} {i : Int} {v : α} (h : atI xs i = some v) : ∃ j, seqIndex? i xs.length = some j ∧ xs[j]? = some v ∧ j < xs.length ∧ -(xs.length : Int) ≤ i ∧ i < xs.length := by
  unfold atI at h
  cases e : ixN xs.length i with
  | none => rw [e] at h; cases h
  | some j =>
    rw [e] at h
    obtain ⟨h1, h2, h3, h4⟩ := ixN_seq e
    exact ⟨j, h1, h, h2, h3, h4⟩
/-! ### what may be subscripted -/
/-- what stands as an index of a plain subscript -/
def PlainIx (b : Expr) : Prop := ∀ o i, subscripted b false o i = operate [o, i] (getItem o i)
/-- a subscript by values -/
def IxR (X : Cx) (r : R2) : Prop :=
  ∀ (value slice : Expr) (pins : List (Addr × Obj)) (s : Shared) (σ : St) (H : Hp) (x y : V) (v u : Value) (Q : VK), Inv X pins σ H s → RelV x v → RelV y u → r x y H Q →
    subscripted slice false v u = operate [v, u] (getItem v u) → wpAny (model X.prog X.w) X.A (subscriptTail value slice v u) (EP X pins σ Q) X.xe s
/-- a call of a builtin's method by values: the receiver, the arguments -/
def MtR (X : Cx) (id : String) (r : V → List V → Hp → VK → Prop) : Prop :=
  ∀ (pins : List (Addr × Obj)) (s : Shared) (σ : St) (H : Hp) (x : V) (xs : List V) (v : Value) (us : List Value) (Q : VK), Inv X pins σ H s → RelV x v → Vals xs us → r x xs H Q →
    wpAny (model X.prog X.w) X.A (call (.builtin id) (v :: us)) (EP X pins σ Q) X.xe s
section
variable {X : Cx} {a b : Expr} {ta tb : TE} {pos : Pos}
/-- a[b] -/
theorem pe_ix {r : R2} (hr : IxR X r) (ha : PE X a ta) (hb : PE X b tb) (hs : PlainIx b) : PE X (.Subscript a b pos) (tOp r ta tb) := by
  intro pins s σ H Q I h
  exact Subscript_ (binT ha hb I h fun v u s2 x y H2 I2 rx ry q => hr a b pins s2 σ H2 x y v u Q I2 rx ry q (hs _ _))

def rIxL (K : PySem.W.Frag) : R2 := fun x y H Q => ∃ p xs i v, x = .ref p ∧ y = .int i ∧ SqL K H p xs ∧ atI xs i = some v ∧ Q v H
def rIxT (K : PySem.W.Frag) : R2 := fun x y H Q => ∃ p xs i v, x = .ref p ∧ y = .int i ∧ SqT K H p xs ∧ atI xs i = some v ∧ Q v H
def rIxS : R2 := fun x y H Q => ∃ z i c, x = .str z ∧ y = .int i ∧ z.length ≤ sizeLine ∧ atI z.cps.toList i = some c ∧ Q (.str ⟨#[c]⟩) H
theorem ix_list : IxR X (rIxL X.K) := by
  intro value slice pins s σ H x y v u Q I rx ry h hs
  obtain ⟨p, xs, i, z, rfl, rfl, hq, he, q⟩ := h
  cases rx
  obtain ⟨t, rfl⟩ := ry
  obtain ⟨its, r, pl, hz⟩ := I.list hq
  obtain ⟨j, h1, h2, h3, h4, h5⟩ := atI_get he
  obtain ⟨w, ew, rw'⟩ := r.get h2
  have hl := r.length
  have hn := line63
  have fin : EP X pins σ Q w s := ⟨z, H, I, rw', q⟩
  by_cases h0 : 0 ≤ i
  · have hj : i.toNat = j := by
      rw [seqIndex_of h0 h5] at h1
      exact Option.some.inj h1
    exact item_listR pl.isList h0 (by omega) (by rw [hj]; simpa using ew) fin hs
  · have hj : (i + (its.toArray.size : Int)).toNat = j := by
      rw [seqIndex_neg (by omega) h4] at h1
      rw [List.size_toArray, ← hl]
      exact Option.some.inj h1
    exact subscriptTail_builtinR (x := w) pl.isList.typeIs slot_list_getitem.lookup
      (wpAny_getItem_list_neg (Q := fun r s' => r = w ∧ EP X pins σ Q r s') pl.isList (by omega) (by rw [List.size_toArray] <;> omega) (by omega) (by rw [hj]; simpa using ew) ⟨rfl, fin⟩) hs
/-- list, tuple or str -/
def rIx (K : PySem.W.Frag) : R2 := fun x y H Q => rIxL K x y H Q ∨ rIxT K x y H Q ∨ rIxS x y H Q
/-! ### xs[i] = v, any sign -/
theorem Inv.lst {pins : List (Addr × Obj)} {σ : St} {H : Hp} {s : Shared} {p : Addr} {xs : List V} (I : Inv X pins σ H s) (h : H p = some (.lst xs)) :
    ∃ (its : List Value) (n : Nat), Vals xs its ∧ s.heap.get? p = some { cls := .type "list", data := .seq its.toArray n } ∧ xs.length ≤ sizeLine := by
  obtain ⟨z, its, n, r, e⟩ := I.hok p _ h
  exact ⟨its, n, r, e, z⟩
def rSetL : V → V → V → Hp → (Hp → Prop) → Prop := fun o i v H Q => ∃ p xs k j, o = .ref p ∧ i = .int k ∧ H p = some (.lst xs) ∧ ixN xs.length k = some j ∧ Q (upd H p (.lst (xs.set j v)))
/-! ### slices -/
theorem slice_bounds (lo hi : Option Int) (n : Nat) : (sliceBounds lo hi none n).1 = ((HT.sIx n 0 lo : Nat) : Int) ∧ (sliceBounds lo hi none n).2.1 = ((HT.sIx n n hi : Nat) : Int) ∧ (sliceBounds lo hi none n).2.2 = 1 := by
  refine ⟨?_, ?_, rfl⟩
  · cases lo with
    | none => simp [sliceBounds, HT.sIx]
    | some i =>
      simp only [sliceBounds, HT.sIx, Option.getD_none, show (1 : Int) > 0 by decide, if_true]
      by_cases h : i < 0
      · simp only [h, if_true] <;> omega
      · simp only [h, if_false] <;> omega
  · cases hi with
    | none => simp [sliceBounds, HT.sIx]
    | some i =>
      simp only [sliceBounds, HT.sIx, Option.getD_none, show (1 : Int) > 0 by decide, if_true]
      by_cases h : i < 0
      · simp only [h, if_true] <;> omega
      · simp only [h, if_false] <;> omega
theorem slicePick_cut (its : List Value) (lo hi : Option Int) : slicePick its.toArray lo hi none = ((its.drop (HT.sIx its.length 0 lo)).take (HT.sIx its.length its.length hi - HT.sIx its.length 0 lo)).toArray := by
  obtain ⟨h1, h2, h3⟩ := slice_bounds lo hi its.toArray.size
  unfold slicePick
  rw [h1, h2, h3]
  simp only [sliceRange_one, pick_run, List.size_toArray] <;> rfl
/-- xs[lo:hi] of a list: a new list -/
def rSlL (K : PySem.W.Frag) : V → Option Int → Option Int → Hp → VK → Prop := fun x lo hi H Q => ∃ a xs, x = .ref a ∧ SqL K H a xs ∧ ∀ p, H p = none → Q (.ref p) (upd H p (.lst (cutV xs lo hi)))
theorem sl_list : SlR X (rSlL X.K) := by
  intro pins s σ H x v vl vu lo hi sl Q I rx hs pl pu h
  obtain ⟨a, xs, rfl, hx, q⟩ := h
  cases rx
  obtain ⟨its, r, ht, hz⟩ := I.list hx
  have hlen := r.length
  refine ⟨"list", _, slot_list_getitem.lookup, ht.isList.typeIs, ?_⟩
  refine wpAny_getItem_list_slice ht.isList hs pl pu .none (by simp) ?_ (by rw [List.size_toArray] <;> omega)
  rw [slicePick_cut, ← hlen]
  refine ⟨.ref s.heap.objs.size, _, I.laid (t' := s.toks) (o := .lst (cutV xs lo hi)) (fun b ob q => Heap.get?_push_of_some _ q) (Nat.le_refl _) ?_, rfl, q _ (I.hok.fresh (Nat.le_refl _))⟩
  exact ⟨Nat.le_trans (cutV_length xs lo hi) hz, _, 0, (r.drop (HT.sIx xs.length 0 lo)).take (HT.sIx xs.length xs.length hi - HT.sIx xs.length 0 lo), Heap.get?_push_size _ rfl⟩

/-! ### in, not in: flat items -/
def flatV : V → Bool
  | .non => true
  | .bl _ => true
  | .int _ => true
  | .str _ => true
  | _ => false
/-- == of flat values -/
def eqV : V → V → Bool
  | .non, .non => true
  | .bl a, .bl b => a == b
  | .bl a, .int b => (if a then 1 else 0) == b
  | .int a, .bl b => a == (if b then 1 else 0)
  | .int a, .int b => a == b
  | .str a, .str b => a == b
  | _, _ => false
theorem eqAt_V {A : Around} {s : Shared} {y x : V} {u v : Value} (ry : RelV y u) (rx : RelV x v) (fy : flatV y = true) (fx : flatV x = true) : SeqAt.EqAt A s u v (eqV y x) := by
  cases y with
  | non =>
    cases ry
    cases x with
    | non => cases rx; exact SeqAt.EqAt.same _
    | bl b => cases rx; exact SeqAt.EqAt.none_bool b
    | int b => obtain ⟨t, rfl⟩ := rx; exact SeqAt.EqAt.none_int b t
    | str b => obtain ⟨t, rfl⟩ := rx; exact SeqAt.EqAt.none_str b t
    | _ => exact absurd (show false = true from fx) Bool.false_ne_true
  | bl a =>
    cases ry
    cases x with
    | non => cases rx; exact SeqAt.EqAt.bool_none a
    | bl b => cases rx; exact SeqAt.EqAt.bool_bool a b
    | int b => obtain ⟨t, rfl⟩ := rx; exact SeqAt.EqAt.bool_int a b t
    | str b => obtain ⟨t, rfl⟩ := rx; exact SeqAt.EqAt.bool_str a b t
    | _ => exact absurd (show false = true from fx) Bool.false_ne_true
  | int a =>
    obtain ⟨t', rfl⟩ := ry
    cases x with
    | non => cases rx; exact SeqAt.EqAt.int_none a t'
    | bl b => cases rx; exact SeqAt.EqAt.int_bool a t' b
    | int b => obtain ⟨t, rfl⟩ := rx; exact SeqAt.EqAt.int_int a t' b t
    | str b => obtain ⟨t, rfl⟩ := rx; exact SeqAt.EqAt.int_str a t' b t
    | _ => exact absurd (show false = true from fx) Bool.false_ne_true
  | str a =>
    obtain ⟨t', rfl⟩ := ry
    cases x with
    | non => cases rx; exact SeqAt.EqAt.str_none a t'
    | bl b => cases rx; exact SeqAt.EqAt.str_bool a t' b
    | int b => obtain ⟨t, rfl⟩ := rx; exact SeqAt.EqAt.str_int a t' b t
    | str b => obtain ⟨t, rfl⟩ := rx; exact SeqAt.EqAt.str_str a t' b t
    | _ => exact absurd (show false = true from fx) Bool.false_ne_true
  | _ => exact absurd (show false = true from fy) Bool.false_ne_true
/-- the items' answers, read off the values (a value's own answer does not lean on its token) -/
def eqU (x : V) (u : Value) : Bool := match u with
  | .none => eqV .non x
  | .bool b => eqV (.bl b) x
  | .int i _ => eqV (.int i) x
  | .str z _ => eqV (.str z) x
  | _ => false
def inV (x : V) (xs : List V) : Bool := xs.any fun y => eqV y x
/-- x in a list or tuple of flat items -/
def rIn (K : PySem.W.Frag) (neg : Bool) : R2 := fun x y H Q => ∃ p xs, y = .ref p ∧ (SqL K H p xs ∨ SqT K H p xs) ∧ flatV x = true ∧ xs.all flatV = true ∧ Q (.bl (if neg then !inV x xs else inV x xs)) H
/-! ### len, list(x), tuple(x) of any list or tuple that is read -/
theorem call_len_seq : CallR X (.builtin "len") (fun xs H Q => ∃ p ys, xs = [.ref p] ∧ (SqL X.K H p ys ∨ SqT X.K H p ys) ∧ Q (.int ys.length) H) := by
  intro pins s σ H xs us Q I r h
  obtain ⟨p, ys, rfl, hq, q⟩ := h
  obtain ⟨u, rfl, rx⟩ := vals1 r
  cases rx
  have hn := line63
  rcases hq with hq | hq
  · obtain ⟨its, r', pl, hz⟩ := I.list hq
    have hlen := r'.length
    exact Calls.call_len_list pl.isList (by simp only [List.size_toArray] <;> omega) ⟨.int ys.length, H, I.tok _, ⟨s.toks + 1, by rw [List.size_toArray, hlen]⟩, q⟩
  · obtain ⟨its, r', pl, hz⟩ := I.tuple hq
    have hlen := r'.length
    exact len_tuple pl (by simp only [List.size_toArray] <;> omega) ⟨.int ys.length, H, I.tok _, ⟨s.toks + 1, by rw [List.size_toArray, hlen]⟩, q⟩
/-! ### the call of a builtin's method: o.m(..) -/
/-- the value is of that builtin type -/
def tyV (K : PySem.W.Frag) (T : String) (x : V) (H : Hp) : Prop := match x with
  | .str _ => T = "str"
  | .int _ => T = "int"
  | .ref p => (T = "list" ∧ ∃ xs, SqL K H p xs) ∨ (T = "tuple" ∧ ∃ o, K.lookup p = some o ∧ o.cls = .type "tuple" ∧ o.dict = none) ∨
      (T = "dict" ∧ ((∃ kvs, H p = some (.dK kvs)) ∨ ∃ kvs, H p = some (.dT kvs))) ∨ (T = "set" ∧ ∃ S n, H p = some (.set S n))
  | _ => False
theorem tyV_is {pins : List (Addr × Obj)} {σ : St} {H : Hp} {s : Shared} {T : String} {x : V} {v : Value} (I : Inv X pins σ H s) (r : RelV x v) (ty : tyV X.K T x H) :
    s.TypeIs v T ∧ ∀ a, v = .ref a → ∃ ob, s.heap.get? a = some ob ∧ ob.dict = none := by
  cases x with
  | str z =>
    obtain ⟨t, rfl⟩ := r
    cases (show T = "str" from ty)
    exact ⟨typeIs_str s z t, fun _ e => nomatch e⟩
  | int i =>
    obtain ⟨t, rfl⟩ := r
    cases (show T = "int" from ty)
    exact ⟨typeIs_int s i t, fun _ e => nomatch e⟩
  | ref p =>
    cases r
    rcases ty with ⟨rfl, xs, hq⟩ | ⟨rfl, o, hk, hc, hd⟩ | ⟨rfl, hk⟩ | ⟨rfl, S, n, hk⟩
    · obtain ⟨its, _, pl, _⟩ := I.list hq
      refine ⟨pl.isList.typeIs, fun a e => ?_⟩
      cases e
      obtain ⟨o, n, e, c, hd, _⟩ := pl
      exact ⟨o, e, hd⟩
    · refine ⟨⟨o, I.kIn p o hk, hc⟩, fun a e => ?_⟩
      cases e
      exact ⟨o, I.kIn _ o hk, hd⟩
    · have z : ∃ o, s.heap.get? p = some o ∧ o.ExactDict := by
        rcases hk with ⟨kvs, hk⟩ | ⟨kvs, hk⟩
        · obtain ⟨_, _, _, _, o, _, _, e, ex, _⟩ := I.hok p _ hk
          exact ⟨o, e, ex⟩
        · obtain ⟨_, _, _, _, o, _, _, e, ex, _⟩ := I.hok p _ hk
          exact ⟨o, e, ex⟩
      obtain ⟨o, e, ex⟩ := z
      refine ⟨⟨o, e, ex.1⟩, fun a e2 => ?_⟩
      cases e2
      exact ⟨o, e, ex.2.1⟩
    · obtain ⟨o, _, _, _, e, ex, _⟩ := I.hok p _ hk
      refine ⟨⟨o, e, ex.1⟩, fun a e2 => ?_⟩
      cases e2
      exact ⟨o, e, ex.2.1⟩
  | _ => exact False.elim ty
def tBM0 (K : PySem.W.Frag) (T : String) (r : V → List V → Hp → VK → Prop) (to : TE) : TE := fun σ H Q => to σ H fun x H1 => tyV K T x H1 ∧ r x [] H1 Q
def tBM (K : PySem.W.Frag) (T : String) (r : V → List V → Hp → VK → Prop) (to : TE) (t : TA) : TE := fun σ H Q => to σ H fun x H1 => tyV K T x H1 ∧ t σ H1 fun xs H2 => r x xs H2 Q
variable {o e : Expr} {es : List Expr} {to : TE} {t : TA} {name : Str} {apos cpos : Pos} {T id : String} {r : V → List V → Hp → VK → Prop}
theorem pe_bm (pa : PlainAttrs T) (slot : Slot T name id) (hty : typeOf (.builtin id) = pure (.type "method_descriptor")) (hm : MtR X id r) (ho : PE X o to) (ha : PA X (e :: es) t)
    (hbase : attributeBase o name X.env (eval o X.env) = eval o X.env := by rfl)
    (hfew : ((backTo cpos (starEach (e :: es) X.env)).all (fun x => !x.1) && (backToKw cpos (keywordEach [] X.env)).all (fun x => x.1.isSome)
      && decide ((e :: es).length + ([] : List Keyword).length + (if ([] : List Keyword).isEmpty then 0 else 1) < 30)) = true := by rfl)
    (hline : (apos.endLine == cpos.line) = true := by rfl) (hs : starEach (e :: es) X.env = (false, eval e X.env) :: starEach es X.env := by rfl) (hplain : (backTo cpos (starEach es X.env)).any (·.1) = false := by rfl) :
    PE X (.Call (.Attribute o name apos) (e :: es) [] cpos) (tBM X.K T r to t) := by
  intro pins s σ H Q I h
  refine wpAny_Call_method_late hbase hfew hline rfl (thn (ho pins s σ H _ I h) fun v s1 ⟨x, H1, I1, r1, ty, q1⟩ => ?_)
  obtain ⟨h1, h2⟩ := tyV_is I1 r1 ty
  refine ⟨T, id, pa, slot, hty, h1, h2, ?_⟩
  have hA := ha cpos pins s1 σ H1 _ I1 q1
  rw [hs] at hA ⊢
  refine Calls.callWith_builtin (by show (false || (backTo cpos (starEach es X.env)).any (·.1)) = false; rw [hplain] <;> rfl) (Calls.evalArgs_plain ?_)
  exact thn hA fun us s2 ⟨vs, H2, I2, r2, q2⟩ => hm pins s2 σ H2 x vs v us Q I2 r1 r2 q2
/- xs.append(e), list.index on a module's tuple .. are MtR facts of 06m -/
end
end L2

namespace L2
open PySem PySem.Spec PyProof.Rows

def MtM (X : Cx) (id : String) (r : V → List V → Hp → VK → Prop) : Prop :=
  ∀ (pins : List (Addr × Obj)) (s : Shared) (σ : St) (H : Hp) (x : V) (xs : List V) (v : Value) (us : List Value) (Q : VK), Inv X pins σ H s → RelV x v → Vals xs us → r x xs H Q →
    wpAny (model X.prog X.w) X.A (call (.builtin id) (v :: us)) (EP X pins σ Q) X.xe s

/-! ### lists of values -/
theorem Vals.one : ∀ {x : V} {us : List Value}, Vals [x] us → ∃ u, us = [u] ∧ RelV x u
  | _, _, .cons r .nil => ⟨_, rfl, r⟩
theorem Vals.dropLast {xs : List V} {us : List Value} (h : Vals xs us) : Vals xs.dropLast us.dropLast := by
  induction h with
  | nil => exact .nil
  | cons r t ih =>
    cases t with
    | nil => exact .nil
    | cons q t' => exact .cons r ih
theorem Vals.eraseIdx : ∀ {xs : List V} {us : List Value} (i : Nat), Vals xs us → Vals (xs.eraseIdx i) (us.eraseIdx i)
  | _, _, _, .nil => .nil
  | _, _, 0, .cons _ t => t
  | _, _, i + 1, .cons r t => .cons r (Vals.eraseIdx i t)
theorem Vals.reverse {xs : List V} {us : List Value} (h : Vals xs us) : Vals xs.reverse us.reverse := by
  induction h with
  | nil => exact .nil
  | cons r t ih => rw [List.reverse_cons, List.reverse_cons]; exact Vals.append ih (.cons r .nil)
section
variable {X : Cx} {pins : List (Addr × Obj)} {σ : St} {H : Hp} {s : Shared} {l b : Addr} {xs ys zs : List V}

/-! ### the two steps: a tracked list is rewritten, a new list is laid -/
theorem Inv.lset {its its' : List Value} {n : Nat} {f : Array Value → Array Value} {t' : Nat} (I : Inv X pins σ H s) (hH : H l = some (.lst xs))
    (e : s.heap.get? l = some { cls := .type "list", data := .seq its.toArray n }) (hf : f its.toArray = its'.toArray) (hv : Vals ys its') (hz : ys.length ≤ sizeLine) :
    Inv X pins σ (upd H l (.lst ys)) { s with heap := s.heap.update l (Obj.mapSeq f), toks := t' } := by
  have q := PySem.IsL.update e f
  rw [hf] at q
  refine I.write (x := l) (e := l) (by rw [hH]; exact trivial) (.inl rfl) (fun b' u hb hu => (Heap.get?_update_other s.heap (Obj.mapSeq f) (Ne.symm hb)).trans hu) ⟨_, q⟩ ?_
  exact ⟨hz, its', _, hv, q⟩
theorem Inv.fresh (I : Inv X pins σ H s) : H s.heap.objs.size = none := I.hok.fresh (Nat.le_refl _)
theorem Inv.lstM (I : Inv X pins σ H s) (hH : H l = some (.lst xs)) : xs.length ≤ sizeLine ∧ ∃ (its : List Value) (n : Nat), Vals xs its ∧ xs.length = its.length ∧ s.heap.get? l = some { cls := .type "list", data := .seq its.toArray n } := by
  obtain ⟨z, its, n, r, e⟩ := I.hok l _ hH
  exact ⟨z, its, n, r, r.length, e⟩

theorem notLongL {n : Nat} (h : n ≤ sizeLine) : Builtin.List.listTooLong n = false := by
  unfold Builtin.List.listTooLong
  exact decide_eq_false (by omega)
end

section
variable {X : Cx}

/-! ### methods -/
def rAppend : V → List V → Hp → VK → Prop := fun x vs H Q => ∃ l xs y, x = .ref l ∧ vs = [y] ∧ H l = some (.lst xs) ∧ xs.length < sizeLine ∧ Q .non (upd H l (.lst (xs ++ [y])))
theorem mt_append : MtM X "list.append" rAppend := by
  intro pins s σ H x vs v us Q I rx rv h
  obtain ⟨l, xs, y, rfl, rfl, hH, hz, q⟩ := h
  cases rx
  obtain ⟨u, rfl, ru⟩ := rv.one
  obtain ⟨z, its, n, r, hl, e⟩ := I.lstM hH
  refine call_meets F.slot_list_append ⟨_, e, rfl⟩ F.entry_list_append (F.args_list_append_2 _ _) (PySem.list_append l its.toArray n u (by rw [List.size_toArray]; omega)) ⟨e, ?_⟩
  refine ⟨.non, _, I.lset (its' := its ++ [u]) hH e (by simp) (r.append (.cons ru .nil)) ?_, rfl, q⟩
  rw [List.length_append, List.length_singleton]
  omega

def rExtend : V → List V → Hp → VK → Prop := fun x vs H Q => ∃ l b xs zs, x = .ref l ∧ vs = [.ref b] ∧ H l = some (.lst xs) ∧ H b = some (.lst zs) ∧ xs.length + zs.length ≤ sizeLine ∧ Q .non (upd H l (.lst (xs ++ zs)))
theorem mt_extend : MtM X "list.extend" rExtend := by
  intro pins s σ H x vs v us Q I rx rv h
  obtain ⟨l, b, xs, zs, rfl, rfl, hH, hB, hz, q⟩ := h
  cases rx
  obtain ⟨u, rfl, ru⟩ := rv.one
  cases ru
  obtain ⟨z, its, n, r, hl, e⟩ := I.lstM hH
  obtain ⟨z2, its2, n2, r2, hl2, e2⟩ := I.lstM hB
  have hsz : its.toArray.size + its2.toArray.size ≤ sizeLine := by rw [List.size_toArray, List.size_toArray]; omega
  have hlong : ¬ (!its.toArray.isEmpty && Builtin.List.listTooLong (its.toArray.size + its2.toArray.size)) = true := by
    rw [notLongL hsz, Bool.and_false]
    exact Bool.false_ne_true
  refine call_meets F.slot_list_extend ⟨_, e, rfl⟩ F.entry_list_extend (F.args_list_extend_2 _ _)
    (AutoSeq1.list_extend_list_list_0 l its.toArray n b its2.toArray n2 hlong (by rw [List.size_toArray]; omega) (by omega)) ⟨e, e2, ?_⟩
  refine ⟨.non, _, I.lset (its' := its ++ its2) hH e (by simp) (r.append r2) ?_, rfl, q⟩
  rw [List.length_append]
  omega

def rPop : V → List V → Hp → VK → Prop := fun x vs H Q => ∃ l xs y, x = .ref l ∧ vs = [] ∧ H l = some (.lst xs) ∧ xs[xs.length - 1]? = some y ∧ Q y (upd H l (.lst xs.dropLast))
def rPopAt : V → List V → Hp → VK → Prop := fun x vs H Q => ∃ l xs i k y, x = .ref l ∧ vs = [.int i] ∧ H l = some (.lst xs) ∧ -(2 ^ 63) ≤ i ∧ i < 2 ^ 63 ∧ seqIndex? i xs.length = some k ∧ xs[k]? = some y ∧ Q y (upd H l (.lst (xs.eraseIdx k)))
def rReverse : V → List V → Hp → VK → Prop := fun x vs H Q => ∃ l xs, x = .ref l ∧ vs = [] ∧ H l = some (.lst xs) ∧ Q .non (upd H l (.lst xs.reverse))
def rClear : V → List V → Hp → VK → Prop := fun x vs H Q => ∃ l xs, x = .ref l ∧ vs = [] ∧ H l = some (.lst xs) ∧ Q .non (upd H l (.lst []))
/-! ### list + list, list += list, list * int -/
def rCat : R2 := fun x y H Q => ∃ l b xs zs, x = .ref l ∧ y = .ref b ∧ H l = some (.lst xs) ∧ H b = some (.lst zs) ∧ xs.length + zs.length ≤ sizeLine ∧ ∀ p, H p = none → Q (.ref p) (upd H p (.lst (xs ++ zs)))
/-- a list times an int (a negative one is nothing) -/
def rRep : R2 := fun x y H Q => ∃ l k xs, x = .ref l ∧ y = .int k ∧ H l = some (.lst xs) ∧ -(2 ^ 63) ≤ k ∧ k < 2 ^ 63 ∧ xs.length * k.toNat ≤ sizeLine ∧
  ∀ p, H p = none → Q (.ref p) (upd H p (.lst (List.replicate k.toNat xs).flatten))
/-! ### del xs[i] -/
end

/-! ### xs[a:b] = ys -/
section
variable {prog : Program} {w : World} {A : Around} {E : Value → Shared → Prop} {s : Shared}
end

section
variable {X : Cx}
end
end L2

namespace L2
open PySem PySem.Spec PyProof.Rows

/-! ### lists of pairs as tables -/
section
variable {κ : Type} [DecidableEq κ]
def valV (kvs : List (κ × V)) (k : κ) : Option V := (kvs.find? fun kv => decide (kv.1 = k)).map (·.2)
/-- in its place, or at the end -/
def putK (kvs : List (κ × V)) (k : κ) (v : V) : List (κ × V) :=
  if (kvs.any fun kv => decide (kv.1 = k)) = true then kvs.map (fun kv => if kv.1 = k then (kv.1, v) else kv) else kvs ++ [(k, v)]
def dropK (kvs : List (κ × V)) (k : κ) : List (κ × V) := kvs.filter fun kv => decide (kv.1 ≠ k)

theorem valV_pos {p : κ × V} {r : List (κ × V)} {k : κ} (e : p.1 = k) : valV (p :: r) k = some p.2 := by simp [valV, List.find?_cons, e]
theorem valV_neg {p : κ × V} {r : List (κ × V)} {k : κ} (e : ¬ p.1 = k) : valV (p :: r) k = valV r k := by simp [valV, List.find?_cons, e]
theorem valV_any (k : κ) : ∀ kvs : List (κ × V), (kvs.any fun kv => decide (kv.1 = k)) = (valV kvs k).isSome
  | [] => rfl
  | p :: r => by
    rw [List.any_cons]
    by_cases e : p.1 = k
    · simp only [valV_pos e, decide_eq_true e, Bool.true_or, Option.isSome_some]
    · rw [valV_neg e, decide_eq_false e, Bool.false_or]; exact valV_any k r
theorem valV_map (k j : κ) (y : V) : ∀ kvs : List (κ × V), valV (kvs.map fun kv => if kv.1 = k then (kv.1, y) else kv) j = (valV kvs j).map fun x => if j = k then y else x
  | [] => rfl
  | p :: r => by
    have ih := valV_map k j y r
    rw [List.map_cons]
    by_cases h : p.1 = k
    · rw [if_pos h]
      by_cases e : p.1 = j
      · rw [valV_pos (p := (p.1, y)) e, valV_pos e, Option.map_some, if_pos (e.symm.trans h)]
      · rw [valV_neg (p := (p.1, y)) e, valV_neg e, ih]
    · rw [if_neg h]
      by_cases e : p.1 = j
      · rw [valV_pos (p := p) e, valV_pos e, Option.map_some, if_neg (fun z => h (e.trans z))]
      · rw [valV_neg (p := p) e, valV_neg e, ih]
theorem valV_snoc (k j : κ) (y : V) : ∀ kvs : List (κ × V), valV kvs k = none → valV (kvs ++ [(k, y)]) j = if j = k then some y else valV kvs j
  | [], _ => by
    by_cases e : k = j
    · rw [if_pos e.symm]; exact valV_pos (p := (k, y)) e
    · rw [if_neg (fun z => e z.symm)]; exact valV_neg (p := (k, y)) e
  | p :: r, hn => by
    rw [List.cons_append]
    have hk : ¬ p.1 = k := fun z => by rw [valV_pos z] at hn; cases hn
    rw [valV_neg hk] at hn
    have ih := valV_snoc k j y r hn
    by_cases e : p.1 = j
    · rw [valV_pos e, valV_pos e, if_neg (fun z => hk (e.trans z))]
    · rw [valV_neg e, valV_neg e, ih]
theorem valV_put (kvs : List (κ × V)) (k j : κ) (y : V) : valV (putK kvs k y) j = if j = k then some y else valV kvs j := by
  unfold putK
  by_cases a : (kvs.any fun kv => decide (kv.1 = k)) = true
  · rw [if_pos a, valV_map]
    rw [valV_any] at a
    by_cases e : j = k
    · obtain ⟨x, hx⟩ := Option.isSome_iff_exists.mp a
      rw [if_pos e, e, hx, Option.map_some, if_pos rfl]
    · rw [if_neg e]
      cases valV kvs j with
      | none => rfl
      | some x => rw [Option.map_some, if_neg e]
  · rw [if_neg a]
    refine valV_snoc k j y kvs ?_
    rw [valV_any] at a
    cases q : valV kvs k with
    | none => rfl
    | some x => rw [q] at a; exact (a rfl).elim
theorem length_putK (kvs : List (κ × V)) (k : κ) (v : V) : (putK kvs k v).length ≤ kvs.length + 1 := by
  unfold putK
  split
  · rw [List.length_map]; omega
  · rw [List.length_append, List.length_cons, List.length_nil]; omega
theorem RelO.isSome_eq {o : Option V} {u : Option Value} (r : RelO o u) : o.isSome = u.isSome := by
  cases o with
  | none => cases u with
    | none => rfl
    | some _ => exact (show False from r).elim
  | some _ => cases u with
    | none => exact (show False from r).elim
    | some _ => rfl
theorem RelO.getD {o : Option V} {u : Option Value} {d : V} {d' : Value} (r : RelO o u) (rd : RelV d d') : RelV (o.getD d) (u.getD d') := by
  cases o with
  | none => cases u with
    | none => exact rd
    | some _ => exact (show False from r).elim
  | some _ => cases u with
    | none => exact (show False from r).elim
    | some _ => exact r

/-- raw tables of the same keys -/
theorem KV.val {kvs : List (κ × V)} {vs : List (κ × Value)} (r : KV kvs vs) (k : κ) : RelO (valV kvs k) (valueAt vs k) := by
  unfold KV at r
  induction r with
  | nil => exact True.intro
  | @cons p q ps qs h t ih =>
    obtain ⟨h1, h2⟩ := h
    by_cases e : p.1 = k
    · have e' : q.1 = k := h1.symm.trans e
      have b : valueAt (q :: qs) k = some q.2 := by simp [valueAt, List.find?_cons, e']
      rw [valV_pos e, b]; exact h2
    · have e' : ¬ q.1 = k := fun z => e (h1.trans z)
      have b : valueAt (q :: qs) k = valueAt qs k := by simp [valueAt, List.find?_cons, e']
      rw [valV_neg e, b]; exact ih
theorem KV.any {kvs : List (κ × V)} {vs : List (κ × Value)} (r : KV kvs vs) (k : κ) : (kvs.any fun kv => decide (kv.1 = k)) = vs.any fun kv => decide (kv.1 = k) := by
  unfold KV at r
  induction r with
  | nil => rfl
  | cons h t ih => rw [List.any_cons, List.any_cons, ih, h.1]
theorem KV.repl {kvs : List (κ × V)} {vs : List (κ × Value)} (r : KV kvs vs) (k : κ) {y : V} {u : Value} (ry : RelV y u) :
    KV (kvs.map fun kv => if kv.1 = k then (kv.1, y) else kv) (vs.map fun kv => if kv.1 = k then (kv.1, u) else kv) := by
  unfold KV at r ⊢
  induction r with
  | nil => exact .nil
  | @cons p q ps qs h t ih =>
    rw [List.map_cons, List.map_cons]
    refine .cons ?_ ih
    obtain ⟨h1, h2⟩ := h
    by_cases e : p.1 = k
    · rw [if_pos e, if_pos (h1.symm.trans e)]; exact ⟨h1, ry⟩
    · rw [if_neg e, if_neg (fun z => e (h1.trans z))]; exact ⟨h1, h2⟩
theorem KV.put {kvs : List (κ × V)} {vs : List (κ × Value)} (r : KV kvs vs) (k : κ) {y : V} {u : Value} (ry : RelV y u) : KV (putK kvs k y) (stored vs k u) := by
  unfold putK stored
  rw [r.any k]
  by_cases e : (vs.any fun kv => decide (kv.1 = k)) = true
  · rw [if_pos e, if_pos e]; exact r.repl k ry
  · rw [if_neg e, if_neg e]; exact Paired.snoc r ⟨rfl, ry⟩
theorem KV.drop {kvs : List (κ × V)} {vs : List (κ × Value)} (r : KV kvs vs) (k : κ) : KV (dropK kvs k) (without vs k) := by
  unfold KV at r ⊢
  unfold dropK without
  induction r with
  | nil => exact .nil
  | @cons p q ps qs h t ih =>
    obtain ⟨h1, h2⟩ := h
    rw [List.filter_cons, List.filter_cons]
    by_cases e : p.1 = k
    · have a : ¬ decide (p.1 ≠ k) = true := by simp [e]
      have b : ¬ decide (q.1 ≠ k) = true := by simp [h1.symm.trans e]
      rw [if_neg a, if_neg b]; exact ih
    · have e' : ¬ q.1 = k := fun z => e (h1.trans z)
      have a : decide (p.1 ≠ k) = true := by simp [e]
      have b : decide (q.1 ≠ k) = true := by simp [e']
      rw [if_pos a, if_pos b]; exact .cons ⟨h1, h2⟩ ih
theorem KV.length {kvs : List (κ × V)} {vs : List (κ × Value)} (r : KV kvs vs) : kvs.length = vs.length := Paired.length r
end


/-! ### a tracked dict, its keys ints and texts or tuples of these -/
theorem kV_is {P : Program} {w : World} {k : Key} {u : Value} (r : RelV (kV k) u) : (mixKind P w).is k u = true := by
  cases k with
  | inl i => obtain ⟨t, e⟩ := (show ∃ t, u = Value.int i t from r); subst e; exact mixKind_int P w i t
  | inr x => obtain ⟨t, e⟩ := (show ∃ t, u = Value.str x t from r); subst e; exact mixKind_str P w x t
theorem items_are {P : Program} {w : World} : ∀ {ks : List Key} {us : List Value}, Vals (ks.map kV) us → ItemsAre (mixKind P w) ks us
  | [], _, r => by rw [List.map_nil] at r; cases r; exact .nil
  | k :: ks, _, r => by
    rw [List.map_cons] at r
    cases r with
    | cons h t => exact .cons (kV_is h) (items_are t)

/-- raw entries of a dict with tuple keys -/
abbrev KT (H : Hp) : List (List Key × V) → List (List Key × Addr × Value) → Prop := Paired fun p q => p.1 = q.1 ∧ H q.2.1 = some (.tup (p.1.map kV)) ∧ RelV p.2 q.2.2
theorem KT.val {H : Hp} {kvs : List (List Key × V)} {xs : List (List Key × Addr × Value)} (r : KT H kvs xs) (k : List Key) : RelO (valV kvs k) ((atKey xs k).map (·.2)) := by
  induction r with
  | nil => exact True.intro
  | @cons p q ps qs h t ih =>
    obtain ⟨h1, _, h2⟩ := h
    by_cases e : p.1 = k
    · have e' : q.1 = k := h1.symm.trans e
      have b : atKey (q :: qs) k = some q.2 := by simp [atKey, List.find?_cons, e']
      rw [valV_pos e, b]; exact h2
    · have e' : ¬ q.1 = k := fun z => e (h1.trans z)
      have b : atKey (q :: qs) k = atKey qs k := by simp [atKey, List.find?_cons, e']
      rw [valV_neg e, b]; exact ih
theorem KT.repl {H : Hp} {kvs : List (List Key × V)} {xs : List (List Key × Addr × Value)} (r : KT H kvs xs) (k : List Key) {y : V} {u : Value} (ry : RelV y u) :
    KT H (kvs.map fun kv => if kv.1 = k then (kv.1, y) else kv) (xs.map (putAt k u)) := by
  induction r with
  | nil => exact .nil
  | @cons p q ps qs h t ih =>
    rw [List.map_cons, List.map_cons]
    refine .cons ?_ ih
    obtain ⟨h1, h2, h3⟩ := h
    unfold putAt
    by_cases e : p.1 = k
    · rw [if_pos e, if_pos (h1.symm.trans e)]; exact ⟨h1, h2, ry⟩
    · rw [if_neg e, if_neg (fun z => e (h1.trans z))]; exact ⟨h1, h2, h3⟩
theorem KT.put {H : Hp} {kvs : List (List Key × V)} {xs : List (List Key × Addr × Value)} (r : KT H kvs xs) (k : List Key) {b : Addr} {y : V} {u : Value} (hb : H b = some (.tup (k.map kV))) (ry : RelV y u) :
    KT H (putK kvs k y) (storedH xs k b u) := by
  have e : (kvs.any fun kv => decide (kv.1 = k)) = (atKey xs k).isSome := by
    rw [valV_any, (r.val k).isSome_eq, Option.isSome_map]
  unfold putK storedH
  rw [e]
  by_cases q : (atKey xs k).isSome = true
  · rw [if_pos q, if_pos q]; exact r.repl k ry
  · rw [if_neg q, if_neg q]; exact Paired.snoc r ⟨rfl, hb, ry⟩
theorem KT.keeps {H H' : Hp} {kvs : List (List Key × V)} {xs : List (List Key × Addr × Value)} (r : KT H kvs xs) (ht : ∀ b ys, H b = some (.tup ys) → H' b = some (.tup ys)) : KT H' kvs xs :=
  Paired.mapP r fun _ _ z => ⟨z.1, ht _ _ z.2.1, z.2.2⟩

section
variable {P : Program} {w : World} {H : Hp} {h : Heap} {a : Addr}
theorem rd_of {u : HO} (ok : HOk P w H h) (e : Rd H a u) : ObjOk P w H h a u := e.ok ok
theorem dk_rd {kvs : List (Key × V)} (ok : HOk P w H h) (e : Rd H a (.dK kvs)) : kvs.length ≤ sizeLine ∧ (a == sysModules) = false ∧ ∃ vs, KV kvs vs ∧ h.DictOf (mixKind P w) a vs :=
  show ObjOk P w H h a (.dK kvs) from rd_of ok e
theorem dk_of {kvs : List (Key × V)} (ok : HOk P w H h) (e : H a = some (.dK kvs)) : kvs.length ≤ sizeLine ∧ (a == sysModules) = false ∧ ∃ vs, KV kvs vs ∧ h.DictOf (mixKind P w) a vs := dk_rd ok (.inl e)
/-- a tracked tuple of ints and texts is a key -/
theorem key_of {ks : List Key} (ok : HOk P w H h) (e : H a = some (.tup (ks.map kV))) : (tupleKind (mixKind P w)).is h ks a := by
  obtain ⟨_, its, r, o, h1, h2, n, h3⟩ := (show ObjOk P w H h a (.tup (ks.map kV)) from ok a _ e)
  exact ⟨o, its.toArray, n, h1, h2, h3, by simpa using items_are r⟩
theorem dt_rd {kvs : List (List Key × V)} (ok : HOk P w H h) (e : Rd H a (.dT kvs)) : kvs.length ≤ sizeLine ∧ (a == sysModules) = false ∧
    ∃ xs, KT H kvs xs ∧ h.DictOfH (tupleKind (mixKind P w)) a xs := by
  obtain ⟨z, y, xs, r, o, es, ep, h1, h2, h3, h4, h5⟩ := (show ObjOk P w H h a (.dT kvs) from rd_of ok e)
  refine ⟨z, y, xs, r, o, es, ep, h1, h2, h3, h4, fun x hx => ?_, h5⟩
  have all : ∀ {l : List (List Key × V)} {m : List (List Key × Addr × Value)}, KT H l m → ∀ x ∈ m, (tupleKind (mixKind P w)).is h x.1 x.2.1 := by
    intro l m q
    induction q with
    | nil => intro x hx; exact nomatch hx
    | @cons p q ps qs hq t ih =>
      intro x hx
      rcases List.mem_cons.mp hx with e | hx
      · subst e
        exact key_of ok (by rw [← hq.1]; exact hq.2.1)
      · exact ih x hx
  exact all r x hx
theorem dt_of {kvs : List (List Key × V)} (ok : HOk P w H h) (e : H a = some (.dT kvs)) : kvs.length ≤ sizeLine ∧ (a == sysModules) = false ∧
    ∃ xs, KT H kvs xs ∧ h.DictOfH (tupleKind (mixKind P w)) a xs := dt_rd ok (.inl e)
end

/-- what the dict at a holds at the key y -/
def DGet (H : Hp) (a : Addr) (y : V) (r : Option V) : Prop :=
  (∃ kvs k, Rd H a (.dK kvs) ∧ y = kV k ∧ r = valV kvs k) ∨ ∃ kvs k b, Rd H a (.dT kvs) ∧ y = .ref b ∧ H b = some (.tup (k.map kV)) ∧ r = valV kvs k
/-- the heap behind a[y] = v -/
def DPut (H : Hp) (a : Addr) (y v : V) (H' : Hp) : Prop :=
  (∃ kvs k, H a = some (.dK kvs) ∧ y = kV k ∧ kvs.length < sizeLine ∧ H' = upd H a (.dK (putK kvs k v))) ∨
  ∃ kvs k b, H a = some (.dT kvs) ∧ y = .ref b ∧ H b = some (.tup (k.map kV)) ∧ kvs.length < sizeLine ∧ H' = upd H a (.dT (putK kvs k v))
theorem DGet.k {H : Hp} {a : Addr} {kvs : List (Key × V)} {k : Key} (e : H a = some (.dK kvs)) : DGet H a (kV k) (valV kvs k) := .inl ⟨kvs, k, .inl e, rfl, rfl⟩
theorem DPut.k {H : Hp} {a : Addr} {kvs : List (Key × V)} {k : Key} {v : V} (e : H a = some (.dK kvs)) (hl : kvs.length < sizeLine) : DPut H a (kV k) v (upd H a (.dK (putK kvs k v))) := .inl ⟨kvs, k, e, rfl, hl, rfl⟩
section
variable {X : Cx} {pins : List (Addr × Obj)} {σ : St} {H : Hp} {s : Shared} {a : Addr} {y v : V} {u r : Value} {o : Option V} {A : Around} {E : Value → Shared → Prop}

theorem Inv.big (I : Inv X pins σ H s) : sysModules < s.heap.objs.size := by
  have h : mainGlobals < s.heap.objs.size := (I.mod.glob.keeps I.bk).lt
  exact Nat.lt_trans (by decide) h

/-- d[y], there -/
theorem d_getItem {Q : Value → Shared → Prop} (hu : A.units + 1 < cLine) (I : Inv X pins σ H s) (g : DGet H a y (some v)) (ry : RelV y u) (h : ∀ w' s', Inv X pins σ H s' → RelV v w' → Q w' s') :
    wpAny (model X.prog X.w) A (getItem (.ref a) u) Q E s := by
  rcases g with ⟨kvs, k, e, ey, l⟩ | ⟨kvs, k, b, e, ey, eb, l⟩
  · subst ey
    obtain ⟨z, hd, vs, rel, dd⟩ := dk_rd I.hok e
    obtain ⟨w', hw, rw'⟩ := RelO.some_of (v := v) (o := valueAt vs k) (by rw [l]; exact rel.val k)
    exact wpAny_getItem_of (kV_is ry) dd.mapOf hw (h w' _ (I.tok _) rw')
  · subst ey
    cases (show u = Value.ref b from ry)
    obtain ⟨z, hd, xs, rel, dd⟩ := dt_rd I.hok e
    obtain ⟨w', hw, rw'⟩ := RelO.some_of (v := v) (o := (atKey xs k).map (·.2)) (by rw [l]; exact rel.val k)
    obtain ⟨p, hp, hp2⟩ := Option.map_eq_some_iff.mp hw
    refine wpAny_getItem_heap (tupleKind_room_in1 hu) (key_of I.hok eb) dd hp ?_
    rw [hp2]
    exact h w' _ (I.tok _) rw'
/-- a dict's object is replaced -/
theorem d_write {h' : Heap} {t' : Nat} {ob : HO} (I : Inv X pins σ H s) (mu : Mut (H a)) (hs : Heap.SameBut a s.heap h') (he : ∃ q, h'.get? a = some q) (new : ObjOk X.prog X.w (upd H a ob) h' a ob) :
    Inv X pins σ (upd H a ob) { s with heap := h', toks := t' } :=
  I.write (x := a) (e := a) mu (.inl rfl) (fun b q hb z => (hs.2 b hb).trans z) he new
theorem dk_new {P : Program} {w : World} {H' : Hp} {h' : Heap} {kvs : List (Key × V)} {vs : List (Key × Value)} (z : kvs.length ≤ sizeLine) (hd : (a == sysModules) = false) (rel : KV kvs vs) (dd : h'.DictOf (mixKind P w) a vs) :
    ObjOk P w H' h' a (.dK kvs) := ⟨z, hd, vs, rel, dd⟩
/-- d[y] = v -/
theorem d_setItem {H' : Hp} {Q : Unit → Shared → Prop} (hu : A.units + 1 < cLine) (I : Inv X pins σ H s) (g : DPut H a y v H') (ry : RelV y u) (rv : RelV v r) (h : ∀ s', Inv X pins σ H' s' → Q () s') :
    wpAny (model X.prog X.w) A (setItem (.ref a) u r) Q E s := by
  rcases g with ⟨kvs, k, e, ey, l, eH⟩ | ⟨kvs, k, b, e, ey, eb, l, eH⟩
  · subst ey eH
    obtain ⟨z, hd, vs, rel, dd⟩ := dk_of I.hok e
    have hz : vs.length ≤ sizeLine := by rw [← rel.length]; exact z
    have hl : (putK kvs k v).length ≤ sizeLine := by have := length_putK kvs k v; omega
    refine wpAny_setItem_pairs (hsz := hz) (kV_is ry) dd fun h' dd' hs => h _ ?_
    have he : ∃ q, h'.get? a = some q := let ⟨q, _, _, hq, _⟩ := dd'; ⟨q, hq⟩
    exact d_write I (by rw [e]; exact True.intro) hs he (dk_new hl hd (rel.put k rv) dd')
  · subst ey eH
    cases (show u = Value.ref b from ry)
    obtain ⟨z, hd, xs, rel, dd⟩ := dt_of I.hok e
    have hz : xs.length ≤ sizeLine := by rw [← Paired.length rel]; exact z
    have hl : (putK kvs k v).length ≤ sizeLine := by have := length_putK kvs k v; omega
    refine wpAny_setItem_heap (hsz := hz) (tupleKind_room_in1 hu) (key_of I.hok eb) dd fun h' dd' hs => h _ ?_
    obtain ⟨q, es, ep, hq, h2, h3, h4, _, h5⟩ := dd'
    refine d_write I (by rw [e]; exact True.intro) hs ⟨q, hq⟩ ⟨hl, hd, _, (rel.put k eb rv).keeps fun c ys ec => ?_, q, es, ep, hq, h2, h3, h4, h5⟩
    rw [upd_ne (ne_of ec e (fun z => nomatch z))]
    exact ec
end

section
variable {X : Cx} {pins : List (Addr × Obj)} {σ : St} {H : Hp} {s : Shared} {a : Addr} {kvs : List (Key × V)} {k : Key} {u : Value} {A : Around} {E : Value → Shared → Prop}
end


/-! ### readings and rules -/
/-- the element of a subscription, not a slice -/
def NoSl (i : Expr) : Prop := ∀ ov iv, subscripted i false ov iv = operate [ov, iv] (getItem ov iv)
theorem subD_of {prog : Program} {w : World} {A : Around} {E : Value → Shared → Prop} {s : Shared} {env : Env} {value slice : Expr} {pos : Pos} {T id : String} {Q : Value → Shared → Prop}
    (hl : typeLookup (.type T) "__getitem__" = pure (some (.builtin id))) (hs : NoSl slice)
    (h : wpAny (model prog w) A (eval value env) (fun o s₁ => wpAny (model prog w) A (eval slice env) (fun i s₂ => s₂.TypeIs o T ∧ wpAny (model prog w) A (getItem o i) Q E s₂) E s₁) E s) :
    wpAny (model prog w) A (eval (.Subscript value slice pos) env) Q E s := by
  refine Subscript_ (wpAny_mono h (fun o s₁ h₁ => wpAny_mono h₁ (fun i s₂ h₂ => ?_) fun _ _ x => x) fun _ _ x => x)
  obtain ⟨hT, h₂⟩ := h₂
  unfold subscriptTail
  refine wpAny_bind ?_
  rw [getitemInPython_of_ne hT.not_modules]
  refine wpAny_bind (wpAny_specialOf hT hl ?_)
  have fin : wpAny (model prog w) A (subscripted slice false o i) (fun r s₃ => wpAny (model prog w) A (letTemporaryGo value o r >>= fun _ => pure r) Q E s₃) E s₂ := by
    rw [hs o i]
    exact wpAny_operating (wpAny_mono h₂ (fun r s₃ h₃ => wpAny_bind (wpAny_letTemporaryGo (wpAny_pure h₃))) fun _ _ x => x)
  first
    | exact wpAny_pure (wpAny_bind fin)
    | exact wpAny_bind (wpAny_pure (wpAny_bind fin))
    | exact wpAny_bind fin

theorem dict_typeIs {X : Cx} {pins : List (Addr × Obj)} {σ : St} {H : Hp} {s : Shared} {a : Addr} {y : V} {o : Option V} (I : Inv X pins σ H s) (g : DGet H a y o) : s.TypeIs (.ref a) "dict" := by
  rcases g with ⟨kvs, k, e, _, _⟩ | ⟨kvs, k, b, e, _, _, _⟩
  · obtain ⟨_, _, vs, _, dd⟩ := dk_rd I.hok e
    exact dd.typeIs
  · obtain ⟨_, _, xs, _, dd⟩ := dt_rd I.hok e
    exact dd.typeIs
/-- d[y] -/
def tDGet (td ty : TE) : TE := fun σ H Q => td σ H fun x H1 => ty σ H1 fun y H2 => ∃ a v, x = .ref a ∧ DGet H2 a y (some v) ∧ Q v H2
/-- y in d, y not in d -/
def tDIn (ty td : TE) : TE := fun σ H Q => ty σ H fun y H1 => td σ H1 fun x H2 => ∃ a o, x = .ref a ∧ DGet H2 a y o ∧ Q (.bl o.isSome) H2
def tDNotIn (ty td : TE) : TE := fun σ H Q => ty σ H fun y H1 => td σ H1 fun x H2 => ∃ a o, x = .ref a ∧ DGet H2 a y o ∧ Q (.bl (!o.isSome)) H2
/-- d[y] = v -/
def sDPut (td ty tv : TE) : TS := fun D σ H => tv σ H fun v H1 => td σ H1 fun x H2 => ty σ H2 fun y H3 => ∃ a H4, x = .ref a ∧ DPut H3 a y v H4 ∧ D.nx σ H4
/-- d[y] op= v -/
def sDAug (td ty tv : TE) (rd : V → V → Hp → VK → Prop) : TS := fun D σ H => td σ H fun x H1 => ty σ H1 fun y H2 => ∃ a v, x = .ref a ∧ DGet H2 a y (some v) ∧
  tv σ H2 fun y2 H3 => rd v y2 H3 fun z H4 => ∃ H5, DPut H4 a y z H5 ∧ D.nx σ H5
/-- del d[y] -/
def sDDel (td ty : TE) : TS := fun D σ H => td σ H fun x H1 => ty σ H1 fun y H2 => ∃ a kvs k, x = .ref a ∧ H2 a = some (.dK kvs) ∧ y = kV k ∧ (valV kvs k).isSome = true ∧ D.nx σ (upd H2 a (.dK (dropK kvs k)))

section
variable {X : Cx} {o i e value : Expr} {pos pos' tpos : Pos} {td ty tv : TE}
theorem pe_dget (hu : X.A.units + 1 < cLine) (ho : PE X o td) (hi : PE X i ty) (hs : NoSl i) : PE X (.Subscript o i pos) (tDGet td ty) := by
  intro pins s σ H Q I h
  refine subD_of PySem.F.slot_dict_getitem.lookup hs (thn (ho pins s σ H _ I h) fun u s1 ⟨x, H1, I1, rx, q1⟩ => thn (hi pins s1 σ H1 _ I1 q1) fun iv s2 ⟨y, H2, I2, ry, a, v, ex, g, q2⟩ => ?_)
  subst ex
  obtain rfl : u = Value.ref a := rx
  exact ⟨dict_typeIs I2 g, d_getItem hu I2 g ry fun w' s3 I3 rw' => ⟨v, H2, I3, rw', q2⟩⟩
theorem ps_dput (hu : X.A.units + 1 < cLine) (ho : PE X o td) (hi : PE X i ty) (hv : PE X value tv) (hs : swapsWith value (some (.Subscript o i pos')) pos.line X.env = pure false) :
    PS X (.Assign [.Subscript o i pos'] value pos) (sDPut td ty tv) := by
  intro pins s σ H D I h
  refine wpAny_Assign_Subscript (thn (hv pins s σ H _ I h) fun r s1 ⟨v, H1, I1, rv, q1⟩ => thn (ho pins s1 σ H1 _ I1 q1) fun u s2 ⟨x, H2, I2, rx, q2⟩ => thn (hi pins s2 σ H2 _ I2 q2) fun iv s3 ⟨y, H3, I3, ry, a, H4, ex, g, q3⟩ => ?_) hs
  subst ex
  obtain rfl : u = Value.ref a := rx
  exact d_setItem hu I3 g ry rv fun s4 I4 => ⟨σ, H4, I4, q3⟩
end


/-! ### displays -/
theorem dk_empty {P : Program} {w : World} {H : Hp} (h : Heap) (hb : sysModules < h.objs.size) : ObjOk P w H (h.push { cls := .type "dict", data := .dict #[] }) h.objs.size (.dK []) :=
  ⟨Nat.zero_le _, beq_eq_false_iff_ne.mpr (Ne.symm (Nat.ne_of_lt hb)), [], .nil, Heap.DictOf.new h⟩
/-- {}, to be a dict of the kind that is wanted -/
def tDNewK : TE := fun _ H Q => ∀ p, H p = none → Q (.ref p) (upd H p (.dK []))
def tDNewT : TE := fun _ H Q => ∀ p, H p = none → Q (.ref p) (upd H p (.dT []))
section
variable {X : Cx} {pos : Pos}
theorem pe_dnewK : PE X (.Dict [] [] pos) tDNewK := fun pins s σ H Q I h =>
  wpAny_Dict_empty ⟨.ref s.heap.objs.size, _, I.laid (a := s.heap.objs.size) (o := .dK []) (t' := s.toks) (fun _ _ q => Heap.get?_push_of_some _ q) (Nat.le_refl _) (dk_empty s.heap I.big), rfl, h _ (I.hok.fresh (Nat.le_refl _))⟩
end

/-- the pairs of a display, from the left -/
def tPairs : List (TE × TE) → St → Hp → (List (V × V) → Hp → Prop) → Prop
  | [], _, H, Q => Q [] H
  | (tk, tv) :: r, σ, H, Q => tk σ H fun x H1 => tv σ H1 fun y H2 => tPairs r σ H2 fun ps H3 => Q ((x, y) :: ps) H3
abbrev VV : List (V × V) → List (Value × Value) → Prop := Paired fun p q => RelV p.1 q.1 ∧ RelV p.2 q.2
def PPs (X : Cx) (pos : Pos) (keys : List (Option Expr)) (values : List Expr) (trs : List (TE × TE)) : Prop :=
  ∀ (pins : List (Addr × Obj)) (s : Shared) (σ : St) (H : Hp) (Q : List (V × V) → Hp → Prop), Inv X pins σ H s → tPairs trs σ H Q →
    wpAny (model X.prog X.w) X.A (evalPairs (pairTrees keys values X.env pos)) (fun vs s' => ∃ ps H', Inv X pins σ H' s' ∧ VV ps vs ∧ Q ps H') X.xe s
def mergeK (kvs more : List (Key × V)) : List (Key × V) := more.foldl (fun acc kv => putK acc kv.1 kv.2) kvs
/-- {k: v, ..} with keys ints and texts; the new dict stands empty while the pairs are made -/
def tDisp (trs : List (TE × TE)) : TE := fun σ H Q => ∀ p, H p = none → tPairs trs σ (upd H p (.dK [])) fun ps H2 => H2 p = some (.dK []) ∧ ∃ kvs : List (Key × V), ps = kvs.map (fun kv => (kV kv.1, kv.2)) ∧ kvs.length ≤ 15 ∧ Q (.ref p) (upd H2 p (.dK (mergeK [] kvs)))
/-! ### methods -/
/-- a method call o.m(e) of a built-in, with one argument: what must be seen of the text -/
structure M1 (X : Cx) (o : Expr) (m : Str) (apos : Pos) (e : Expr) (cpos : Pos) : Prop where
  base : attributeBase o m X.env (eval o X.env) = eval o X.env
  few : ((backTo cpos (starEach [e] X.env)).all (fun x => !x.1) && (backToKw cpos (keywordEach [] X.env)).all (fun x => x.1.isSome)
    && decide (([e] : List Expr).length + ([] : List Keyword).length + (if ([] : List Keyword).isEmpty then 0 else 1) < 30)) = true
  line : (apos.endLine == cpos.line) = true
  trees : backTo cpos (starEach [e] X.env) = [(false, eval e X.env)]
structure M2 (X : Cx) (o : Expr) (m : Str) (apos : Pos) (e f : Expr) (cpos : Pos) : Prop where
  base : attributeBase o m X.env (eval o X.env) = eval o X.env
  few : ((backTo cpos (starEach [e, f] X.env)).all (fun x => !x.1) && (backToKw cpos (keywordEach [] X.env)).all (fun x => x.1.isSome)
    && decide (([e, f] : List Expr).length + ([] : List Keyword).length + (if ([] : List Keyword).isEmpty then 0 else 1) < 30)) = true
  line : (apos.endLine == cpos.line) = true
  trees : backTo cpos (starEach [e, f] X.env) = [(false, eval e X.env), (false, eval f X.env)]

/-- a is a dict, whatever its keys -/
def IsD (H : Hp) (a : Addr) : Prop := (∃ kvs, Rd H a (.dK kvs)) ∨ ∃ kvs, Rd H a (.dT kvs)
section
variable {X : Cx} {pins : List (Addr × Obj)} {σ : St} {H : Hp} {s : Shared} {a : Addr} {y d : V} {u r : Value} {o : Option V} {A : Around} {E : Value → Shared → Prop}
end

def tDGet1 (td ty : TE) : TE := fun σ H Q => td σ H fun x H1 => ∃ a, x = .ref a ∧ IsD H1 a ∧ ty σ H1 fun y H2 => ∃ o, DGet H2 a y o ∧ Q (o.getD .non) H2
def tDGet2 (td ty tx : TE) : TE := fun σ H Q => td σ H fun x H1 => ∃ a, x = .ref a ∧ IsD H1 a ∧ ty σ H1 fun y H2 => tx σ H2 fun z H3 => ∃ o, DGet H3 a y o ∧ Q (o.getD z) H3
/-- d.pop(k): there; d.pop(k, x): there or not -/
def tDPop1 (td ty : TE) : TE := fun σ H Q => td σ H fun x H1 => ∃ a, x = .ref a ∧ IsD H1 a ∧ ty σ H1 fun y H2 => ∃ kvs k v, H2 a = some (.dK kvs) ∧ y = kV k ∧ valV kvs k = some v ∧ Q v (upd H2 a (.dK (dropK kvs k)))
def tDPop2 (td ty tx : TE) : TE := fun σ H Q => td σ H fun x H1 => ∃ a, x = .ref a ∧ IsD H1 a ∧ ty σ H1 fun y H2 => tx σ H2 fun z H3 => ∃ kvs k, H3 a = some (.dK kvs) ∧ y = kV k ∧
  (∀ v, valV kvs k = some v → Q v (upd H3 a (.dK (dropK kvs k)))) ∧ (valV kvs k = none → Q z H3)
section
variable {X : Cx} {o e f : Expr} {apos cpos : Pos} {td ty tx : TE}
end

/-! ### dict(d): a copy -/
section
variable {X : Cx} {pins : List (Addr × Obj)} {σ : St} {H : Hp} {s : Shared} {a : Addr} {kvs : List (Key × V)} {A : Around} {E : Value → Shared → Prop}
end


section
variable {X : Cx} {pins : List (Addr × Obj)} {σ : St} {H : Hp} {s : Shared} {a : Addr} {y : V} {u : Value} {A : Around} {E : Value → Shared → Prop}
end
end L2

namespace Att
open PySem PySem.W PySem.Calls PyProof.Rows

/-! ### the script -/
theorem ints_of_wellAll {P : Params} {h : Heap} : ∀ (ns : List Int) (vs : List Value), WellAll P h vs (ns.map WData.int) → IntsAre vs ns := by
  intro ns
  induction ns with
  | nil =>
    intro vs w
    rw [List.map_nil] at w
    cases w
    exact .nil
  | cons n ns ih =>
    intro vs w
    rw [List.map_cons] at w
    cases w with
    | cons a b =>
      cases a
      exact .cons _ _ (ih _ b)

theorem script_of {l : OpenLaw} {n : Nat} (hn : l.most = some n) {P : Params} {h : Heap} {args : List WData} {vals : List Value}
    (hpre : l.row.toRowW.claim.pre args = true) (hwl : WellAll P h vals args) :
    ∃ a vs ns, vals = [Value.ref a] ∧ args = [WData.list (ns.map WData.int)] ∧ h.get? a = some { cls := .type "list", data := .seq vs.toArray } ∧ IntsAre vs ns ∧ ns.length ≤ n := by
  have hsh : WShape.hasAll [] args [.list .int] = true := (pre_splitW hpre).1
  have hc : l.pre.holds [] { args := args } = true := (pre_splitW hpre).2
  obtain ⟨d, r, rfl, h1, h2⟩ := hasAllW_cons hsh
  obtain rfl := hasAllW_nil h2
  obtain ⟨xs, rfl, h3⟩ := hasW_list h1
  obtain ⟨ns, rfl⟩ := items_int h3
  have hlen : ns.length ≤ n := by
    unfold OpenLaw.pre at hc
    have h4 : (WTm.not (.lt (.lit (.int (n : Int))) (.len (.arg 0)))).holds [] { args := [.list (ns.map .int)] } = true := by
      have h4 := (holds_andW hc).1
      rw [hn] at h4
      exact h4
    have h5 := condW_of h4 (w_not (w_lt w_lit (w_len_list (w_arg rfl))))
    rw [List.length_map] at h5
    refine Nat.le_of_not_lt fun q => ?_
    have q' : (n : Int) < ((ns.length : Nat) : Int) := by omega
    first
      | (rw [decide_eq_true q'] at h5; exact absurd h5 (by decide))
      | (simp at h5; omega)
  cases hwl with
  | cons w1 w2 =>
    cases w2
    cases w1 with
    | list ho hall => exact ⟨_, _, ns, rfl, rfl, ho, ints_of_wellAll ns _ hall, hlen⟩

theorem post_true (l : OpenLaw) (args : List WData) : l.row.toRowW.claim.post args (.bool true) args = true :=
  postW_of (r := l.row.toRowW) (X := (true == true))
    (show WShape.has [] (.bool true) .bool = true by first | rfl | decide | simp [WShape.has, WShape.arms, WShape.armsAll])
    (show (WTm.eq .res (.lit (.bool true))).value [] { args := args, res := some (.bool true), after := args } = some (.bool (true == true)) from w_eq_bool (w_res rfl) w_lit) rfl

/-! ### the attachment: holds_open's last premise (the goal 'hc' behind k_head) from a wpAny of the law's body -/
/-- the same from a codeAny of the CALL (for a layer whose function contracts speak of calls) -/
theorem attach_call {l : OpenLaw} {n : Nat} {q : Program} {loose : List Str} {XP : (Str → Option Value) → Heap → Prop} {YP : World → Heap → Prop} {d : DefRec}
    (hn : l.most = some n) (hdf : d.params.defaults = [])
    (call : ∀ (w : World) (s₀ s₁ : Shared) (mg mb : Str → Option Value) (fa : Addr) (o : Obj) (pm cd doc : Value) (a : Addr) (vs : List Value) (ns : List Int),
      Ground q loose [] XP w s₀ mg mb s₁.heap → YP w s₁.heap →
      s₁.heap.get? fa = some o → o.data = .func (docDef d.name d.params d.body d.scope pm cd doc) → s₁.heap.CodeRec cd d.name → mg d.name = some (.ref fa) →
      s₁.heap.get? a = some { cls := .type "list", data := .seq vs.toArray } → IntsAre vs ns → ns.length ≤ n → s₁.gens = #[] →
      codeAny (model l.prog w) callerA (.call (.ref fa) ⟨[.ref a], []⟩) (fun r s' => r = .ok (.ret (.bool true)) ∧ OldK s₁.heap s'.heap ∧ s'.os = s₁.os ∧ AllBare s'.gens) s₁) :
    WalkO q loose XP YP l.row.toRowW d [] (fun f vs => PySem.call f vs) := by
  intro w s₀ s₁ mg mb G Y fa o pm cd doc dV kV ho hd hcd hD hmg hg args vals as hpre hlay hrd hwl hlo
  obtain rfl : dV = .none := Dflts.none hD hdf
  obtain rfl : kV = .none := Dflts.noKw hD
  obtain ⟨a, vs, ns, rfl, rfl, hobj, hints, hlen⟩ := script_of hn hpre hwl
  refine enter_call (codeAny_mono (call w s₀ s₁ mg mb fa o pm cd doc a vs ns G Y ho (fd_plain hd) hcd hmg hobj hints hlen hg) fun r s' hq => ?_)
  obtain ⟨rfl, h2, h3, h4⟩ := hq
  exact ⟨.inl ⟨.bool true, .bool true, [], rfl, fun _ => rfl, .bool true, post_true l _, fun _ => ⟨List.Pairwise.nil, fun _ hm => (nomatch hm)⟩⟩, h2, h3, h4⟩

/-! ### rules over ANY heap (no ledger) from facts about the written part K: the library's own take a ledger (News) for what they write -/
section
variable {prog : Program} {w : World} {A : Around} {E : Value → Shared → Prop} {s : Shared} {K : Frag}

/-! the whole heap as the ledger: makes every rule that writes through a ledger a rule over any heap -/
def noObjs (h : Heap) : Heap := { h with objs := #[] }
def ledger (h : Heap) (L d : Addr) : List (Addr × Obj) := (List.range h.objs.size).filterMap fun a => if a = L ∨ a = d then none else (h.get? a).map fun o => (a, o)
end
end Att

namespace L2
open PySem PySem.Spec PyProof.Rows

theorem vals_ints : ∀ {vs : List Value} {ns : List Int}, IntsAre vs ns → Vals (ns.map V.int) vs
  | _, _, .nil => .nil
  | _, _, .cons n t h => .cons ⟨t, rfl⟩ (vals_ints h)

/-- nothing is tracked but the script, known to the object (or it is an object of the module) -/
def Only (H : Hp) : Prop := ∀ b, H b = none ∨ ∃ o xs, H b = some (.frz o (.lst xs))

/-- THE HEAD: the law's promise, at the heap behind the top. F, the promise of the law's def, may use that base is part of the heap (so K.In base, base.Ns mainGlobals mg stand in Mod) -/
theorem law_call {P : Program} {w : World} {K : PySem.W.Frag} {mg mb : Str → Option Value} {CX : CXT} {k : Nat} {fa a : Addr} {fd : FuncData} {x : Str} {sp : Sp} {s₁ : Shared} {vs : List Value} {ns : List Int}
    (KX : K.In s₁.heap) (hns : s₁.heap.Ns mainGlobals mg) (hb : s₁.heap.Ns builtinsNs mb) (hbb : ∀ x : Str, x ≠ "__name__" → mb x = bootBuiltins x) (hlim : s₁.heap.NoLimit) (hg : s₁.gens = #[])
    (ha : s₁.heap.get? a = some { cls := .type "list", data := .seq vs.toArray }) (hi : IntsAre vs ns) (hl : ns.length ≤ sizeLine) (hr : Room k callerA)
    (F : ∀ base : Heap, K.In base → base.Ns mainGlobals mg → FnOk P w K mg base CX k fa fd [x] sp) (hbind : ∀ (s : Shared) (u : Value), BindsTo s fd ⟨[u], []⟩ [(x, u)])
    (hsp : ∀ H : Hp, Only H → SqL K H a (ns.map V.int) → sp [.ref a] H (fun v _ => v = .bl true) fun _ _ _ => False)
    (hCX : ∀ H e s', CX [] H s₁ (fun _ _ _ => False) e s' → False) :
    codeAny (model P w) callerA (.call (.ref fa) ⟨[.ref a], []⟩) (fun r s' => r = .ok (.ret (.bool true)) ∧ OldK s₁.heap s'.heap ∧ s'.os = s₁.os ∧ AllBare s'.gens) s₁ := by
  have rv := vals_ints hi
  have lenV := hi.length
  -- from an abstract heap in which nothing but the script may be tracked
  have core : ∀ H : Hp, Only H → SqL K H a (ns.map V.int) → HOk P w H s₁.heap → (∀ b, H b ≠ none → b = a) → (H a ≠ none → K.lookup a = none) →
      codeAny (model P w) callerA (.call (.ref fa) ⟨[.ref a], []⟩) (fun r s' => r = .ok (.ret (.bool true)) ∧ OldK s₁.heap s'.heap ∧ s'.os = s₁.os ∧ AllBare s'.gens) s₁ := by
    intro H hO hS hok hA hK
    have base_of : ∀ {b : Addr} {o : Obj}, s₁.heap.get? b = some o → H b = none → (hidT s₁.heap H).get? b = some o := fun e n => hidT_get e n
    have noA : ∀ {b : Addr} {o : Obj} {es : Array DictEntry} {ep : Nat}, s₁.heap.get? b = some o → o.data = .dict es ep → H b = none := fun {b o es ep} e d => by
      cases q : H b with
      | none => rfl
      | some u =>
        have e' : b = a := hA b (by rw [q]; simp)
        subst e'
        rw [ha] at e; cases e
        have d' : Data.seq vs.toArray _ = Data.dict es ep := d
        cases d'
    have nsK : ∀ {b : Addr} {m : Str → Option Value}, s₁.heap.Ns b m → (hidT s₁.heap H).Ns b m := fun {b m} ⟨o, es, ep, e, d, r⟩ => ⟨o, es, ep, base_of e (noA e d), d, r⟩
    have hKb : K.In (hidT s₁.heap H) := fun b o e => base_of (KX b o e) (by
      cases q : H b with
      | none => rfl
      | some u =>
        have e' : b = a := hA b (by rw [q]; simp)
        subst e'
        rw [hK (by rw [q]; simp)] at e; cases e)
    have hM : Mod K mg (hidT s₁.heap H) := ⟨hKb, nsK hns, ⟨mb, nsK hb, hbb⟩, let ⟨mc, h1, h2⟩ := hlim; ⟨mc, nsK h1, h2⟩⟩
    have e0 : Env0 P w K mg (hidT s₁.heap H) callerA [] s₁ H := ⟨rfl, hM, fun b o e => of_hidT e, Nat.le_of_eq (hidT_size _ _), trivial, fun b hb => absurd (show b ∈ ([] : List Addr) from hb) (by simp), hok, .of_eq hg, .inl rfl⟩
    refine codeAny_mono ((F _ hKb (nsK hns)).run callerA [] s₁ H ⟨[.ref a], []⟩ [.ref a] [.ref a] _ _ hr e0 (hbind s₁ (.ref a)) (.cons rfl .nil) (hsp H hO hS)) fun r s' h => ?_
    cases r with
    | error e => exact (hCX H e s' h).elim
    | ok fl =>
      cases fl with
      | next => exact False.elim h
      | brk => exact False.elim h
      | cont => exact False.elim h
      | ret u =>
        obtain ⟨v, H', os, bare, un, hok', r', q⟩ := h
        have q' : v = .bl true := q
        subst q'
        obtain rfl : u = Value.bool true := r'
        refine ⟨rfl, OldK.of_keep fun b o e => ?_, os, bare⟩
        cases q : H b with
        | none => exact un.keep b o e q (by intro z; exact absurd (show b ∈ ([] : List Addr) from z) (by simp)) (by simp)
        | some u =>
          rcases hO b with z | ⟨ob, xs, z⟩
          · rw [q] at z; cases z
          · have z2 := un.frzs b ob _ z
            obtain ⟨e1, _⟩ := hok b _ z
            obtain ⟨e2, _⟩ := hok' b _ z2
            rw [e] at e1; cases e1
            exact e2
  cases hk : K.lookup a with
  | some o =>
    -- the script is one of the module's own objects
    have e := KX a o hk
    rw [ha] at e
    cases e
    refine core (fun _ => none) (fun _ => .inl rfl) (.inr ⟨_, vs.toArray, _, hk, rfl, rfl, rfl, by rw [List.size_toArray, lenV]; exact hl, by simpa using rv⟩) (fun b u z => by have z' : (none : Option HO) = some u := z; cases z') (fun b z => absurd rfl z) fun z => absurd rfl z
  | none =>
    refine core (fun b => if b = a then some (.frz { cls := .type "list", data := .seq vs.toArray } (.lst (ns.map V.int))) else none) (fun b => ?_) (.inl (.inr ⟨{ cls := .type "list", data := .seq vs.toArray }, if_pos rfl⟩)) (fun b u z => ?_) (fun b z => ?_) fun _ => hk
    · by_cases hb : b = a
      · exact .inr ⟨_, _, if_pos hb⟩
      · exact .inl (if_neg hb)
    · by_cases hb : b = a
      · have z' := (if_pos hb).symm.trans z
        cases z'
        subst hb
        exact ⟨ha, by rw [List.length_map]; exact hl, vs, _, rv, ha⟩
      · have z' := (if_neg hb).symm.trans z
        cases z'
    · by_cases hb : b = a
      · exact hb
      · exact absurd (if_neg hb) z
end L2

namespace L2
open PySem PySem.Spec PyProof.Rows

abbrev KOf {K : PySem.W.Frag} {h : Heap} (_ : K.In h) : PySem.W.Frag := K

/-- the goal that k_head leaves (case hc), from the law's promise. F gives the function object fd (K's own) once, then the promise over every base -/
theorem walk_of {l : PySem.W.OpenLaw} {n k : Nat} {q : Program} {loose : List Str} {XP : (Str → Option Value) → Heap → Prop} {YP : World → Heap → Prop} {d : DefRec} {K : Params → PySem.W.Frag} {CX : World → CXT} {sp : World → Sp} {x : Str}
    (hn : l.most = some n) (hn2 : n ≤ sizeLine) (hdf : d.params.defaults = []) (hr : Room k callerA)
    (hY : ∀ (w : World) (h : Heap), YP w h → (K w.params).In h)
    (F : ∀ (w : World) (mg : Str → Option Value) (fa : Addr) (h : Heap), (K w.params).In h → h.Ns mainGlobals mg → mg d.name = some (.ref fa) →
      ∃ fd : FuncData, (∀ (s : Shared) (u : Value), BindsTo s fd ⟨[u], []⟩ [(x, u)]) ∧
        ∀ base : Heap, (K w.params).In base → base.Ns mainGlobals mg → FnOk l.prog w (K w.params) mg base (CX w) k fa fd [x] (sp w))
    (hsp : ∀ (w : World) (H : Hp) (a : Addr) (ns : List Int), ns.length ≤ n → Only H → SqL (K w.params) H a (ns.map V.int) → sp w [.ref a] H (fun v _ => v = .bl true) fun _ _ _ => False)
    (hCX : ∀ (w : World) (H : Hp) (s : Shared) (e : Value) (s' : Shared), CX w [] H s (fun _ _ _ => False) e s' → False) :
    PySem.W.WalkO q loose XP YP l.row.toRowW d [] (fun f vs => PySem.call f vs) := by
  refine Att.attach_call hn hdf fun w s₀ s₁ mg mb fa o pm cd doc a vs ns G Y ho hd hcd hmg hobj hints hlen hg => ?_
  have KX := hY w _ Y
  obtain ⟨fd, hb, hF⟩ := F w mg fa _ KX G.T.g hmg
  exact law_call KX G.T.g G.T.b G.T.builtins G.T.nolimit hg hobj hints (Nat.le_trans hlen hn2) hr hF hb (fun H hO hS => hsp w H a ns hlen hO hS) fun H e s' => hCX w H s₁ e s'
end L2

/- THE LAST THEOREM (shape; LID, My.* are yours):
   My.Adr: a structure of the addresses that your layer names (classes, functions); My.Txt K t: a structure (Prop) of the equations over K;
   My.txt_mk : {K} {implicit addresses ..} (e1 : nsIn K mainGlobals "law" = some (some (.ref f))) (e2 : K.lookup f = some ⟨oc, od, .func (fnOf "law" "law" params body scope dV kV doc pm an cdv ct), sl⟩) (e3 : codeIn K cdv "law" = true) .. : ∃ t, My.Txt K t

set_option maxRecDepth 100000 in
set_option maxHeartbeats 0 in
theorem PySem.Challenge.cw_LID_holds : PySem.Challenge.rw_LID.Holds := by
  w_on; o_law; k_head; (case hw => w_witness2)
  k_fill
  refine L2.walk_of (l := PySem.Challenge.rw_LID) (n := 63) (k := 40) (x := "script") (CX := fun w => ..) (sp := fun _ => My.sp_law) rfl (by decide) rfl ⟨rfl, by decide, by decide⟩ (fun w h Y => PySem.W.kIn_of Y) ?F ?S ?C
  case F =>
    intro w mg fa h KX G hmg
    have T : ∃ t, My.Txt (L2.KOf KX) t := by
      dsimp only [L2.KOf]                          -- K must stand as «<heap const> w.params» for k_is
      refine' My.txt_mk ?e1 ?e2 ?e3 ..
      (case e1 => PySem.W.k_is)                    -- in the order: a name -> its address -> its object -> its parts
      (case e2 => PySem.W.k_is)
      ..
    obtain ⟨t, T⟩ := T
    have e0 := hmg.symm.trans (PySem.W.mg_of KX G T.law)
    cases e0                                       -- fa is the law's own address
    exact ⟨_, fun s u => .of_eq rfl, fun base kb nb => My.law_fn T kb nb⟩     -- if «.of_eq rfl» comes too early: refine' ⟨_, ?b, fun base kb nb => My.law_fn T kb nb⟩; exact fun s u => .of_eq rfl
  case S => exact fun w H a ns hl hO hS => ..
  case C => exact ..
(the tactic k_is has no namespace: write k_is) -/

/-! SHORT WORDS over the layer: a def of the text, its body, what a loop and a test want. -/
namespace L2
open PySem PySem.Spec PyProof.Rows

/-! ### the text by places -/
/-- the j-th statement of a class's body -/
def inClass (s : Stmt) (j : Nat) : Stmt := match s with
  | .ClassDef _ _ _ body _ _ _ _ _ _ _ => body.getD j (.Pass ⟨0, 0, 0, 0⟩)
  | _ => .Pass ⟨0, 0, 0, 0⟩
def defArgs (s : Stmt) : Arguments := match s with
  | .FunctionDef _ a _ _ _ _ _ _ _ _ => a
  | _ => { posonlyargs := [], args := [], vararg := none, kwonlyargs := [], kw_defaults := [], kwarg := none, defaults := [] }
def defBody (s : Stmt) : List Stmt := match s with
  | .FunctionDef _ _ b _ _ _ _ _ _ _ => b
  | _ => []
def defScope (s : Stmt) : Scope := match s with
  | .FunctionDef _ _ _ _ _ _ sc _ _ _ => sc
  | _ => { kind := .function, names := [], isGenerator := false, isCoroutine := false }

/-! ### no exception leaves a def -/
abbrev CX0 : CXT := fun _ _ _ _ _ _ => False
abbrev E0 : XK := fun _ _ _ => False
theorem pass0 {X : Cx} : Passes CX0 X E0 := fun _ _ _ _ _ _ _ h => h.elim

/-! ### a def (or method) of the text as it stands behind the top -/
structure Fun (K : PySem.W.Frag) (x qual : Str) (st : Stmt) (f : Addr) (fd : FuncData) : Prop where
  ex : ∃ (oc : Value) (od : Option Addr) (kV doc pm : Value) (an : Option Addr) (cdv ct : Value) (osl : Array (Option Value)),
    fd = PySem.W.fnOf x qual (defArgs st) (defBody st) (defScope st) .none kV doc pm an cdv ct ∧ K.lookup f = some ⟨oc, od, .func fd, osl⟩ ∧ PySem.W.codeIn K cdv qual = true
  kp : PySem.W.keepIn K (.ref f) = true
section
variable {P : Program} {w : World} {K : PySem.W.Frag} {mg : Str → Option Value} {base : Heap}
/-- THE RULE for a def: its body as a term of rules, and the reading of that term -/
theorem Fun.ok {x qual : Str} {st : Stmt} {f : Addr} {fd : FuncData} {N ps : List Str} {k : Nat} {sp : Sp} (F : Fun K x qual st f fd) (S : FnScope N ps (defScope st)) (len : ∀ vs H Q E, sp vs H Q E → vs.length = ps.length)
    (hbody : ∀ (cdv : Value) (A : Around) (outer : List Env) (s : Shared) (H : Hp) (vs : List V) (Q : VK) (E : XK), Room k (A.deeper (envOfC qual (defScope st) s.heap.objs.size f cdv)) → sp vs H Q E →
      ∃ t, PSs (cxOf CX0 P w K mg base N qual (defScope st) f cdv A outer s H E).nox (defBody st) t ∧ t { nx := fun _ H' => Q .non H', rt := Q } (start N vs) H) : FnOk P w K mg base CX0 (k + 1) f fd ps sp := by
  obtain ⟨oc, od, kV, doc, pm, an, cdv, ct, osl, rfl, lk, hcd⟩ := F.ex
  refine fn_of lk hcd S len fun A outer s H vs Q E hr hsp => ?_
  obtain ⟨t, h, q⟩ := hbody cdv A outer s H vs Q E hr hsp
  exact ⟨t, h.nox, q⟩
end
theorem hu_of {A : Around} {k : Nat} (hr : Room k A) : A.units + 1 < cLine := Nat.lt_of_le_of_lt (Nat.add_le_add_left (by decide : 1 ≤ 64) _) hr.units
/-! ### expressions in short: the name that stands in the i-th slot -/
section
variable {X : Cx}
theorem pv (i : Nat) {x : Str} {pos : Pos} (hN : X.N[i]? = some x := by rfl) (hv : Vis X.env.scope x := by first | exact Or.inl rfl | exact Or.inr (Or.inl rfl) | exact Or.inr (Or.inr rfl)) (hd : (x == ("__debug__" : Str)) = false := by decide)
    (hcd : (x == ("__classdict__" : Str)) = false := by decide) : PE X (.Name x pos) (tVar i) := pe_var hN hv hd hcd
end

/-! ### tests -/
theorem iteF {A B : Prop} (h : B) : if false = true then A else B := by
  rw [if_neg Bool.false_ne_true]
  exact h
theorem iteT {A B : Prop} (h : A) : if true = true then A else B := by
  rw [if_pos rfl]
  exact h
/-! ### heaps -/
/-- all that was tracked is as it was -/
def Same (H H' : Hp) : Prop := ∀ b o, H b = some o → H' b = some o
theorem Same.refl (H : Hp) : Same H H := fun _ _ h => h
theorem Same.trans {H H1 H2 : Hp} (a : Same H H1) (b : Same H1 H2) : Same H H2 := fun c o h => b c o (a c o h)
theorem Same.free {H H' : Hp} (e : Same H H') {l : Addr} (h : H' l = Option.none) : H l = Option.none := by
  cases q : H l with
  | none => rfl
  | some o =>
    rw [e l o q] at h
    cases h
theorem Same.seq {K : PySem.W.Frag} {H H' : Hp} {a : Addr} {xs : List V} (e : Same H H') (h : SqL K H a xs) : SqL K H' a xs := by
  rcases h with (h | ⟨o, h⟩) | h
  · exact .inl (.inl (e _ _ h))
  · exact .inl (.inr ⟨o, e _ _ h⟩)
  · exact .inr h

/-! ### a dict's pairs: keys that differ -/
section
variable {κ : Type} [DecidableEq κ]
theorem valV_in {kvs : List (κ × V)} {k : κ} {v : V} (h : valV kvs k = some v) : k ∈ kvs.map (·.1) := by
  have q : (kvs.any fun kv => decide (kv.1 = k)) = true := by
    rw [valV_any, h]
    all_goals rfl
  obtain ⟨p, hp, e⟩ := List.any_eq_true.mp q
  exact List.mem_map.mpr ⟨p, hp, of_decide_eq_true e⟩
end
end L2

/-! ### list comprehensions: the block's own context, its entry, the loop -/
namespace L2
open PySem PySem.Spec PyProof.Rows

/-- the cells that the block is handed -/
def closL (cells : List (Str × Addr)) : List (Str × NameKind) → List (Str × Addr) → List (Str × Addr)
  | [], acc => acc
  | (n, k) :: r, acc => closL cells r (if (k == NameKind.free) = true then (n, (cells.lookup n).getD 0) :: acc else acc)
theorem closureFor_clos {scope : Scope} {env : Env} (h : ∀ y ∈ scope.names, y.2 = .free → (env.cells.lookup y.1).isSome = true) :
    closureFor scope env = pure (closL env.cells scope.names []) := by
  simp only [closureFor]
  generalize scope.names = l at h ⊢
  generalize ([] : List (Str × Addr)) = acc
  induction l generalizing acc with
  | nil => rfl
  | cons x r ih =>
    obtain ⟨n, k⟩ := x
    have hr := fun y hy => h y (List.mem_cons_of_mem _ hy)
    by_cases hk : k = .free
    · subst hk
      obtain ⟨c, hc⟩ := Option.isSome_iff_exists.mp (h (n, .free) List.mem_cons_self rfl)
      have ih' := ih hr ((n, c) :: acc)
      simp only [List.forIn_cons, cellOf, hc, closL, beq_self_eq_true, if_true, Option.getD_some] at ih' ⊢
      exact ih'
    · have hb : (k == NameKind.free) = false := by simpa using hk
      have ih' := ih hr acc
      simp only [List.forIn_cons, closL, hb, Bool.false_eq_true, if_false] at ih' ⊢
      exact ih'
theorem closL_in {cells : List (Str × Addr)} {x : Str} {c : Addr} : ∀ {l : List (Str × NameKind)} {acc : List (Str × Addr)}, (∀ y ∈ l, y.2 = .free → (cells.lookup y.1).isSome = true) →
    (closL cells l acc).lookup x = some c → acc.lookup x = some c ∨ cells.lookup x = some c
  | [], _, _, h => .inl h
  | (n, k) :: r, acc, hf, h => by
    have hr : ∀ y ∈ r, y.2 = .free → (cells.lookup y.1).isSome = true := fun y hy => hf y (List.mem_cons_of_mem _ hy)
    by_cases hk : k = .free
    · subst hk
      rcases closL_in (l := r) hr (show (closL cells r ((n, (cells.lookup n).getD 0) :: acc)).lookup x = some c from h) with q | q
      · rw [List.lookup_cons] at q
        by_cases hx : x = n
        · subst hx
          rw [beq_self_eq_true] at q
          obtain ⟨c', hc⟩ := Option.isSome_iff_exists.mp (hf (x, .free) List.mem_cons_self rfl)
          have hc : cells.lookup x = some c' := hc
          rw [hc] at q ⊢
          exact .inr q
        · rw [beq_eq_false_iff_ne.mpr hx] at q
          exact .inl q
      · exact .inr q
    · have hb : ¬ (k == NameKind.free) = true := by simpa using hk
      have h' : (closL cells r (if (k == NameKind.free) = true then (n, (cells.lookup n).getD 0) :: acc else acc)).lookup x = some c := h
      rw [if_neg hb] at h'
      exact closL_in hr h'
theorem closL_has {cells : List (Str × Addr)} {x : Str} : ∀ {l : List (Str × NameKind)} {acc : List (Str × Addr)}, ((x, NameKind.free) ∈ l ∨ (acc.lookup x).isSome = true) → ((closL cells l acc).lookup x).isSome = true
  | [], _, h => by
    rcases h with h | h
    · cases h
    · exact h
  | (n, k) :: r, acc, h => by
    show ((closL cells r (if (k == NameKind.free) = true then (n, (cells.lookup n).getD 0) :: acc else acc)).lookup x).isSome = true
    refine closL_has ?_
    rcases h with h | h
    · rcases List.mem_cons.mp h with e | e
      · cases e
        right
        rw [if_pos (by rfl), List.lookup_cons, beq_self_eq_true]
        rfl
      · exact .inl e
    · right
      by_cases hb : (k == NameKind.free) = true
      · rw [if_pos hb, List.lookup_cons]
        cases hx : x == n with
        | true => rfl
        | false => exact h
      · rw [if_neg hb]
        exact h

/-- what a name of the block is behind the new labels -/
theorem head_lookup (c : Bool) {n x : Str} {k : NameKind} {r : List (Str × NameKind)} (hx : (x == n) = true) : ((if c = true then (n, NameKind.cell) else (n, k)) :: r).lookup x = some (if c = true then .cell else k) := by
  cases c <;> simp [List.lookup_cons, hx]
theorem head_skip (c : Bool) {n x : Str} {k : NameKind} {r : List (Str × NameKind)} (hx : (x == n) = false) : ((if c = true then (n, NameKind.cell) else (n, k)) :: r).lookup x = r.lookup x := by
  cases c <;> simp [List.lookup_cons, hx]
theorem relabel_free {env : Env} : ∀ {names : List (Str × NameKind)} {x : Str}, names.lookup x = some .free →
    (names.map fun (n, k) => if (k == NameKind.free && env.scope.kind == .function && env.kindOf n == some .cell) then (n, NameKind.cell) else (n, k)).lookup x = some .cell ∨
    (names.map fun (n, k) => if (k == NameKind.free && env.scope.kind == .function && env.kindOf n == some .cell) then (n, NameKind.cell) else (n, k)).lookup x = some .free
  | [], _, h => by simp at h
  | (n, k) :: r, x, h => by
    have ih := @relabel_free env r x
    rw [List.lookup_cons] at h
    rw [List.map_cons]
    cases hx : x == n with
    | true =>
      rw [hx] at h
      cases h
      dsimp only
      rw [head_lookup _ hx]
      cases (NameKind.free == NameKind.free && env.scope.kind == .function && env.kindOf n == some .cell) with
      | true => exact .inl rfl
      | false => exact .inr rfl
    | false =>
      rw [hx] at h
      dsimp only
      rw [head_skip _ hx]
      exact ih h
theorem relabel_back {env : Env} : ∀ {names : List (Str × NameKind)} {x : Str} {k' : NameKind}, (k' = .cell ∨ k' = .free) →
    (names.map fun (n, k) => if (k == NameKind.free && env.scope.kind == .function && env.kindOf n == some .cell) then (n, NameKind.cell) else (n, k)).lookup x = some k' →
    ∃ k, (k = .free ∨ k = .cell) ∧ (x, k) ∈ names
  | [], _, _, _, h => by simp at h
  | (n, k) :: r, x, k', hk, h => by
    have ih := @relabel_back env r x k' hk
    rw [List.map_cons] at h
    dsimp only at h
    cases hx : x == n with
    | true =>
      have e : x = n := eq_of_beq hx
      subst e
      rw [head_lookup _ hx] at h
      cases hc : (k == NameKind.free && env.scope.kind == .function && env.kindOf x == some .cell) with
      | true =>
        simp only [Bool.and_eq_true, beq_iff_eq] at hc
        obtain ⟨⟨rfl, _⟩, _⟩ := hc
        exact ⟨.free, .inl rfl, List.mem_cons_self⟩
      | false =>
        rw [hc] at h
        have h : some k = some k' := h
        cases h
        rcases hk with rfl | rfl
        · exact ⟨_, .inr rfl, List.mem_cons_self⟩
        · exact ⟨_, .inl rfl, List.mem_cons_self⟩
    | false =>
      rw [head_skip _ hx] at h
      obtain ⟨k2, h1, h2⟩ := ih h
      exact ⟨k2, h1, List.mem_cons_of_mem _ h2⟩

/-- the block's context: its names N, its frame at C, handed the cells cl; entered at s with H; the iterators fp -/
def compCx (X : Cx) (scope : Scope) (cl : List (Str × Addr)) (C : Addr) (N : List Str) (s : Shared) (H : Hp) (fp : List Addr) (pins : List (Addr × Obj)) : Cx :=
  { X with N := N, s₀ := s, H₀ := H, env := compEnvC scope cl C X.env, outer := X.stack, stack := X.stack, ex := fp, fn := fun _ => false, pn := X.pn ++ pins, xe := fun _ _ => False }
/-- the values at the block's entry: cap tells, name by name, the slot it is taken from -/
def capS (cap : List (Option Nat)) (σ : St) : St := cap.map fun o => o.bind fun j => (σ[j]?).join
def isCF : Option NameKind → Bool
  | some .cell => true
  | some .free => true
  | _ => false
def capAt (sc : Scope) (XN : List Str) : List (Option Nat) → List Str → Bool
  | [], [] => true
  | some j :: r, x :: xs => (XN[j]? == some x) && (sc.names.lookup x == some NameKind.free) && capAt sc XN r xs
  | none :: r, _ :: xs => capAt sc XN r xs
  | _, _ => false
/-- osc, XN: the scope and the names around; sc, N: the block's -/
def capOk (osc sc : Scope) (XN N : List Str) (cap : List (Option Nat)) : Bool :=
  (sc.kind == ScopeKind.function) && sc.names.all (fun y => y.2 != NameKind.cell) && sc.names.all (fun y => y.2 != NameKind.local || sc.names.lookup y.1 == some NameKind.local) &&
  sc.names.all (fun y => y.2 != NameKind.free || isCF (osc.names.lookup y.1)) && capAt sc XN cap N
theorem capAt_len {sc : Scope} {XN : List Str} : ∀ {cap : List (Option Nat)} {N : List Str}, capAt sc XN cap N = true → cap.length = N.length
  | [], [], _ => rfl
  | some _ :: r, _ :: xs, h => by
    simp only [capAt, Bool.and_eq_true] at h
    simp [capAt_len h.2]
  | none :: r, _ :: xs, h => by
    simp only [capAt] at h
    simp [capAt_len h]
  | [], _ :: _, h => by simp [capAt] at h
  | some _ :: _, [], h => by simp [capAt] at h
  | none :: _, [], h => by simp [capAt] at h
theorem capAt_get {sc : Scope} {XN : List Str} : ∀ {cap : List (Option Nat)} {N : List Str} {i j : Nat} {x : Str}, capAt sc XN cap N = true → cap[i]? = some (some j) → N[i]? = some x → XN[j]? = some x ∧ sc.names.lookup x = some .free
  | [], _, i, _, _, _, h, _ => by simp at h
  | some _ :: r, y :: xs, 0, j, x, h, h1, h2 => by
    simp only [capAt, Bool.and_eq_true, beq_iff_eq] at h
    simp at h1 h2
    subst h1; subst h2
    exact ⟨h.1.1, h.1.2⟩
  | some _ :: r, y :: xs, i + 1, j, x, h, h1, h2 => by
    simp only [capAt, Bool.and_eq_true] at h
    exact capAt_get (i := i) h.2 (by simpa using h1) (by simpa using h2)
  | none :: r, y :: xs, 0, j, x, h, h1, h2 => by simp at h1
  | none :: r, y :: xs, i + 1, j, x, h, h1, h2 => by
    simp only [capAt] at h
    exact capAt_get (i := i) h (by simpa using h1) (by simpa using h2)
  | some _ :: _, [], _, _, _, h, _, _ => by simp [capAt] at h
  | none :: _, [], _, _, _, h, _, _ => by simp [capAt] at h

section
variable {X : Cx} {pins : List (Addr × Obj)} {σ : St} {H : Hp} {s : Shared} {scope : Scope} {N : List Str} {cap : List (Option Nat)} {fp : List Addr}
theorem Inv.clos (I : Inv X pins σ H s) (ok : capOk X.env.scope scope X.N N cap = true) : ∀ y ∈ scope.names, y.2 = .free → (X.env.cells.lookup y.1).isSome = true := fun y hy hf => by
  simp only [capOk, Bool.and_eq_true, List.all_eq_true] at ok
  have h := ok.1.2 y hy
  rw [hf] at h
  have h' : isCF (X.env.scope.names.lookup y.1) = true := by simpa using h
  have hk : X.env.kindOf y.1 = some .cell ∨ X.env.kindOf y.1 = some .free := by
    show X.env.scope.names.lookup y.1 = _ ∨ X.env.scope.names.lookup y.1 = _
    cases e : X.env.scope.names.lookup y.1 with
    | none => rw [e] at h'; cases h'
    | some k =>
      rw [e] at h'
      cases k <;> first | exact .inl rfl | exact .inr rfl | cases h'
  obtain ⟨c, e⟩ := I.ok.has y.1 hk
  rw [e]
  rfl
/-- the block is entered: the list at D is laid, its frame at C -/
theorem Inv.comp (I : Inv X pins σ H s) (ok : capOk X.env.scope scope X.N N cap = true) (f : ∀ b ∈ fp, FpOk X pins H b) (fo : ∀ b ∈ fp, ∃ o, s.heap.get? b = some o) {h₁ : Heap} {tk : Nat} {fo' : Obj}
    (hn : h₁.Ns (s.heap.push { cls := .type "list", data := .seq #[] }).objs.size (fun _ => none))
    (hs : Heap.SameBut (s.heap.push { cls := .type "list", data := .seq #[] }).objs.size ((s.heap.push { cls := .type "list", data := .seq #[] }).push fo') h₁) :
    Inv (compCx X scope (closL X.env.cells scope.names []) (s.heap.push { cls := .type "list", data := .seq #[] }).objs.size N { s with heap := s.heap.push { cls := .type "list", data := .seq #[] } } (upd H s.heap.objs.size (.lst [])) fp pins)
      [] (capS cap σ) (upd H s.heap.objs.size (.lst [])) { s with heap := h₁, toks := tk } := by
  have okC := ok
  simp only [capOk, Bool.and_eq_true, List.all_eq_true, beq_iff_eq] at ok
  obtain ⟨⟨⟨⟨hkind, hcell⟩, _⟩, _⟩, hcap⟩ := ok
  have cl := I.clos okC
  have hC : (s.heap.push { cls := .type "list", data := .seq #[] }).objs.size = s.heap.objs.size + 1 := Heap.size_push ..
  generalize hCC : (s.heap.push { cls := .type "list", data := .seq #[] }).objs.size = C at hn hs hC ⊢
  have below : ∀ b o, s.heap.get? b = some o → b ≠ C ∧ b ≠ s.heap.objs.size := fun b o e => by
    have := Heap.lt_size e
    exact ⟨by rw [hC]; exact Nat.ne_of_lt (Nat.lt_succ_of_lt this), Nat.ne_of_lt this⟩
  have old : ∀ b o, s.heap.get? b = some o → h₁.get? b = some o := fun b o e => hs.extBut b o (below b o e).1 (Heap.get?_push_of_some _ (Heap.get?_push_of_some _ e))
  have up3 : ∀ b o, s.heap.get? b = some o → (s.heap.push { cls := .type "list", data := .seq #[] }).get? b = some o := fun b o e => Heap.get?_push_of_some _ e
  have old3 : ∀ b o, (s.heap.push { cls := .type "list", data := .seq #[] }).get? b = some o → h₁.get? b = some o := fun b o e => by
    have : b < C := by rw [← hCC]; exact Heap.lt_size e
    exact hs.extBut b o (Nat.ne_of_lt this) (Heap.get?_push_of_some _ e)
  have hD : H s.heap.objs.size = none := I.hok.fresh (Nat.le_refl _)
  have free3 : ∀ b o, s.heap.get? b = some o → H b = none → upd H s.heap.objs.size (.lst []) b = none := fun b o e n => by rw [upd_ne (below b o e).2]; exact n
  have hCn : upd H s.heap.objs.size (.lst []) C = none := by
    rw [upd_ne (by rw [hC]; exact Nat.ne_of_gt (Nat.lt_succ_self _))]
    exact I.hok.fresh (by rw [hC]; exact Nat.le_succ _)
  have cellsIn : ∀ x c, (closL X.env.cells scope.names []).lookup x = some c → X.env.cells.lookup x = some c := fun x c e => by
    rcases closL_in cl e with q | q
    · simp at q
    · exact q
  have cellO : ∀ x c, (closL X.env.cells scope.names []).lookup x = some c → ∃ v o, s.heap.IsCell c v ∧ s.heap.get? c = some o := fun x c e => by
    obtain ⟨v, q⟩ := I.cell x c (cellsIn x c e)
    obtain ⟨o, ho, _⟩ := id q
    exact ⟨v, o, q, ho⟩
  have hok3 : HOk X.prog X.w (upd H s.heap.objs.size (.lst [])) h₁ := I.hok.laid old (Nat.le_refl _) (show ObjOk X.prog X.w _ h₁ s.heap.objs.size (.lst []) from ⟨Nat.zero_le _, [], 0, .nil, old3 _ _ (Heap.get?_push_size _ rfl)⟩)
  have stkb : ∀ b ∈ frs X.stack, ∃ o, s.heap.get? b = some o := fun b hb => by
    obtain ⟨_, o, ho, _⟩ := I.stack.mem hb
    exact ⟨o, ho⟩
  refine ⟨⟨I.ok.mod, hkind, I.ok.glob, I.ok.blt, Nat.le_of_eq hCC, fun y z c h1 h2 => I.ok.inj y z c (cellsIn y c h1) (cellsIn z c h2), fun y hy => ?_, fun y c hf _ => Bool.noConfusion hf, I.hdAt.new hD, I.ok.frames, .inl rfl, fun b hb => ?_,
      fun b o e => ⟨up3 b o (I.bs b o e).1, free3 b o (I.bs b o e).1 (I.bs b o e).2⟩, ?_, fun b o e hb => ?_, fun b hb hb2 => ?_, ?_, fun b hb => ?_⟩,
    rfl, I.bare, Un.kept old3, ⟨_, hn, fun i x v h1 h2 h3 => ?_⟩, fun x c e => ?_, hCn, fun x c e => ?_, fun p hp => ?_, hok3, ?_⟩
  · -- has
    have hy : (relabel scope X.env).names.lookup y = some .cell ∨ (relabel scope X.env).names.lookup y = some .free := hy
    have : (y, NameKind.free) ∈ scope.names := by
      rcases hy with q | q
      · obtain ⟨k, hk, hm⟩ := relabel_back (.inl rfl) q
        rcases hk with rfl | rfl
        · exact hm
        · exact absurd (show (NameKind.cell != NameKind.cell) = true from hcell _ hm) (by decide)
      · obtain ⟨k, hk, hm⟩ := relabel_back (.inr rfl) q
        rcases hk with rfl | rfl
        · exact hm
        · exact absurd (show (NameKind.cell != NameKind.cell) = true from hcell _ hm) (by decide)
    exact Option.isSome_iff_exists.mp (closL_has (.inl this))
  · -- exf
    obtain ⟨o, e⟩ := fo b hb
    exact ⟨(below b o e).1, fun x c q => (f b hb).2.2.2.2.1 x c (cellsIn x c q)⟩
  · -- bsz
    show X.base.objs.size ≤ (s.heap.push { cls := .type "list", data := .seq #[] }).objs.size
    rw [Heap.size_push]
    exact Nat.le_succ_of_le (Nat.le_trans I.ok.bsz I.sz)
  · -- noex
    rcases (f b hb).2.2.2.1 with q | q
    · exact I.ok.noex b o e q
    · exact absurd (Nat.lt_of_lt_of_le (Heap.lt_size (I.ok.bs b o e).1) q) (Nat.lt_irrefl _)
  · -- exfs
    rcases List.mem_cons.mp (I.stkSub b hb2) with q | q
    · exact (f b hb).2.1 q
    · exact (f b hb).2.2.1 q
  · -- funs
    exact I.stack.of_keeps fun b o e _ => ⟨o, up3 b o e, rfl⟩
  · -- frf
    obtain ⟨o, e⟩ := stkb b hb
    exact free3 b o e (I.stkFree b hb)
  · -- loc
    have hi : ∃ j, cap[i]? = some (some j) ∧ σ[j]? = some (some v) := by
      unfold capS at h2
      rw [List.getElem?_map] at h2
      cases e : cap[i]? with
      | none => rw [e] at h2; cases h2
      | some o =>
        rw [e] at h2
        cases o with
        | none => cases h2
        | some j =>
          refine ⟨j, rfl, ?_⟩
          have h2' : (σ[j]?).join = some v := Option.some.inj h2
          cases e2 : σ[j]? with
          | none => rw [e2] at h2'; cases h2'
          | some o2 => rw [e2] at h2'; rw [show o2 = some v from h2']
    obtain ⟨j, hj, hv⟩ := hi
    obtain ⟨hX, hfr⟩ := capAt_get hcap hj h1
    have hmem : (x, NameKind.free) ∈ scope.names := PySem.mem_of_lookup hfr
    have hcf := okC
    simp only [capOk, Bool.and_eq_true, List.all_eq_true] at hcf
    have h' : isCF (X.env.scope.names.lookup x) = true := by simpa using hcf.1.2 _ hmem
    have hk : X.env.scope.names.lookup x = some .cell ∨ X.env.scope.names.lookup x = some .free := by
      cases e : X.env.scope.names.lookup x with
      | none => rw [e] at h'; cases h'
      | some k =>
        rw [e] at h'
        cases k <;> first | exact .inl rfl | exact .inr rfl | cases h'
    obtain ⟨m, _, hl⟩ := I.loc
    obtain ⟨u, ru, lk⟩ := hl j x v hX hv (hk.elim (fun q => .inr (.inl q)) fun q => .inr (.inr q))
    refine ⟨u, ru, .inr ⟨relabel_free hfr, ?_⟩⟩
    rcases lk with ⟨q, _⟩ | ⟨_, c, hc, hcell2⟩
    · have q' : X.env.scope.names.lookup x = some .local := q
      rcases hk with z | z
      · rw [z] at q'; cases q'
      · rw [z] at q'; cases q'
    · obtain ⟨c', hc'⟩ := Option.isSome_iff_exists.mp (closL_has (cells := X.env.cells) (acc := []) (.inl hmem))
      have : c' = c := by
        have := cellsIn x c' hc'
        rw [hc] at this
        exact (Option.some.inj this).symm
      subst this
      obtain ⟨o, ho, hd⟩ := hcell2
      exact ⟨c', hc', o, old c' o ho, hd⟩
  · -- cell
    obtain ⟨v, o, ⟨o', ho, hd⟩, _⟩ := cellO x c e
    exact ⟨v, o', old c o' ho, hd⟩
  · -- freeC
    obtain ⟨v, o, _, ho⟩ := cellO x c e
    exact free3 c o ho (I.freeC x c (cellsIn x c e))
  · -- pins
    have hp' : p ∈ X.pn ++ pins := by simpa [compCx] using hp
    obtain ⟨e, n, ne, nf, d⟩ := I.pin p hp'
    refine ⟨old _ _ e, free3 _ _ e n, (below _ _ e).1, fun z => ?_, d⟩
    rcases List.mem_cons.mp (I.stkSub p.1 z) with q | q
    · exact ne q
    · exact nf q
  · -- len
    show (capS cap σ).length = N.length
    unfold capS
    rw [List.length_map]
    exact capAt_len hcap
end

/-! ### the loop of a comprehension -/
section
variable {prog : Program} {w : World} {A : Around} {R : Result → Shared → Prop} {s : Shared}
theorem compLoop_go {elt target iter : Expr} {ifs : List Expr} {scope : Scope} {pos : Pos} {it acc : Value} {env : Env} (J : Nat → Shared → Prop)
    (turn : ∀ n s, J n s → wpAny (model prog w) A (pyNext it) (fun r s₁ => match r with
      | none => R (.ok .next) s₁
      | some v => wpAny (model prog w) A (letOwnedTupleGo target it v) (fun _ s₂ => wpAny (model prog w) A (assign target env v) (fun _ s₃ =>
          wpAny (model prog w) A (forIn ifs true fun c r => if r = true then do let ok ← isTrue c env (eval c env); pure (ForInStep.yield ok) else pure (ForInStep.yield r)) (fun ok s₄ =>
            if ok = true then wpAny (model prog w) A (eval elt env) (fun x s₅ =>
              wpAny (model prog w) A (call (.builtin "list.append") [acc, x]) (fun _ s₆ => ∃ m, m < n ∧ J m s₆) (fun _ _ => False) s₅) (fun _ _ => False) s₄
            else ∃ m, m < n ∧ J m s₄) (fun _ _ => False) s₃) (fun _ _ => False) s₂) (fun _ _ => False) s₁) (fun _ _ => False) s)
    (n : Nat) (h : J n s) : codeAny (model prog w) A (.compLoop (.ListComp elt [⟨target, iter, ifs, 0⟩] scope pos) 0 it acc env) R s := by
  have no : ∀ {E : Value → Shared → Prop} (e : Value) (s' : Shared), (fun (_ : Value) (_ : Shared) => False) e s' → E e s' := fun _ _ z => z.elim
  refine codeAny_loop rfl J (fun n s hI => ?_) n h
  show wpAny _ A ((compTurn (.ListComp elt [⟨target, iter, ifs, 0⟩] scope pos) 0 it acc env).onRaise (fun x => do noteFrame x env; theTreesLotGoes x)) _ _ s
  refine wpAny_noted ?_
  rw [compTurn_list]
  refine wpAny_bind (wpAny_standAt (wpAny_bind (wpAny_mono (turn n s hI) (fun r s₁ h₁ => ?_) no)))
  cases r with
  | none => exact wpAny_pure h₁
  | some v =>
    refine wpAny_bind (wpAny_mono h₁ (fun _ s₂ h₂ => wpAny_bind (wpAny_mono h₂ (fun _ s₃ h₃ => wpAny_bind (wpAny_mono h₃ (fun ok s₄ h₄ => ?_) no)) no)) no)
    cases ok with
    | false => exact wpAny_pure ⟨rfl, h₄⟩
    | true =>
      exact wpAny_bind (wpAny_bind (wpAny_mono h₄ (fun x s₅ h₅ => wpAny_bind (wpAny_mono h₅ (fun _ s₆ h₆ => wpAny_pure (wpAny_pure ⟨rfl, h₆⟩)) no)) no))
end

/-- the tests of a comprehension's clause: none, or one -/
def PIf (X : Cx) (cs : List Expr) (t : TT) : Prop :=
  ∀ (pins : List (Addr × Obj)) (s : Shared) (σ : St) (H : Hp) (Q : Bool → Hp → Prop), Inv X pins σ H s → t σ H Q →
    wpAny (model X.prog X.w) X.A (forIn cs true fun c r => if r = true then do let ok ← isTrue c X.env (eval c X.env); pure (ForInStep.yield ok) else pure (ForInStep.yield r)) (TP X pins σ Q) X.xe s
def tYes : TT := fun _ H Q => Q true H
theorem pif_nil {X : Cx} : PIf X [] tYes := fun _ _ _ H _ I h => wpAny_tests_nil ⟨H, I, h⟩
/-- what a comprehension's walk asks: an invariant W by the turn and a measure, over the block's values and the heap in which the list grows at D -/
def CompW (J : It) (D : Addr) (τ : St) (H : Hp) (g : TG) (tt : TT) (te : TE) (Q : VK) : Prop :=
  ∃ W : Nat → Nat → St → Hp → Prop, (∃ m, W 0 m τ H) ∧ ∀ i m τ H, W i m τ H →
    (J.stop i H ∧ Q (.ref D) H) ∨ (J.go i H ∧ ∃ M : St → Hp → Prop, (∀ τ' H', M τ' H' → ∃ m', m' < m ∧ W (i + 1) m' τ' H') ∧ ∀ x H', J.yld i H x H' → g x τ H' fun τ2 H2 => tt τ2 H2 fun b H3 =>
      if b = true then te τ2 H3 fun y H4 => ∃ ys, H4 D = some (.lst ys) ∧ ys.length < sizeLine ∧ M τ2 (upd H4 D (.lst (ys ++ [y]))) else M τ2 H3)
def tComp (wi : TI) (cap : List (Option Nat)) (g : TG) (tt : TT) (te : TE) : TE := fun σ H Q => wi σ H fun J H1 => ∀ D, H1 D = none → CompW J D (capS cap σ) (upd H1 D (.lst [])) g tt te Q

section
variable {X : Cx} {elt tg iter : Expr} {ifs : List Expr} {scope : Scope} {pos : Pos} {N : List Str} {cap : List (Option Nat)} {wi : TI} {g : TG} {tt : TT} {te : TE}
theorem comp_block {pins : List (Addr × Obj)} {σ : St} {H : Hp} {s : Shared} {J : It} {fp : List Addr} {it : Addr} {tn : Nat → Heap → Prop} {Q : VK} {E : Value → Shared → Prop} {RR : Value → Addr → Result → Shared → Prop}
    (hc : X.calm = true) (ok : capOk X.env.scope scope X.N N cap = true)
    (hg : ∀ cl C s H fp pins, PG (compCx X scope cl C N s H fp pins) tg g) (hf : ∀ cl C s H fp pins, PIf (compCx X scope cl C N s H fp pins) ifs tt) (he : ∀ cl C s H fp pins, PE (compCx X scope cl C N s H fp pins) elt te)
    (I : Inv X pins σ H s) (T : Turn X.prog X.w X.K tg J fp it tn) (st : tn 0 s.heap) (f : ∀ b ∈ fp, FpOk X pins H b)
    (q : ∀ D, H D = none → CompW J D (capS cap σ) (upd H D (.lst [])) g tt te Q)
    (fin : ∀ D C H' s' m, Inv X pins σ H' s' → FpOk X pins H' C → s'.heap.Ns C m → Q (.ref D) H' → RR (.ref D) C (.ok .next) s') :
    wpAny (model X.prog X.w) X.A (newList []) (fun acc s₃ => wpAny (model X.prog X.w) X.A (newFunctionEnv scope X.env.globals (closL X.env.cells scope.names []) [] X.env.qual none .none (some X.env)) (fun cenv s₄ =>
      codeAny (model X.prog X.w) X.A (.compStart (.ListComp elt [⟨tg, iter, ifs, 0⟩] scope pos) 0 (.ref it) acc { cenv with scope := relabel scope X.env }) (RR acc cenv.locals) s₄) E s₃) E s := by
  have ok' := ok
  simp only [capOk, Bool.and_eq_true, List.all_eq_true, beq_iff_eq] at ok'
  obtain ⟨⟨⟨⟨hkind, hcell⟩, _⟩, _⟩, hcap⟩ := ok'
  refine wpAny_newObj_type (wpAny_newFunctionEnv (fun y hy => by simpa using hcell y hy) (by intro y hy; simp at hy) (fun h₁ hns₁ hsb₁ => ?_) hkind)
  dsimp only at hns₁ hsb₁ ⊢
  have fo : ∀ b ∈ fp, ∃ o, s.heap.get? b = some o := fun b hb => let ⟨o, e, _⟩ := T.obj _ _ st b hb; ⟨o, e⟩
  have J0 := I.comp (h₁ := h₁) (tk := s.toks + ([] : List (Str × Value)).length) ok f fo hns₁ hsb₁
  have hDfree : H s.heap.objs.size = none := I.hok.fresh (Nat.le_refl _)
  obtain ⟨W, ⟨m0, w0⟩, turn⟩ := q _ hDfree
  generalize hY : compCx X scope (closL X.env.cells scope.names []) (s.heap.push { cls := .type "list", data := .seq #[] }).objs.size N { s with heap := s.heap.push { cls := .type "list", data := .seq #[] } } (upd H s.heap.objs.size (.lst [])) fp pins = Y at J0
  have below : ∀ b ∈ fp, b < s.heap.objs.size := fun b hb => let ⟨o, e⟩ := fo b hb; Heap.lt_size e
  have cl := I.clos ok
  have stat : ∀ {H' : Hp}, (∀ b ∈ fp, H' b = none) → ∀ b ∈ fp, FpOk Y [] H' b := fun {H'} hn b hb => by
    subst hY
    refine ⟨hn b hb, ?_, fun z => ?_, .inl hb, fun x c e => ?_, fun p hp => ?_⟩
    · show b ≠ (s.heap.push { cls := .type "list", data := .seq #[] }).objs.size
      rw [Heap.size_push]
      exact Nat.ne_of_lt (Nat.lt_succ_of_lt (below b hb))
    · rcases List.mem_cons.mp (I.stkSub b z) with q | q
      · exact (f b hb).2.1 q
      · exact (f b hb).2.2.1 q
    · refine (f b hb).2.2.2.2.1 x c ?_
      rcases closL_in cl e with z | z
      · simp at z
      · exact z
    · exact (f b hb).2.2.2.2.2 p (by simpa [compCx] using hp)
  have hgY : PG Y tg g := hY ▸ hg _ _ _ _ _ _
  have hfY : PIf Y ifs tt := hY ▸ hf _ _ _ _ _ _
  have heY : PE Y elt te := hY ▸ he _ _ _ _ _ _
  have e1 : Y.prog = X.prog := by subst hY; rfl
  have e2 : Y.w = X.w := by subst hY; rfl
  have e3 : Y.K = X.K := by subst hY; rfl
  have e4 : Y.calm = true := by subst hY; exact hc
  have e5 : Y.A = X.A := by subst hY; rfl
  have e6 : Y.env = compEnvC scope (closL X.env.cells scope.names []) (s.heap.push { cls := .type "list", data := .seq #[] }).objs.size X.env := by subst hY; rfl
  have e7 : Y.xe = fun _ _ => False := by subst hY; rfl
  have hfp0 : ∀ b ∈ fp, upd H s.heap.objs.size (.lst []) b = none := fun b hb => by rw [upd_ne (Nat.ne_of_lt (below b hb))]; exact (f b hb).1
  have st0 : tn 0 h₁ := T.keep _ _ _ st fun b hb o e => hsb₁.extBut b o (by
    have := below b hb
    rw [Heap.size_push]
    exact Nat.ne_of_lt (Nat.lt_succ_of_lt this)) (Heap.get?_push_of_some _ (Heap.get?_push_of_some _ e))
  have loop : ∀ s₃ : Shared, s₃ = { s with heap := h₁, toks := s.toks + ([] : List (Str × Value)).length } →
      codeAny (model X.prog X.w) X.A (.compLoop (.ListComp elt [⟨tg, iter, ifs, 0⟩] scope pos) 0 (.ref it) (.ref s.heap.objs.size)
        (compEnvC scope (closL X.env.cells scope.names []) (s.heap.push { cls := .type "list", data := .seq #[] }).objs.size X.env)) (RR (.ref s.heap.objs.size) (s.heap.push { cls := .type "list", data := .seq #[] }).objs.size) s₃ := by
    rintro s₃ rfl
    refine compLoop_go (fun n s' => ∃ i τ H', Inv Y [] τ H' s' ∧ tn i s'.heap ∧ (∀ b ∈ fp, H' b = none) ∧ W i n τ H') ?_ m0 ⟨0, _, _, J0, st0, hfp0, w0⟩
    rintro n s' ⟨i, τ, H', I', st', fr', w'⟩
    rcases turn i n τ H' w' with ⟨stop, qn⟩ | ⟨go, M, hM, step⟩
    · have z := T.done Y e1 e2 e3 e4 i [] s' τ H' (fun _ _ => False) I' (stat fr') st' stop
      rw [e5] at z
      refine thn z fun r s4 ⟨hr, I4⟩ => ?_
      subst hr
      subst hY
      obtain ⟨m, hn4, _⟩ := I4.loc
      have ho : s4.os = s.os := I4.os
      have un : Un (frs X.stack) fp H H' s.heap s4.heap := by
        have u1 : Un (frs X.stack) fp H (upd H s.heap.objs.size (.lst [])) s.heap (s.heap.push { cls := .type "list", data := .seq #[] }) := Un.laid (fun b u e => Heap.get?_push_of_some _ e) (Nat.le_refl _) hDfree
        exact u1.trans I4.base
      have IX : Inv X pins σ H' s4 := I.call' ho un I4.hok I4.bare fun b hb => ⟨(f b hb).2.2.2.1, (f b hb).2.1, (f b hb).2.2.2.2.1, (f b hb).2.2.2.2.2⟩
      exact fin _ _ H' s4 m IX (I.fpOk (by rw [Heap.size_push]; exact Nat.le_succ _) I4.free) hn4 qn
    · have z := T.item Y e1 e2 e3 e4 i [] s' τ H' (fun _ _ => False) I' (stat fr') st' go
      rw [e5] at z
      refine thn z fun r s4 ⟨u, hr, h4⟩ => ?_
      subst hr
      refine thn h4 fun _ s5 ⟨x, H5, I5, r5, y5, st5, fr5⟩ => ?_
      have I5' := I5.pinned (stat fr5) (T.obj _ _ st5)
      have zg := hgY _ s5 τ H5 x u _ I5' r5 (step x H5 y5)
      rw [e1, e2, e5, e6, e7] at zg
      refine thn zg fun _ s6 ⟨τ6, H6, I6, q6⟩ => ?_
      have zf := hfY _ s6 τ6 H6 _ I6 q6
      rw [e1, e2, e5, e6, e7] at zf
      refine thn zf fun b s7 ⟨H7, I7, q7⟩ => ?_
      have again : ∀ {H8 : Hp} {s8 : Shared}, Inv Y ([] ++ pinsAt fp s5.heap) τ6 H8 s8 → M τ6 H8 → ∃ m, m < n ∧ ∃ i τ H', Inv Y [] τ H' s8 ∧ tn i s8.heap ∧ (∀ b ∈ fp, H' b = none) ∧ W i m τ H' := fun {H8 s8} I8 w8 => by
        obtain ⟨m', hm, w8⟩ := hM _ _ w8
        refine ⟨m', hm, i + 1, τ6, H8, I8.unpinned, T.keep _ _ _ st5 fun b hb o e => (I8.pin (b, o) (List.mem_append_right _ (List.mem_append_right _ (mem_pinsAt hb e)))).1, fun b hb => ?_, w8⟩
        obtain ⟨o, e, d⟩ := T.obj _ _ st5 b hb
        exact (I8.pin (b, o) (List.mem_append_right _ (List.mem_append_right _ (mem_pinsAt hb e)))).2.1
      cases b with
      | false => exact again I7 q7
      | true =>
        have ze := heY _ s7 τ6 H7 _ I7 q7
        rw [e1, e2, e5, e6, e7] at ze
        refine thn ze fun v s8 ⟨y, H8, I8, r8, ys, hD, hz, q8⟩ => ?_
        have za := mt_append (X := Y) _ s8 τ6 H8 (.ref s.heap.objs.size) [y] (.ref s.heap.objs.size) [v] (fun _ H9 => H9 = upd H8 s.heap.objs.size (.lst (ys ++ [y]))) I8 rfl (.cons r8 .nil) ⟨_, ys, y, rfl, rfl, hD, hz, rfl⟩
        rw [e1, e2, e5, e7] at za
        refine thn za fun _ s9 ⟨_, H9, I9, _, e9⟩ => ?_
        subst e9
        exact again I9 q8
  exact codeAny_compStart_list (loop _ rfl) (T.self X.A 0 _ _ _ st0 (loop _ rfl))

theorem cap_ok {osc : Scope} {XN : List Str} (h1 : X.env.scope = osc) (h2 : X.N = XN) (ok : capOk osc scope XN N cap = true) : capOk X.env.scope scope X.N N cap = true := by
  rw [h1, h2]
  exact ok
theorem pe_comp (hc : X.calm = true) (ok : capOk X.env.scope scope X.N N cap = true) (hi : PI X tg iter wi)
    (hg : ∀ cl C s H fp pins, PG (compCx X scope cl C N s H fp pins) tg g) (hf : ∀ cl C s H fp pins, PIf (compCx X scope cl C N s H fp pins) ifs tt) (he : ∀ cl C s H fp pins, PE (compCx X scope cl C N s H fp pins) elt te)
    (hs : ∀ x, foldedSetIterable iter X.env x = pure x := by intro _; rfl) : PE X (.ListComp elt [⟨tg, iter, ifs, 0⟩] scope pos) (tComp wi cap g tt te) := by
  intro pins s σ H Q I h
  have ok' := ok
  simp only [capOk, Bool.and_eq_true, List.all_eq_true, beq_iff_eq] at ok'
  obtain ⟨⟨⟨⟨hkind, _⟩, hnames⟩, _⟩, _⟩ := ok'
  rw [eval_ListComp]
  refine wpAny_comprehension_free (use := none) rfl hs (closureFor_clos (I.clos ok)) hkind (fun y hy hl => by simpa [hl] using hnames y hy) (thn (hi pins s σ H _ I h) fun xv s1 h1 => thn h1 fun itv s2 h2 => ?_)
  obtain ⟨it, fp, tn, J, H2, e, I2, T, st2, f2, q⟩ := h2
  subst e
  refine comp_block (RR := fun acc C => compPost (model X.prog X.w) X.A X.xe none (EP X pins σ Q) acc C) hc ok hg hf he I2 T st2 f2 q ?_
  intro D C H' s' m I' fC hn qn
  obtain ⟨f0, f1, f2', f3, f4, f5⟩ := fC
  exact ⟨m, hn, fun h' sb => ⟨.ref D, H', I'.turned (t' := s'.toks) (fun b o hb e => sb.extBut b o hb e) f0 f1 f3 f4 f5, rfl, qn⟩⟩

/-- name = [ .. ] on one row, the name a plain local: it is stored ahead of the block's end -/
theorem ps_setC {i : Nat} {x : Str} {pos' spos : Pos} (hN : X.N.Nodup) (hi' : X.N[i]? = some x) (hx : X.env.scope.names.lookup x = some .local) (hc : X.calm = true) (ok : capOk X.env.scope scope X.N N cap = true) (hi : PI X tg iter wi)
    (hg : ∀ cl C s H fp pins, PG (compCx X scope cl C N s H fp pins) tg g) (hf : ∀ cl C s H fp pins, PIf (compCx X scope cl C N s H fp pins) ifs tt) (he : ∀ cl C s H fp pins, PE (compCx X scope cl C N s H fp pins) elt te)
    (hsw : swapsWith (.ListComp elt [⟨tg, iter, ifs, 0⟩] scope pos) (some (.Name x pos')) spos.line X.env = pure true)
    (hs : ∀ x, foldedSetIterable iter X.env x = pure x := by intro _; rfl) :
    PS X (.Assign [.Name x pos'] (.ListComp elt [⟨tg, iter, ifs, 0⟩] scope pos) spos) (tAsg (tComp wi cap g tt te) (gName i)) := by
  intro pins s σ H D I h
  have ok' := ok
  simp only [capOk, Bool.and_eq_true, List.all_eq_true, beq_iff_eq] at ok'
  obtain ⟨⟨⟨⟨hkind, _⟩, hnames⟩, _⟩, _⟩ := ok'
  rw [exec_Assign_Name_used _ _ _ _ hsw]
  refine wpAny_bind (wpAny_standAt (wpAny_bind ?_))
  show wpAny _ X.A (do let _ ← comprehension (.ListComp elt [⟨tg, iter, ifs, 0⟩] scope pos) scope X.env _ (newList []) false (eval iter X.env) (some (assign (.Name x pos') X.env))) _ _ s
  refine wpAny_bind (wpAny_mono (wpAny_comprehension_free (use := some (assign (.Name x pos') X.env)) (Q := fun _ s' => SP X pins D .next s') rfl hs (closureFor_clos (I.clos ok)) hkind (fun y hy hl => by simpa [hl] using hnames y hy)
    (thn (hi pins s σ H _ I h) fun xv s1 h1 => thn h1 fun itv s2 h2 => ?_)) (fun _ s' hq => wpAny_pure (wpAny_pure hq)) fun _ _ e => e)
  obtain ⟨it, fp, tn, J, H2, e, I2, T, st2, f2, q⟩ := h2
  subst e
  refine comp_block (RR := fun acc C => compPost (model X.prog X.w) X.A X.xe (some (assign (.Name x pos') X.env)) (fun _ s' => SP X pins D .next s') acc C) hc ok hg hf he I2 T st2 f2 q ?_
  intro Dd C H' s' m I' fC hn qn
  obtain ⟨f0, f1, f2', f3, f4, f5⟩ := fC
  show wpAny _ X.A (assign (.Name x pos') X.env (.ref Dd)) _ _ _
  refine wpAny_assign_Name (store_ok2 I' hN hi' (.inl hx) (v := .ref Dd) rfl (fun s3 I3 ⟨a, sb, ha⟩ => ?_) (.inr hx))
  have hCa : C ≠ a := by
    rcases ha with z | z
    · rw [z]; exact f1
    · exact fun w => f4 x a z w.symm
  refine ⟨m, hn.sameBut sb hCa, fun h' sb2 => ?_⟩
  exact ⟨_, H', I3.turned (t' := s3.toks) (fun b o hb e => sb2.extBut b o hb e) f0 f1 f3 f4 f5, qn⟩

/-! the forms one uses: over a list, a tuple, a range -/
/-- over a list that the block leaves as it is -/
theorem comp_list {K : PySem.W.Frag} {a D : Addr} {xs : List V} {τ : St} {H : Hp} {Q : VK} (Pv : Nat → St → Hp → Prop) (h0 : Pv 0 τ H) (hl : ∀ i τ H, i ≤ xs.length → Pv i τ H → SqL K H a xs)
    (hs : ∀ i x τ H, xs[i]? = some x → Pv i τ H → g x τ H fun τ2 H2 => tt τ2 H2 fun b H3 =>
      if b = true then te τ2 H3 fun y H4 => ∃ ys, H4 D = some (.lst ys) ∧ ys.length < sizeLine ∧ Pv (i + 1) τ2 (upd H4 D (.lst (ys ++ [y]))) else Pv (i + 1) τ2 H3)
    (hd : ∀ τ H, Pv xs.length τ H → Q (.ref D) H) : CompW (Itl K a) D τ H g tt te Q := by
  refine ⟨fun i m τ H => m = xs.length - i ∧ i ≤ xs.length ∧ Pv i τ H, ⟨xs.length, by simp, Nat.zero_le _, h0⟩, ?_⟩
  rintro i m τ H ⟨rfl, hi, p⟩
  have q := hl i τ H hi p
  by_cases hlt : i < xs.length
  · refine .inr ⟨⟨xs, xs[i], q, by simp [hlt]⟩, Pv (i + 1), fun τ' H' p' => ⟨xs.length - (i + 1), by omega, rfl, hlt, p'⟩, fun x H' y => ?_⟩
    obtain ⟨e, y⟩ := y
    subst e
    exact hs i x τ _ (y xs q) p
  · have e : i = xs.length := by omega
    subst e
    exact .inl ⟨⟨xs, q, Nat.le_refl _⟩, hd τ H p⟩
theorem comp_range {lo : Int} {n : Nat} {D : Addr} {τ : St} {H : Hp} {Q : VK} (Pv : Nat → St → Hp → Prop) (h0 : Pv 0 τ H)
    (hs : ∀ i τ H, i < n → Pv i τ H → g (.int (lo + i)) τ H fun τ2 H2 => tt τ2 H2 fun b H3 =>
      if b = true then te τ2 H3 fun y H4 => ∃ ys, H4 D = some (.lst ys) ∧ ys.length < sizeLine ∧ Pv (i + 1) τ2 (upd H4 D (.lst (ys ++ [y]))) else Pv (i + 1) τ2 H3)
    (hd : ∀ τ H, Pv n τ H → Q (.ref D) H) : CompW (Itr lo n) D τ H g tt te Q := by
  refine ⟨fun i m τ H => m = n - i ∧ i ≤ n ∧ Pv i τ H, ⟨n, by simp, Nat.zero_le _, h0⟩, ?_⟩
  rintro i m τ H ⟨rfl, hi, p⟩
  by_cases hlt : i < n
  · refine .inr ⟨hlt, Pv (i + 1), fun τ' H' p' => ⟨n - (i + 1), by omega, rfl, hlt, p'⟩, fun x H' y => ?_⟩
    obtain ⟨e, y⟩ := y
    subst e y
    exact hs i τ _ hlt p
  · have e : i = n := by omega
    subst e
    exact .inl ⟨Nat.le_refl _, hd τ H p⟩
end
end L2

/-! ### plain data: None, bools, ints, texts, lists and tuples of these; == and != of them -/
namespace L2
open PySem PySem.Spec PyProof.Rows PySem.SeqAt

inductive Dt where
  | non | bl (b : Bool) | int (i : Int) | str (x : Str) | lst (xs : List Dt) | tup (xs : List Dt)

mutual
/-- the value x stands for the datum -/
def DtV (K : PySem.W.Frag) (H : Hp) : Dt → V → Prop
  | .non, x => x = .non
  | .bl b, x => x = .bl b
  | .int i, x => x = .int i
  | .str z, x => x = .str z
  | .lst ds, x => ∃ a xs, x = .ref a ∧ SqL K H a xs ∧ DtVs K H ds xs
  | .tup ds, x => ∃ a xs, x = .ref a ∧ SqT K H a xs ∧ DtVs K H ds xs
def DtVs (K : PySem.W.Frag) (H : Hp) : List Dt → List V → Prop
  | [], xs => xs = []
  | d :: ds, xs => ∃ y ys, xs = y :: ys ∧ DtV K H d y ∧ DtVs K H ds ys
end
mutual
/-- how deep, at most -/
def DeepLe : Nat → Dt → Prop
  | n + 1, .lst ds => DeepsLe n ds
  | n + 1, .tup ds => DeepsLe n ds
  | 0, .lst _ => False
  | 0, .tup _ => False
  | _, .non => True
  | _, .bl _ => True
  | _, .int _ => True
  | _, .str _ => True
def DeepsLe : Nat → List Dt → Prop
  | _, [] => True
  | n, d :: ds => DeepLe n d ∧ DeepsLe n ds
end
mutual
def eqD : Dt → Dt → Bool
  | .non, .non => true
  | .bl a, .bl b => a == b
  | .bl a, .int b => (if a then 1 else 0) == b
  | .int a, .bl b => a == (if b then 1 else 0)
  | .int a, .int b => a == b
  | .str a, .str b => a == b
  | .lst xs, .lst ys => eqDs xs ys
  | .tup xs, .tup ys => eqDs xs ys
  | _, _ => false
def eqDs : List Dt → List Dt → Bool
  | [], [] => true
  | x :: xs, y :: ys => eqD x y && eqDs xs ys
  | _, _ => false
end
mutual
theorem eqD_refl : ∀ d : Dt, eqD d d = true
  | .non => rfl
  | .bl b => by simp [eqD]
  | .int i => by simp [eqD]
  | .str x => by simp [eqD]
  | .lst xs => by
    rw [eqD]
    exact eqDs_refl xs
  | .tup xs => by
    rw [eqD]
    exact eqDs_refl xs
theorem eqDs_refl : ∀ ds : List Dt, eqDs ds ds = true
  | [] => rfl
  | d :: ds => by rw [eqDs, eqD_refl d, eqDs_refl ds]; rfl
end
theorem DtVs.length {K : PySem.W.Frag} {H : Hp} : ∀ {ds : List Dt} {xs : List V}, DtVs K H ds xs → ds.length = xs.length
  | [], xs, h => by
    have e : xs = [] := h
    subst e
    rfl
  | d :: ds, xs, h => by
    obtain ⟨y, ys, e, _, h2⟩ := h
    subst e
    simp [DtVs.length h2]
theorem DtVs.get {K : PySem.W.Frag} {H : Hp} : ∀ {ds : List Dt} {xs : List V} {j : Nat} {d : Dt}, DtVs K H ds xs → ds[j]? = some d → ∃ x, xs[j]? = some x ∧ DtV K H d x
  | [], _, _, _, _, e => by simp at e
  | d :: ds, xs, j, d', h, e => by
    obtain ⟨y, ys, e2, h1, h2⟩ := h
    subst e2
    cases j with
    | zero =>
      simp at e
      subst e
      exact ⟨y, rfl, h1⟩
    | succ j =>
      obtain ⟨x, hx, hd⟩ := DtVs.get (j := j) h2 (by simpa using e)
      exact ⟨x, by simpa using hx, hd⟩
theorem DtVs.snoc {K : PySem.W.Frag} {H : Hp} {d : Dt} {x : V} (hd : DtV K H d x) : ∀ {ds : List Dt} {xs : List V}, DtVs K H ds xs → DtVs K H (ds ++ [d]) (xs ++ [x])
  | [], xs, h => by
    have e : xs = [] := h
    subst e
    exact ⟨x, [], rfl, hd, rfl⟩
  | e :: ds, xs, h => by
    obtain ⟨y, ys, e2, h1, h2⟩ := h
    subst e2
    exact ⟨y, ys ++ [x], rfl, h1, h2.snoc hd⟩
theorem DtVs.append {K : PySem.W.Frag} {H : Hp} {es : List Dt} {zs : List V} (hd : DtVs K H es zs) : ∀ {ds : List Dt} {xs : List V}, DtVs K H ds xs → DtVs K H (ds ++ es) (xs ++ zs)
  | [], xs, h => by
    have e : xs = [] := h
    subst e
    exact hd
  | e :: ds, xs, h => by
    obtain ⟨y, ys, e2, h1, h2⟩ := h
    subst e2
    exact ⟨y, ys ++ zs, rfl, h1, DtVs.append hd h2⟩
theorem DeepsLe.get {n : Nat} : ∀ {ds : List Dt} {j : Nat} {d : Dt}, DeepsLe n ds → ds[j]? = some d → DeepLe n d
  | [], _, _, _, e => by simp at e
  | d :: ds, j, d', h, e => by
    cases j with
    | zero =>
      simp at e
      subst e
      exact h.1
    | succ j => exact DeepsLe.get (j := j) h.2 (by simpa using e)
theorem DeepsLe.of {n : Nat} : ∀ {ds : List Dt}, (∀ d ∈ ds, DeepLe n d) → DeepsLe n ds
  | [], _ => trivial
  | d :: ds, h => ⟨h d List.mem_cons_self, DeepsLe.of fun e he => h e (List.mem_cons_of_mem _ he)⟩
/-- what was tracked is as it was: the data stand -/
theorem Same.sqL {K : PySem.W.Frag} {H H' : Hp} {a : Addr} {xs : List V} (e : Same H H') (h : SqL K H a xs) : SqL K H' a xs := e.seq h
theorem Same.sqT {K : PySem.W.Frag} {H H' : Hp} {a : Addr} {xs : List V} (e : Same H H') (h : SqT K H a xs) : SqT K H' a xs := by
  rcases h with (h | ⟨o, h⟩) | h
  · exact .inl (.inl (e _ _ h))
  · exact .inl (.inr ⟨o, e _ _ h⟩)
  · exact .inr h
mutual
theorem Same.dt {K : PySem.W.Frag} {H H' : Hp} (e : Same H H') : ∀ {d : Dt} {x : V}, DtV K H d x → DtV K H' d x
  | .non, _, h => h
  | .bl _, _, h => h
  | .int _, _, h => h
  | .str _, _, h => h
  | .lst ds, _, h => by
    obtain ⟨a, xs, e1, h1, h2⟩ := h
    exact ⟨a, xs, e1, e.sqL h1, e.dts h2⟩
  | .tup ds, _, h => by
    obtain ⟨a, xs, e1, h1, h2⟩ := h
    exact ⟨a, xs, e1, e.sqT h1, e.dts h2⟩
theorem Same.dts {K : PySem.W.Frag} {H H' : Hp} (e : Same H H') : ∀ {ds : List Dt} {xs : List V}, DtVs K H ds xs → DtVs K H' ds xs
  | [], _, h => h
  | d :: ds, _, h => by
    obtain ⟨y, ys, e1, h1, h2⟩ := h
    exact ⟨y, ys, e1, e.dt h1, e.dts h2⟩
end
theorem Same.new {H : Hp} {p : Addr} {o : HO} (h : H p = none) : Same H (upd H p o) := fun b u e => by
  rw [upd_ne (ne_of_none e h)]
  exact e

section
variable {X : Cx} {pins : List (Addr × Obj)} {σ : St} {H : Hp} {s : Shared}
theorem Inv.notBoth (I : Inv X pins σ H s) {a : Addr} {xs ys : List V} (h : SqL X.K H a xs) (h' : SqT X.K H a ys) : False := by
  obtain ⟨its, _, pl, _⟩ := I.list h
  obtain ⟨its', _, pt, _⟩ := I.tuple h'
  obtain ⟨o, n, e, c, _⟩ := pl
  obtain ⟨o', e', c', _⟩ := pt
  rw [e] at e'
  cases e'
  rw [c] at c'
  exact absurd c' (by simp)
mutual
theorem Inv.dtUniq (I : Inv X pins σ H s) : ∀ {d e : Dt} {x : V}, DtV X.K H d x → DtV X.K H e x → d = e
  | .non, e, _, h, h' => by
    have h : _ = V.non := h
    subst h
    cases e with
    | non => rfl
    | bl _ => exact nomatch (show V.non = _ from h')
    | int _ => exact nomatch (show V.non = _ from h')
    | str _ => exact nomatch (show V.non = _ from h')
    | lst _ => obtain ⟨_, _, q, _⟩ := h'; cases q
    | tup _ => obtain ⟨_, _, q, _⟩ := h'; cases q
  | .bl b, e, _, h, h' => by
    have h : _ = V.bl b := h
    subst h
    cases e with
    | non => exact nomatch (show V.bl b = _ from h')
    | bl c =>
      have q : V.bl b = V.bl c := h'
      cases q
      rfl
    | int _ => exact nomatch (show V.bl b = _ from h')
    | str _ => exact nomatch (show V.bl b = _ from h')
    | lst _ => obtain ⟨_, _, q, _⟩ := h'; cases q
    | tup _ => obtain ⟨_, _, q, _⟩ := h'; cases q
  | .int b, e, _, h, h' => by
    have h : _ = V.int b := h
    subst h
    cases e with
    | non => exact nomatch (show V.int b = _ from h')
    | bl c => exact nomatch (show V.int b = _ from h')
    | int c =>
      have q : V.int b = V.int c := h'
      cases q
      rfl
    | str _ => exact nomatch (show V.int b = _ from h')
    | lst _ => obtain ⟨_, _, q, _⟩ := h'; cases q
    | tup _ => obtain ⟨_, _, q, _⟩ := h'; cases q
  | .str b, e, _, h, h' => by
    have h : _ = V.str b := h
    subst h
    cases e with
    | non => exact nomatch (show V.str b = _ from h')
    | bl c => exact nomatch (show V.str b = _ from h')
    | int _ => exact nomatch (show V.str b = _ from h')
    | str c =>
      have q : V.str b = V.str c := h'
      cases q
      rfl
    | lst _ => obtain ⟨_, _, q, _⟩ := h'; cases q
    | tup _ => obtain ⟨_, _, q, _⟩ := h'; cases q
  | .lst ds, e, _, h, h' => by
    obtain ⟨a, xs, e1, h1, h2⟩ := h
    subst e1
    cases e with
    | non => exact nomatch (show V.ref a = _ from h')
    | bl c => exact nomatch (show V.ref a = _ from h')
    | int _ => exact nomatch (show V.ref a = _ from h')
    | str _ => exact nomatch (show V.ref a = _ from h')
    | lst es =>
      obtain ⟨b, ys, e2, h3, h4⟩ := h'
      cases e2
      have q := I.list_inj h1 h3
      subst q
      rw [I.dtsUniq h2 h4]
    | tup es =>
      obtain ⟨b, ys, e2, h3, h4⟩ := h'
      cases e2
      exact (I.notBoth h1 h3).elim
  | .tup ds, e, _, h, h' => by
    obtain ⟨a, xs, e1, h1, h2⟩ := h
    subst e1
    cases e with
    | non => exact nomatch (show V.ref a = _ from h')
    | bl c => exact nomatch (show V.ref a = _ from h')
    | int _ => exact nomatch (show V.ref a = _ from h')
    | str _ => exact nomatch (show V.ref a = _ from h')
    | lst es =>
      obtain ⟨b, ys, e2, h3, h4⟩ := h'
      cases e2
      exact (I.notBoth h3 h1).elim
    | tup es =>
      obtain ⟨b, ys, e2, h3, h4⟩ := h'
      cases e2
      have q := I.tuple_inj h1 h3
      subst q
      rw [I.dtsUniq h2 h4]
theorem Inv.dtsUniq (I : Inv X pins σ H s) : ∀ {ds es : List Dt} {xs : List V}, DtVs X.K H ds xs → DtVs X.K H es xs → ds = es
  | [], es, _, h, h' => by
    have h : _ = [] := h
    subst h
    cases es with
    | nil => rfl
    | cons e es => obtain ⟨_, _, q, _⟩ := h'; cases q
  | d :: ds, es, _, h, h' => by
    obtain ⟨y, ys, e1, h1, h2⟩ := h
    subst e1
    cases es with
    | nil => exact nomatch (show y :: ys = [] from h')
    | cons e es =>
      obtain ⟨z, zs, q, h3, h4⟩ := h'
      cases q
      rw [I.dtUniq h1 h3, I.dtsUniq h2 h4]
end
def pairD (ds es : List Dt) (j : Nat) : Bool := eqD (ds.getD j .non) (es.getD j .non)
theorem eqDs_all : ∀ ds es : List Dt, ((List.range (min ds.length es.length)).all (pairD ds es) && ds.length == es.length) = eqDs ds es
  | [], [] => rfl
  | [], _ :: _ => by simp [eqDs]
  | _ :: _, [] => by simp [eqDs]
  | d :: ds, e :: es => by
    have ih := eqDs_all ds es
    have e1 : min (d :: ds).length (e :: es).length = min ds.length es.length + 1 := by simp only [List.length_cons]; omega
    have e2 : ((d :: ds).length == (e :: es).length) = (ds.length == es.length) := by simp
    have e3 : (List.range (min ds.length es.length + 1)).all (pairD (d :: ds) (e :: es)) = (eqD d e && (List.range (min ds.length es.length)).all (pairD ds es)) := by
      rw [List.range_succ_eq_map, List.all_cons, List.all_map]
      rfl
    rw [e1, e2, e3, eqDs, ← ih, Bool.and_assoc]
theorem eqDs_len {ds es : List Dt} (h : ds.length = es.length) : (List.range ds.length).all (pairD ds es) = eqDs ds es := by
  have := eqDs_all ds es
  rw [← h, Nat.min_self] at this
  simpa using this
theorem eqDs_nolen {ds es : List Dt} (h : ds.length ≠ es.length) : eqDs ds es = false := by
  rw [← eqDs_all ds es]
  simp [h]
end
section
variable {X : Cx} {pins : List (Addr × Obj)} {σ : St} {H : Hp} {s : Shared}
theorem Inv.isL (I : Inv X pins σ H s) {a : Addr} {xs : List V} (h : SqL X.K H a xs) : ∃ its : List Value, Vals xs its ∧ s.heap.IsList a its.toArray :=
  let ⟨its, r, pl, _⟩ := I.list h
  ⟨its, r, pl.isList⟩
theorem Inv.isT (I : Inv X pins σ H s) {a : Addr} {xs : List V} (h : SqT X.K H a xs) : ∃ its : List Value, Vals xs its ∧ s.heap.IsTuple a its.toArray :=
  let ⟨its, r, pt, _⟩ := I.tuple h
  ⟨its, r, pt⟩
theorem pairD_get {ds es : List Dt} {j : Nat} {d e : Dt} (h1 : ds[j]? = some d) (h2 : es[j]? = some e) : pairD ds es j = eqD d e := by
  unfold pairD
  rw [List.getD_eq_getElem?_getD, List.getD_eq_getElem?_getD, h1, h2]
  rfl
theorem get_of {α : Type} {l : List α} {j : Nat} (h : j < l.length) : ∃ x, l[j]? = some x := ⟨l[j], by simp [h]⟩
mutual
theorem Inv.eqAt (I : Inv X pins σ H s) : ∀ {d e : Dt} {x y : V} {u v : Value} {n : Nat} {A : Around}, DtV X.K H d x → DtV X.K H e y → RelV x u → RelV y v → DeepLe n d → A.units + n < cLine → EqAt A s u v (eqD d e)
  | .non, e, x, y, u, v, n, A, h, h', rx, ry, _, hu => by
    have hu : A.units < cLine := Nat.lt_of_le_of_lt (Nat.le_add_right _ _) hu
    have h : x = V.non := h
    subst h
    cases e with
    | non =>
      have h' : y = V.non := h'
      subst h'
      exact eqAt_V rx ry rfl rfl
    | bl c =>
      have h' : y = V.bl c := h'
      subst h'
      exact eqAt_V rx ry rfl rfl
    | int c =>
      have h' : y = V.int c := h'
      subst h'
      exact eqAt_V rx ry rfl rfl
    | str c =>
      have h' : y = V.str c := h'
      subst h'
      exact eqAt_V rx ry rfl rfl
    | lst es =>
      obtain ⟨a, ys, rfl, h1, _⟩ := h'
      obtain rfl : v = Value.ref a := ry
      obtain ⟨its, _, hl⟩ := I.isL h1
      obtain rfl : u = Value.none := rx
      exact EqAt.none_list hl hu
    | tup es =>
      obtain ⟨a, ys, rfl, h1, _⟩ := h'
      obtain rfl : v = Value.ref a := ry
      obtain ⟨its, _, hl⟩ := I.isT h1
      obtain rfl : u = Value.none := rx
      exact EqAt.none_tuple hl hu
  | .bl b, e, x, y, u, v, n, A, h, h', rx, ry, _, hu => by
    have hu : A.units < cLine := Nat.lt_of_le_of_lt (Nat.le_add_right _ _) hu
    have h : x = V.bl b := h
    subst h
    cases e with
    | non =>
      have h' : y = V.non := h'
      subst h'
      exact eqAt_V rx ry rfl rfl
    | bl c =>
      have h' : y = V.bl c := h'
      subst h'
      exact eqAt_V rx ry rfl rfl
    | int c =>
      have h' : y = V.int c := h'
      subst h'
      exact eqAt_V rx ry rfl rfl
    | str c =>
      have h' : y = V.str c := h'
      subst h'
      exact eqAt_V rx ry rfl rfl
    | lst es =>
      obtain ⟨a, ys, rfl, h1, _⟩ := h'
      obtain rfl : v = Value.ref a := ry
      obtain ⟨its, _, hl⟩ := I.isL h1
      obtain rfl : u = Value.bool b := rx
      exact EqAt.bool_list b hl hu
    | tup es =>
      obtain ⟨a, ys, rfl, h1, _⟩ := h'
      obtain rfl : v = Value.ref a := ry
      obtain ⟨its, _, hl⟩ := I.isT h1
      obtain rfl : u = Value.bool b := rx
      exact EqAt.bool_tuple b hl hu
  | .int b, e, x, y, u, v, n, A, h, h', rx, ry, _, hu => by
    have hu : A.units < cLine := Nat.lt_of_le_of_lt (Nat.le_add_right _ _) hu
    have h : x = V.int b := h
    subst h
    cases e with
    | non =>
      have h' : y = V.non := h'
      subst h'
      exact eqAt_V rx ry rfl rfl
    | bl c =>
      have h' : y = V.bl c := h'
      subst h'
      exact eqAt_V rx ry rfl rfl
    | int c =>
      have h' : y = V.int c := h'
      subst h'
      exact eqAt_V rx ry rfl rfl
    | str c =>
      have h' : y = V.str c := h'
      subst h'
      exact eqAt_V rx ry rfl rfl
    | lst es =>
      obtain ⟨a, ys, rfl, h1, _⟩ := h'
      obtain rfl : v = Value.ref a := ry
      obtain ⟨its, _, hl⟩ := I.isL h1
      obtain ⟨t, rfl⟩ := rx
      exact EqAt.int_list b t hl hu
    | tup es =>
      obtain ⟨a, ys, rfl, h1, _⟩ := h'
      obtain rfl : v = Value.ref a := ry
      obtain ⟨its, _, hl⟩ := I.isT h1
      obtain ⟨t, rfl⟩ := rx
      exact EqAt.int_tuple b t hl hu
  | .str b, e, x, y, u, v, n, A, h, h', rx, ry, _, hu => by
    have hu : A.units < cLine := Nat.lt_of_le_of_lt (Nat.le_add_right _ _) hu
    have h : x = V.str b := h
    subst h
    cases e with
    | non =>
      have h' : y = V.non := h'
      subst h'
      exact eqAt_V rx ry rfl rfl
    | bl c =>
      have h' : y = V.bl c := h'
      subst h'
      exact eqAt_V rx ry rfl rfl
    | int c =>
      have h' : y = V.int c := h'
      subst h'
      exact eqAt_V rx ry rfl rfl
    | str c =>
      have h' : y = V.str c := h'
      subst h'
      exact eqAt_V rx ry rfl rfl
    | lst es =>
      obtain ⟨a, ys, rfl, h1, _⟩ := h'
      obtain rfl : v = Value.ref a := ry
      obtain ⟨its, _, hl⟩ := I.isL h1
      obtain ⟨t, rfl⟩ := rx
      exact EqAt.str_list b t hl hu
    | tup es =>
      obtain ⟨a, ys, rfl, h1, _⟩ := h'
      obtain rfl : v = Value.ref a := ry
      obtain ⟨its, _, hl⟩ := I.isT h1
      obtain ⟨t, rfl⟩ := rx
      exact EqAt.str_tuple b t hl hu
  | .lst ds, e, x, y, u, v, n, A, h, h', rx, ry, hd, hu => by
    obtain ⟨a, xs, rfl, g1, g2⟩ := h
    obtain rfl : u = Value.ref a := rx
    obtain ⟨its, rv, hl⟩ := I.isL g1
    cases n with
    | zero => exact False.elim hd
    | succ n =>
    have hu0 : A.units < cLine := Nat.lt_of_le_of_lt (Nat.le_add_right _ _) hu
    cases e with
    | non =>
      have h' : y = V.non := h'
      subst h'
      obtain rfl : v = Value.none := ry
      exact EqAt.list_none hl hu0
    | bl c =>
      have h' : y = V.bl c := h'
      subst h'
      obtain rfl : v = Value.bool c := ry
      exact EqAt.list_bool c hl hu0
    | int c =>
      have h' : y = V.int c := h'
      subst h'
      obtain ⟨t, rfl⟩ := ry
      exact EqAt.list_int c t hl hu0
    | str c =>
      have h' : y = V.str c := h'
      subst h'
      obtain ⟨t, rfl⟩ := ry
      exact EqAt.list_str c t hl hu0
    | tup es =>
      obtain ⟨b, ys, rfl, h1, _⟩ := h'
      obtain rfl : v = Value.ref b := ry
      obtain ⟨its', _, hl'⟩ := I.isT h1
      exact EqAt.list_tuple hl hl' hu0
    | lst es =>
      obtain ⟨b, ys, rfl, h1, h2⟩ := h'
      obtain rfl : v = Value.ref b := ry
      obtain ⟨its', rv', hl'⟩ := I.isL h1
      show EqAt A s (.ref a) (.ref b) (eqDs ds es)
      by_cases hab : a = b
      · subst hab
        have e : Dt.lst ds = Dt.lst es := I.dtUniq ⟨a, xs, rfl, g1, g2⟩ ⟨a, ys, rfl, h1, h2⟩
        injection e with e
        subst e
        rw [eqDs_refl]
        exact EqAt.same _
      · have n1 : ds.length = its.length := g2.length.trans rv.length
        have n2 : es.length = its'.length := h2.length.trans rv'.length
        have items : ∀ j (h1 : j < its.toArray.size) (h2 : j < its'.toArray.size), EqAt A.in1 s its.toArray[j] its'.toArray[j] (pairD ds es j) := fun j j1 j2 => by
          have j1 : j < its.length := by simpa using j1
          have j2 : j < its'.length := by simpa using j2
          obtain ⟨d', hd'⟩ := get_of (l := ds) (j := j) (by omega)
          obtain ⟨e', he'⟩ := get_of (l := es) (j := j) (by omega)
          obtain ⟨x', hx', kx⟩ := g2.get hd'
          obtain ⟨y', hy', ky⟩ := h2.get he'
          obtain ⟨u', hu', ru⟩ := rv.get hx'
          obtain ⟨v', hv', rv2⟩ := rv'.get hy'
          have q1 : its.toArray[j] = u' := by
            have := List.getElem?_eq_some_iff.mp hu'
            simpa using this.2
          have q2 : its'.toArray[j] = v' := by
            have := List.getElem?_eq_some_iff.mp hv'
            simpa using this.2
          rw [q1, q2, pairD_get hd' he']
          exact Inv.eqAtI I ds j hd' kx ky ru rv2 (DeepsLe.get hd hd') (show A.units + 1 + n < cLine by omega)
        by_cases hsz : its.toArray.size = its'.toArray.size
        · have hsz' : ds.length = es.length := by simpa [n1, n2] using hsz
          rw [← eqDs_len hsz', n1, ← List.size_toArray]
          exact EqAt.of_refs hab (RcAt.lists hl hl' hsz hu0 items)
        · rw [eqDs_nolen (by simpa [n1, n2] using hsz)]
          exact EqAt.of_refs hab (RcAt.lists_lengths hl hl' (by simpa using hsz) hu0)
  | .tup ds, e, x, y, u, v, n, A, h, h', rx, ry, hd, hu => by
    obtain ⟨a, xs, rfl, g1, g2⟩ := h
    obtain rfl : u = Value.ref a := rx
    obtain ⟨its, rv, hl⟩ := I.isT g1
    cases n with
    | zero => exact False.elim hd
    | succ n =>
    have hu0 : A.units < cLine := Nat.lt_of_le_of_lt (Nat.le_add_right _ _) hu
    cases e with
    | non =>
      have h' : y = V.non := h'
      subst h'
      obtain rfl : v = Value.none := ry
      exact EqAt.tuple_none hl hu0
    | bl c =>
      have h' : y = V.bl c := h'
      subst h'
      obtain rfl : v = Value.bool c := ry
      exact EqAt.tuple_bool c hl hu0
    | int c =>
      have h' : y = V.int c := h'
      subst h'
      obtain ⟨t, rfl⟩ := ry
      exact EqAt.tuple_int c t hl hu0
    | str c =>
      have h' : y = V.str c := h'
      subst h'
      obtain ⟨t, rfl⟩ := ry
      exact EqAt.tuple_str c t hl hu0
    | lst es =>
      obtain ⟨b, ys, rfl, h1, _⟩ := h'
      obtain rfl : v = Value.ref b := ry
      obtain ⟨its', _, hl'⟩ := I.isL h1
      exact EqAt.tuple_list hl hl' hu0
    | tup es =>
      obtain ⟨b, ys, rfl, h1, h2⟩ := h'
      obtain rfl : v = Value.ref b := ry
      obtain ⟨its', rv', hl'⟩ := I.isT h1
      show EqAt A s (.ref a) (.ref b) (eqDs ds es)
      by_cases hab : a = b
      · subst hab
        have e : Dt.tup ds = Dt.tup es := I.dtUniq ⟨a, xs, rfl, g1, g2⟩ ⟨a, ys, rfl, h1, h2⟩
        injection e with e
        subst e
        rw [eqDs_refl]
        exact EqAt.same _
      · have n1 : ds.length = its.length := g2.length.trans rv.length
        have n2 : es.length = its'.length := h2.length.trans rv'.length
        have items : ∀ j (h1 : j < its.toArray.size) (h2 : j < its'.toArray.size), EqAt A.in1 s its.toArray[j] its'.toArray[j] (pairD ds es j) := fun j j1 j2 => by
          have j1 : j < its.length := by simpa using j1
          have j2 : j < its'.length := by simpa using j2
          obtain ⟨d', hd'⟩ := get_of (l := ds) (j := j) (by omega)
          obtain ⟨e', he'⟩ := get_of (l := es) (j := j) (by omega)
          obtain ⟨x', hx', kx⟩ := g2.get hd'
          obtain ⟨y', hy', ky⟩ := h2.get he'
          obtain ⟨u', hu', ru⟩ := rv.get hx'
          obtain ⟨v', hv', rv2⟩ := rv'.get hy'
          have q1 : its.toArray[j] = u' := by
            have := List.getElem?_eq_some_iff.mp hu'
            simpa using this.2
          have q2 : its'.toArray[j] = v' := by
            have := List.getElem?_eq_some_iff.mp hv'
            simpa using this.2
          rw [q1, q2, pairD_get hd' he']
          exact Inv.eqAtI I ds j hd' kx ky ru rv2 (DeepsLe.get hd hd') (show A.units + 1 + n < cLine by omega)
        have q := EqAt.of_refs hab (RcAt.tuples hl hl' hu0 items)
        rw [← eqDs_all ds es, n1, n2]
        simpa using q
theorem Inv.eqAtI (I : Inv X pins σ H s) : ∀ (ds : List Dt) (j : Nat) {d e : Dt} {x y : V} {u v : Value} {n : Nat} {A : Around}, ds[j]? = some d → DtV X.K H d x → DtV X.K H e y → RelV x u → RelV y v → DeepLe n d → A.units + n < cLine → EqAt A s u v (eqD d e)
  | [], j, _, _, _, _, _, _, _, _, h, _, _, _, _, _, _ => by simp at h
  | c :: _, 0, d, e, x, y, u, v, n, A, h, hx, hy, ru, rv, hd, hu => by
    simp at h
    subst h
    exact Inv.eqAt I hx hy ru rv hd hu
  | _ :: cs, j + 1, d, e, x, y, u, v, n, A, h, hx, hy, ru, rv, hd, hu => Inv.eqAtI I cs j (by simpa using h) hx hy ru rv hd hu
end
theorem Inv.items (I : Inv X pins σ H s) {ds es : List Dt} {xs ys : List V} {its its' : List Value} {n : Nat} {A : Around} (g2 : DtVs X.K H ds xs) (h2 : DtVs X.K H es ys) (rv : Vals xs its) (rv' : Vals ys its') (hd : DeepsLe n ds)
    (hu : A.units + 1 + n < cLine) : ∀ j (h1 : j < its.toArray.size) (h2 : j < its'.toArray.size), EqAt A.in1 s its.toArray[j] its'.toArray[j] (pairD ds es j) := fun j j1 j2 => by
  have n1 : ds.length = its.length := g2.length.trans rv.length
  have n2 : es.length = its'.length := h2.length.trans rv'.length
  have j1 : j < its.length := by simpa using j1
  have j2 : j < its'.length := by simpa using j2
  obtain ⟨d', hd'⟩ := get_of (l := ds) (j := j) (by omega)
  obtain ⟨e', he'⟩ := get_of (l := es) (j := j) (by omega)
  obtain ⟨x', hx', kx⟩ := g2.get hd'
  obtain ⟨y', hy', ky⟩ := h2.get he'
  obtain ⟨u', hu', ru⟩ := rv.get hx'
  obtain ⟨v', hv', rv2⟩ := rv'.get hy'
  have q1 : its.toArray[j] = u' := by
    have := List.getElem?_eq_some_iff.mp hu'
    simpa using this.2
  have q2 : its'.toArray[j] = v' := by
    have := List.getElem?_eq_some_iff.mp hv'
    simpa using this.2
  rw [q1, q2, pairD_get hd' he']
  exact I.eqAt kx ky ru rv2 (DeepsLe.get hd hd') hu
/-- lists or tuples -/
def isBox : Dt → Bool
  | .lst _ => true
  | .tup _ => true
  | _ => false
/-- x == y, x != y of two lists or tuples -/
def rEqD (K : PySem.W.Frag) (neg : Bool) : R2 := fun x y H Q => ∃ d e, isBox d = true ∧ isBox e = true ∧ DtV K H d x ∧ DtV K H e y ∧ DeepLe 60 d ∧ Q (.bl (if neg then !eqD d e else eqD d e)) H
end
end L2

/-! ### isinstance, join, and their like -/
namespace L2
open PySem PySem.Spec PyProof.Rows
section
variable {X : Cx}
/-- a class as it is handed to isinstance -/
def clsOf : V → Option Value
  | .ref a => some (.ref a)
  | .ty n => some (.type n)
  | _ => none
theorem clsOf_rel {c : V} {u k : Value} (r : RelV c u) (e : clsOf c = some k) : u = k := by
  cases c with
  | ref a =>
    cases e
    exact r
  | ty n =>
    cases e
    exact r
  | _ => cases e
/-- isinstance(x, c), c one class -/
theorem call_isinst : CallR X (.builtin "isinstance") (fun xs H Q => ∃ x c k t b, xs = [x, c] ∧ clsOf c = some k ∧ TyOf X.K H x t ∧ PySem.W.kitOne X.K t k = some b ∧ Q (.bl b) H) := by
  intro pins s σ H xs us Q I r h
  obtain ⟨x, c, k, t, b, rfl, ec, ty, eb, q⟩ := h
  obtain ⟨u, v, rfl, rx, rc⟩ := vals2 r
  have e := clsOf_rel rc ec
  subst e
  exact isinst_ok I rx ty eb fun tk => ⟨.bl b, H, I.tok tk, rfl, q⟩
def rJoin (K : PySem.W.Frag) : V → List V → Hp → VK → Prop := fun x vs H Q => ∃ z a ys, x = .str z ∧ vs = [.ref a] ∧ SqL K H a (ys.map V.str) ∧ (ys.map (·.length)).sum + ys.length * z.length ≤ 16777216 ∧ Q (.str (Txt.join z ys)) H
end
end L2

/-! ### exceptions: an object that flies, is noted, lands; how it lies behind a call -/
namespace L2
open PySem PySem.Spec PyProof.Rows

/-- what stands at a: an exception of class c, its own dict dd, its contexts; tb: its newest traceback entry and what that says of flight -/
structure ExcAt (H : Hp) (h : Heap) (a : Addr) (c : Value) (dd : Option Addr) (tb : Option (Addr × Value)) : Prop where
  ob : ∃ o vs, h.get? a = some o ∧ o.cls = c ∧ o.dict = dd ∧ o.data = .fields vs ∧ vs.size = 6 ∧ (∃ cs, ChnH H cs ∧ vs[2]? = some (nxt cs 0)) ∧ vs[1]? = some (match tb with | none => .none | some p => .ref p.1)
  tr : ∀ p, tb = some p → p.1 ≠ a ∧ ∃ oT ts, h.get? p.1 = some oT ∧ oT.data = .fields ts ∧ ts[3]? = some p.2
/-- .. and nobody tracks it -/
structure Exc (X : Cx) (pins : List (Addr × Obj)) (H : Hp) (h : Heap) (a : Addr) (c : Value) (dd : Option Addr) (tb : Option (Addr × Value)) : Prop where
  fp : FpOk X pins H a
  fpT : ∀ p, tb = some p → FpOk X pins H p.1
  at_ : ExcAt H h a c dd tb

section
variable {X : Cx} {pins : List (Addr × Obj)} {σ : St} {H : Hp} {s : Shared} {a : Addr} {c : Value} {dd : Option Addr}
/-- the frames' slots and the records at ch have turned, all else is as it was -/
theorem Inv.slot0 {h' : Heap} {ch : List Addr} {tk : Nat} (I : Inv X pins σ H s) (hch : ∀ b ∈ ch, FpOk X pins H b) (keep : ∀ b o, b ∉ frs X.stack → b ∉ ch → s.heap.get? b = some o → h'.get? b = some o)
    (slot : ∀ b o, b ∈ frs X.stack → s.heap.get? b = some o → ∃ sl, h'.get? b = some { o with slots := sl }) : Inv X pins σ H { s with heap := h', toks := tk } := by
  have any : ∀ b o, b ∉ ch → s.heap.get? b = some o → ∃ sl, h'.get? b = some { o with slots := sl } := fun b o hc e => by
    by_cases hb : b ∈ frs X.stack
    · exact slot b o hb e
    · exact ⟨o.slots, keep b o hb hc e⟩
  have sub : ∀ b, b ∈ frs X.stack → b = X.env.locals ∨ b ∈ X.fs := fun b hb => List.mem_cons.mp (I.stkSub b hb)
  refine I.step (g' := s.gens) (d' := s.drawn) (ch := ch) (fun b hb => ?_) (fun b o hL hf hc e _ => keep b o (fun z => (sub b z).elim hL hf) hc e) (fun b o _ _ hc e _ => any b o hc e) (fun _ _ _ _ n => n) (fun b o hc e => ?_)
    (fun _ _ e => e) (fun _ _ _ e => e) (fun b ps e => ⟨#[], by rw [e]; simp⟩) (fun m hm => ?_) (fun b u e => ?_) I.bare
  · obtain ⟨_, f1, _, f3, f4, f5⟩ := hch b hb
    exact ⟨f3, f1, f4, f5⟩
  · obtain ⟨sl, q⟩ := any b o hc e
    exact ⟨_, q⟩
  · obtain ⟨o, es, ep, ho, r⟩ := hm
    obtain ⟨sl, q⟩ := any _ o (fun z => (hch _ z).2.1 rfl) ho
    exact ⟨_, es, ep, q, r⟩
  · have nf : ∀ d v, H d = some v → d ∉ frs X.stack ∧ d ∉ ch := fun d v q => ⟨fun z => (by rw [I.stkFree d z] at q; cases q), fun z => (by rw [(hch d z).1] at q; cases q)⟩
    refine (I.hok b u e).stay (fun d v hd q => ?_) (fun _ q => q) fun _ _ q => q
    rcases hd with z | z
    · subst z
      exact keep d v (nf d _ e).1 (nf d _ e).2 q
    · exact keep d v (nf d _ z).1 (nf d _ z).2 q
theorem Inv.slots {h' : Heap} {ch : List Addr} {tk : Nat} (I : Inv X pins σ H s) (hch : ∀ b ∈ ch, FpOk X pins H b) (keep : ∀ b o, b ∉ frs X.stack → b ∉ ch → s.heap.get? b = some o → h'.get? b = some o)
    (slot : ∀ b o, b ∈ frs X.stack → s.heap.get? b = some o → ∃ sl, h'.get? b = some { o with slots := sl }) (_ : ∀ b ∈ ch, ∀ o, s.heap.get? b = some o → ∃ o', h'.get? b = some o') : Inv X pins σ H { s with heap := h', toks := tk } := I.slot0 hch keep slot
/-- a def's own body (not a comprehension's block) -/
def Body (X : Cx) : Prop := X.stack = X.env :: X.outer ∧ X.env.frame = some X.env.locals
end

/-- an exception behind a call: what it has left; E: what is wanted of its class, its dict and the heap -/
def CXe (P : Program) (w : World) : CXT := fun outer H s E e s' => ∃ a c dd T H', e = .ref a ∧ s'.os = s.os ∧ AllBare s'.gens ∧ Un (frs outer) [] H H' s.heap s'.heap ∧ HOk P w H' s'.heap ∧
  (s.heap.objs.size ≤ a ∧ H' a = none) ∧ (s.heap.objs.size ≤ T ∧ H' T = none) ∧ ExcAt H' s'.heap a c dd (some (T, .none)) ∧ E c dd H'
/-- what is wanted of an exception in this body: R, by the names' values -/
abbrev RK := St → XK
def PX (X : Cx) (R : RK) : Prop := ∀ (pins : List (Addr × Obj)) (σ : St) (H : Hp) (s : Shared) (a : Addr) (c : Value) (dd : Option Addr) (tb : Option Addr), Inv X pins σ H s → Exc X pins H s.heap a c dd (tb.map fun T => (T, Value.none)) → R σ c dd H → X.xe (.ref a) s
end L2

/-! ### exceptions of the program's own classes: made, raised -/
namespace L2
open PySem PySem.Spec PyProof.Rows

section
variable {prog : Program} {w : World} {A : Around} {E : Value → Shared → Prop} {h : Heap} {g : Array GenState} {d : Drawn} {t : Nat} {os : OsState}
variable {nm q : Str} {C N : Addr} {bs bm bmB : List Value} {hdct : Bool} {sn : List Str} {sub : List Value} {ab : Bool} {col : Option Bool} {dd : Option Addr} {k0 k1 k2 k3 k5 : Option Value} {B newId initId : String}
/-- the new exception as __new__ lays it -/
abbrev excNew (C t : Addr) : Obj := { cls := .ref C, data := .fields #[.ref t, .none, .none, .none, .bool false, .none] }
abbrev tupNew (rest : List Value) : Obj := { cls := .type "tuple", data := .seq rest.toArray }
end

/-- what the program's part tells of an exception class -/
def excAt (K : PySem.W.Frag) (C : Addr) (bmB : List Value) (newId : String) : Bool := match K.lookup C with
  | some ⟨.type "type", _, .cls cd, sl⟩ => (match cd.mro, sl.toList with
    | .ref C1 :: bm, [_, _, _, _, some (.builtin n), _] => C1 == C && n == newId && !cd.hasDel && PySem.W.tailIn K bmB bm
    | _, _ => false)
  | _ => false
/-- the class stands there -/
structure XCls (h : Heap) (C : Addr) (bmB bm : List Value) (newId : String) : Prop where
  obj : ∃ nm q N bs hdct sn sub ab col dd k0 k1 k2 k3 k5, h.get? C = some (excClassObj nm q C N bs bm hdct sn sub ab col dd k0 k1 k2 k3 k5 newId)
  tail : OwnTail h bmB bm
end L2

/-! ### an exception's own attributes -/
namespace L2
open PySem PySem.Spec PyProof.Rows PySem.Builtin.ObjectAttr
abbrev bmV : List Value := [.type "ValueError", .type "Exception", .type "BaseException", .type "object"]
/-- the classes of the program's own ahead of ValueError -/
def ownV : List Value → Bool
  | .ref _ :: r => ownV r
  | l => l == bmV
def ownVIn (K : PySem.W.Frag) (C : Addr) : Bool := (PySem.W.clsIn K C).any fun cd => ownV cd.mro
/-- what stores an attribute on an exception asks of its class -/
structure XSet (K : PySem.W.Frag) (C : Addr) (f : Str) : Prop where
  sa : PySem.W.findIn K (.ref C) "__setattr__" = some (some (.builtin "object.__setattr__"))
  ov : ownVIn K C = true
  tk : PySem.W.takerIn K C f = some none
  hd : PySem.W.hasDictIn K C = true
section
variable {prog : Program} {w : World} {A : Around} {E : Value → Shared → Prop} {s : Shared} {K : PySem.W.Frag} {C x : Addr} {name : Str} {v : Value} {vs : Array Value}
end
/-- what reads an attribute of an exception asks of its class -/
structure XGet (K : PySem.W.Frag) (C : Addr) (f : Str) : Prop where
  ga : PySem.W.findIn K (.ref C) "__getattribute__" = some (some (.builtin "BaseException.__getattribute__"))
  gt : PySem.W.findIn K (.ref C) "__getattr__" = some none
  ba : PySem.W.mroIn K C (.type "BaseException") = some true
  na : PySem.W.findIn K (.ref C) f = some none
  hd : PySem.W.hasDictIn K C = true
section
variable {prog : Program} {w : World} {A : Around} {E : Value → Shared → Prop} {s : Shared} {K : PySem.W.Frag} {C x dx : Addr} {name : Str} {v : Value} {o : Obj} {mA : Str → Option Value}
end
end L2

/-! ### raise -/
namespace L2
open PySem PySem.Spec PyProof.Rows
/-- nothing is said of a any more -/
def del (H : Hp) (a : Addr) : Hp := fun b => if b = a then none else H b
/-- an exception that its class is just making -/
def XObj (C t a : Addr) (dx : Option Addr) : HO := .ext fun h => h.get? a = some { cls := .ref C, dict := dx, data := .fields #[.ref t, .none, .none, .none, .bool false, .none] }
section
variable {X : Cx} {pins : List (Addr × Obj)} {σ : St} {H : Hp} {s : Shared}
end
/-- an exception class that has no __init__ of its own -/
structure XC0 (K : PySem.W.Frag) (C : Addr) : Prop where
  at_ : excAt K C bmV "ValueError.__new__" = true
  kp : PySem.W.keepIn K (.ref C) = true
  init : PySem.W.findIn K (.ref C) "__init__" = some (some (.builtin "ValueError.__init__"))
/-- .. that has one -/
structure XCI (K : PySem.W.Frag) (C f : Addr) : Prop where
  at_ : excAt K C bmV "ValueError.__new__" = true
  kp : PySem.W.keepIn K (.ref C) = true
  init : PySem.W.findIn K (.ref C) "__init__" = some (some (.ref f))
  fn : PySem.W.isFn K (.ref f) = true
def sRaise0 (C : Addr) (R : RK) (t : TA) : TS := fun _ σ H => t σ H fun vs H1 => vs.length ≤ sizeLine ∧ R σ (.ref C) none H1
def sRaiseI (C : Addr) (sp : Sp) (dvs : List V) (R : RK) (t : TA) : TS := fun _ σ H => t σ H fun vs H1 => vs.length ≤ sizeLine ∧ ∀ a t', H1 a = none →
  sp (.ref a :: (vs ++ dvs)) (upd H1 a (XObj C t' a none)) (fun v H2 => v = .non ∧ ∃ dx, H2 a = some (XObj C t' a dx) ∧ R σ (.ref C) dx (del H2 a)) (R σ)
section
variable {X : Cx} {R : RK} {C : Addr} {x : Str} {np cpos pos : Pos} {e : Expr} {es : List Expr} {t : TA}
variable {CX : CXT} {k : Nat} {f : Addr} {fd : FuncData} {ps : List Str} {sp : Sp} {dvs : List V} {ds : List Value}
/-- self.f = e in an exception's __init__ -/
def sFldX (K : PySem.W.Frag) (ta tv : TE) (f : Str) : TS := fun D σ H => tv σ H fun y H1 => ta σ H1 fun x H2 => ∃ a C t, x = .ref a ∧ H2 a = some (XObj C t a none) ∧ XSet K C f ∧
  ∀ dx, H2 dx = none → D.nx σ (upd (upd H2 dx (.xd [(f, y)])) a (XObj C t a (some dx)))
end
end L2

/-! ### isinstance of exceptions -/
namespace L2
open PySem PySem.Spec PyProof.Rows PySem.Builtin.ObjectAttr
/-- what isinstance asks of an exception's class -/
structure XIs (K : PySem.W.Frag) (C : Addr) : Prop where
  ga : PySem.W.findIn K (.ref C) "__getattribute__" = some (some (.builtin "BaseException.__getattribute__"))
  gt : PySem.W.findIn K (.ref C) "__getattr__" = some none
  ba : PySem.W.mroIn K C (.type "BaseException") = some true
  ob : PySem.W.mroIn K C (.type "object") = some true
  cl : PySem.W.findIn K (.ref C) "__class__" = some (some (.builtin "object.__class__"))
  gs : PySem.W.specialIn K (.builtin "object.__class__") "__get__" = some (some (.builtin "getset_descriptor.__get__"))
  tk : PySem.W.takesIn K (.builtin "object.__class__") = some true
  hd : PySem.W.hasDictIn K C = true
section
variable {prog : Program} {w : World} {A : Around} {E : Value → Shared → Prop} {s : Shared} {K : PySem.W.Frag} {C x : Addr} {ox : Obj} {od : Option Obj}
end
/-- an exception that is held by a name: frozen -/
structure IsX (H : Hp) (a C : Addr) (dd : Option Addr) : Prop where
  at_ : ∃ o u, H a = some (.frz o u) ∧ o.cls = .ref C ∧ o.dict = dd ∧ ∃ vs, o.data = .fields vs
section
variable {X : Cx}
theorem IsX.inst {pins : List (Addr × Obj)} {σ : St} {H : Hp} {s : Shared} {a C : Addr} (I : Inv X pins σ H s) (x : IsX H a C none) : ∃ o, PySem.W.InstAt s.heap a o C none := by
  obtain ⟨o, u, h1, h2, h3, vs, h4⟩ := x.at_
  exact ⟨o, (I.hok _ _ h1).1, h2, by unfold PySem.W.notCls; rw [h4], by rw [h3]; exact True.intro⟩
/-- where the dict is known -/
theorem IsX.instD {pins : List (Addr × Obj)} {σ : St} {H : Hp} {s : Shared} {a C dx : Addr} {fs : List (Str × V)} (I : Inv X pins σ H s) (x : IsX H a C (some dx)) (hd : H dx = some (.xd fs)) : ∃ o od, PySem.W.InstAt s.heap a o C (some od) := by
  obtain ⟨o, u, h1, h2, h3, vs, h4⟩ := x.at_
  obtain ⟨mA, n, _⟩ := I.hok _ _ hd
  obtain ⟨od, hod, _⟩ := lookIn_ns n
  exact ⟨o, od, (I.hok _ _ h1).1, h2, by unfold PySem.W.notCls; rw [h4], by rw [h3]; exact hod⟩
/-- the exception's dict stands, if it has one -/
def XDs (H : Hp) : Option Addr → Prop
  | none => True
  | some dx => ∃ fs, H dx = some (.xd fs)
theorem IsX.any {pins : List (Addr × Obj)} {σ : St} {H : Hp} {s : Shared} {a C : Addr} {dd : Option Addr} (I : Inv X pins σ H s) (x : IsX H a C dd) (hd : XDs H dd) : ∃ o od, PySem.W.InstAt s.heap a o C od := by
  cases dd with
  | none => obtain ⟨o, h⟩ := x.inst I; exact ⟨o, none, h⟩
  | some dx => obtain ⟨fs, hd⟩ := hd; obtain ⟨o, od, h⟩ := x.instD I hd; exact ⟨o, some od, h⟩
/-- e.f of an exception -/
def tFldX (K : PySem.W.Frag) (ta : TE) (f : Str) : TE := fun σ H Q => ta σ H fun x H1 => ∃ a C dx fs v, x = .ref a ∧ IsX H1 a C (some dx) ∧ H1 dx = some (.xd fs) ∧ XGet K C f ∧ fs.lookup f = some v ∧ Q v H1
end
end L2

/-! ### try .. except -/
namespace L2
open PySem PySem.Spec PyProof.Rows
/-- the body of a try; the suite of an except -/
abbrev Cx.tr (X : Cx) (pn : List (Addr × Obj)) (E : Value → Shared → Prop) : Cx := { X with pn := pn, xe := E }
abbrev Cx.hnd (X : Cx) (a : Addr) (H₀ : Hp) : Cx := { X with A := X.A.mark (some (.ref a)), H₀ := H₀, xe := fun _ _ => False }
theorem Room.mark {k : Nat} {A : Around} {v : Option Value} (r : Room k A) : Room k (A.mark v) := ⟨r.dp, r.un⟩
/-- what is frozen in H, else what H₀ has -/
def frzO (H H₀ : Hp) : Hp := fun b => match H b with | some (.frz o u) => some (.frz o u) | _ => H₀ b
section
variable {X : Cx} {pins : List (Addr × Obj)} {σ : St} {H : Hp} {s : Shared} {a : Addr} {c : Value} {dd : Option Addr} {tb : Option (Addr × Value)}
end
/-- the handlers' readings: the class, the name's slot, the suite -/
abbrev Hd1 := Addr × Option Nat × TS
def Ends.as (D : Ends) (i : Nat) : Ends := ⟨fun σ H => D.nx (σ.set i none) H, D.rt, fun σ H => D.bk (σ.set i none) H, fun σ H => D.ct (σ.set i none) H⟩
def tHand (K : PySem.W.Frag) : List Hd1 → Ends → RK
  | [], _, _, _, _, _ => False
  | (D, i, t) :: r, En, σ, c, dd, H => ∃ C b, c = .ref C ∧ PySem.W.mroIn K C (.ref D) = some b ∧ if b = true then ∀ a o, H a = none → o.cls = c → o.dict = dd → (∃ vs, o.data = .fields vs) →
      (match i with | none => t En σ (upd H a (.frz o (.own a))) | some i => t (En.as i) (σ.set i (some (.ref a))) (upd H a (.frz o (.own a)))) else tHand K r En σ c dd H
/-- the handlers -/
inductive PHs (X : Cx) : List ExceptHandler → List Hd1 → Prop where
  | nil : PHs X [] []
  | one {x : Str} {np pos : Pos} {b₀ : Stmt} {su : List Stmt} {D : Addr} {t : TS} {hs : List ExceptHandler} {ts : List Hd1} (hg : Gl X x) (hm : X.mg x = some (.ref D)) (hB : PySem.W.mroIn X.K D (.type "BaseException") = some true) (hT : PySem.W.typeIn X.K (.ref D) = some (.type "type"))
      (hdb : (x == ("__debug__" : Str)) = false) (hb : ∀ a H₀, PSs (X.hnd a H₀) (b₀ :: su) t) (r : PHs X hs ts) : PHs X (.ExceptHandler (some (.Name x np)) none (b₀ :: su) pos :: hs) ((D, none, t) :: ts)
  | as_ {x n : Str} {i : Nat} {np pos : Pos} {b₀ : Stmt} {su : List Stmt} {D : Addr} {t : TS} {hs : List ExceptHandler} {ts : List Hd1} (hg : Gl X x) (hm : X.mg x = some (.ref D)) (hB : PySem.W.mroIn X.K D (.type "BaseException") = some true) (hT : PySem.W.typeIn X.K (.ref D) = some (.type "type"))
      (hdb : (x == ("__debug__" : Str)) = false) (hN : X.N.Nodup) (hi : X.N[i]? = some n) (hk : X.env.kindOf n = some .local) (hb : ∀ a H₀, PSs (X.hnd a H₀) (b₀ :: su) t) (r : PHs X hs ts) : PHs X (.ExceptHandler (some (.Name x np)) (some n) (b₀ :: su) pos :: hs) ((D, some i, t) :: ts)
section
variable {X : Cx}
/-- try .. except .. else -/
def tTry (K : PySem.W.Frag) (ts : List Hd1) (tb : RK → TS) (te : TS) : TS := fun D σ H => tb (tHand K ts D) { D with nx := fun σ H => te D σ H } σ H
end
end L2

/-! ### defs, methods, classes of the text as their callers see them -/
namespace L2
open PySem PySem.Spec PyProof.Rows
/-- a def of the text, with what stands for its defaults -/
structure FunD (K : PySem.W.Frag) (x qual : Str) (st : Stmt) (f : Addr) (fd : FuncData) : Prop where
  ex : ∃ (oc : Value) (od : Option Addr) (dV kV doc pm : Value) (an : Option Addr) (cdv ct : Value) (osl : Array (Option Value)),
    fd = PySem.W.fnOf x qual (defArgs st) (defBody st) (defScope st) dV kV doc pm an cdv ct ∧ K.lookup f = some ⟨oc, od, .func fd, osl⟩ ∧ PySem.W.codeIn K cdv qual = true
theorem funD_mk {K : PySem.W.Frag} {x qual : Str} {st : Stmt} {f : Addr} {oc : Value} {od an : Option Addr} {osl : Array (Option Value)} {dV kV doc pm cdv ct : Value} (l : K.lookup f = some ⟨oc, od, .func (PySem.W.fnOf x qual (defArgs st) (defBody st) (defScope st) dV kV doc pm an cdv ct), osl⟩)
    (c : PySem.W.codeIn K cdv qual = true) : FunD K x qual st f (PySem.W.fnOf x qual (defArgs st) (defBody st) (defScope st) dV kV doc pm an cdv ct) := ⟨⟨oc, od, dV, kV, doc, pm, an, cdv, ct, osl, rfl, l, c⟩⟩
section
variable {P : Program} {w : World} {K : PySem.W.Frag} {mg : Str → Option Value} {base : Heap}
/-- a def that lets no exception out -/
theorem FunD.ok {x qual : Str} {st : Stmt} {f : Addr} {fd : FuncData} {N ps : List Str} {k : Nat} {sp : Sp} (F : FunD K x qual st f fd) (S : FnScope N ps (defScope st)) (len : ∀ vs H Q E, sp vs H Q E → vs.length = ps.length)
    (hbody : ∀ (cdv : Value) (A : Around) (outer : List Env) (s : Shared) (H : Hp) (vs : List V) (Q : VK) (E : XK), Room k (A.deeper (envOfC qual (defScope st) s.heap.objs.size f cdv)) → sp vs H Q E →
      ∃ t, PSs (cxOf CX0 P w K mg base N qual (defScope st) f cdv A outer s H E).nox (defBody st) t ∧ t { nx := fun _ H' => Q .non H', rt := Q } (start N vs) H) : FnOk P w K mg base CX0 (k + 1) f fd ps sp := by
  obtain ⟨oc, od, dV, kV, doc, pm, an, cdv, ct, osl, rfl, lk, hcd⟩ := F.ex
  refine fn_of lk hcd S len fun A outer s H vs Q E hr hsp => ?_
  obtain ⟨t, h, q⟩ := hbody cdv A outer s H vs Q E hr hsp
  exact ⟨t, h.nox, q⟩
end
/-- a def at the text's top: dvs the defaults that a call leaves to be filled in -/
structure Def (K : PySem.W.Frag) (mg : Str → Option Value) (x : Str) (st : Stmt) (ps : List Str) (dvs : List V) : Prop where
  ex : ∃ f fd ds, FunD K x x st f fd ∧ mg x = some (.ref f) ∧ PySem.W.keepIn K (.ref f) = true ∧ Binds K fd ps ds ∧ Vals dvs ds
/-- a method -/
structure Met (K : PySem.W.Frag) (C : Addr) (m qual : Str) (st : Stmt) (ps : List Str) (dvs : List V) : Prop where
  ex : ∃ f fd ds, FunD K m qual st f fd ∧ Meth K C m f ∧ Binds K fd ps ds ∧ Vals dvs ds
/-- a class that is made by its own __init__ -/
structure Ini (K : PySem.W.Frag) (mg : Str → Option Value) (C : Addr) (x qual : Str) (st : Stmt) (ps : List Str) : Prop where
  ex : ∃ f fd, FunD K "__init__" qual st f fd ∧ Mk K C f ∧ mg x = some (.ref C) ∧ Binds K fd ps []
/-- an exception class with its own __init__ -/
structure XIni (K : PySem.W.Frag) (mg : Str → Option Value) (C : Addr) (x qual : Str) (st : Stmt) (ps : List Str) : Prop where
  ex : ∃ f fd, FunD K "__init__" qual st f fd ∧ XCI K C f ∧ mg x = some (.ref C) ∧ Binds K fd ps []
/-- .. with a promise -/
structure Cal (P : Program) (w : World) (K : PySem.W.Frag) (mg : Str → Option Value) (base : Heap) (CX : CXT) (k : Nat) (x : Str) (ps : List Str) (dvs : List V) (sp : Sp) : Prop where
  ex : ∃ f fd ds, FnOk P w K mg base CX k f fd ps sp ∧ mg x = some (.ref f) ∧ PySem.W.keepIn K (.ref f) = true ∧ Binds K fd ps ds ∧ Vals dvs ds
structure CalM (P : Program) (w : World) (K : PySem.W.Frag) (mg : Str → Option Value) (base : Heap) (CX : CXT) (k : Nat) (C : Addr) (m : Str) (ps : List Str) (dvs : List V) (sp : Sp) : Prop where
  ex : ∃ f fd ds, FnOk P w K mg base CX k f fd ps sp ∧ Meth K C m f ∧ Binds K fd ps ds ∧ Vals dvs ds
structure CalI (P : Program) (w : World) (K : PySem.W.Frag) (mg : Str → Option Value) (base : Heap) (CX : CXT) (k : Nat) (C : Addr) (x : Str) (ps : List Str) (sp : Sp) : Prop where
  ex : ∃ f fd, FnOk P w K mg base CX k f fd ps sp ∧ Mk K C f ∧ mg x = some (.ref C) ∧ Binds K fd ps []
structure CalXI (P : Program) (w : World) (K : PySem.W.Frag) (mg : Str → Option Value) (base : Heap) (CX : CXT) (k : Nat) (C : Addr) (x : Str) (ps : List Str) (sp : Sp) : Prop where
  ex : ∃ f fd, FnOk P w K mg base CX k f fd ps sp ∧ XCI K C f ∧ mg x = some (.ref C) ∧ Binds K fd ps []
section
variable {P : Program} {w : World} {K : PySem.W.Frag} {mg : Str → Option Value} {base : Heap} {CX : CXT} {k : Nat} {C : Addr} {x m qual : Str} {st : Stmt} {ps : List Str} {dvs : List V} {sp : Sp}
theorem Def.cal (D : Def K mg x st ps dvs) (h : ∀ f fd, FunD K x x st f fd → FnOk P w K mg base CX k f fd ps sp) : Cal P w K mg base CX k x ps dvs sp :=
  let ⟨f, fd, ds, F, r⟩ := D.ex; ⟨f, fd, ds, h f fd F, r⟩
theorem Met.cal (D : Met K C m qual st ps dvs) (h : ∀ f fd, FunD K m qual st f fd → FnOk P w K mg base CX k f fd ps sp) : CalM P w K mg base CX k C m ps dvs sp :=
  let ⟨f, fd, ds, F, r⟩ := D.ex; ⟨f, fd, ds, h f fd F, r⟩
theorem Ini.cal (D : Ini K mg C x qual st ps) (h : ∀ f fd, FunD K "__init__" qual st f fd → FnOk P w K mg base CX k f fd ps sp) : CalI P w K mg base CX k C x ps sp :=
  let ⟨f, fd, F, r⟩ := D.ex; ⟨f, fd, h f fd F, r⟩
theorem XIni.cal (D : XIni K mg C x qual st ps) (h : ∀ f fd, FunD K "__init__" qual st f fd → FnOk P w K mg base CX k f fd ps sp) : CalXI P w K mg base CX k C x ps sp :=
  let ⟨f, fd, F, r⟩ := D.ex; ⟨f, fd, h f fd F, r⟩
end
/-- calls whose exceptions are wanted by R, by the names' values -/
def tCallR (sp : Sp) (dvs : List V) (R : RK) (t : TA) : TE := fun σ H Q => t σ H fun vs H1 => sp (vs ++ dvs) H1 Q (R σ)
def tMethR (C : Addr) (m : Str) (sp : Sp) (dvs : List V) (R : RK) (ta : TE) (t : TA) : TE := fun σ H Q => ta σ H fun x H1 => ∃ a dx fs, x = .ref a ∧ H1 a = some (.ins C dx fs) ∧ fs.lookup m = none ∧
  t σ H1 fun vs H2 => sp (x :: (vs ++ dvs)) H2 Q (R σ)
section
variable {X : Cx} {CX : CXT} {k : Nat} {C : Addr} {ps : List Str} {sp : Sp} {dvs : List V} {R : RK} {x m : Str} {p pos apos : Pos} {e o : Expr} {es : List Expr} {ta : TE} {t : TA}
/-- f(e, ..), f lets no exception out -/
theorem pe_cal (c : Cal X.prog X.w X.K X.mg X.base CX0 k x ps dvs sp) (hr : Room k X.A) (hg : Gl X x) (ha : PA X (e :: es) t) (hdb : (x == ("__debug__" : Str)) = false := by decide)
    (he : starEach (e :: es) X.env = (false, eval e X.env) :: starEach es X.env := by rfl) (hpl : (backTo pos (starEach es X.env)).any (·.1) = false := by rfl) : PE X (.Call (.Name x p) (e :: es) [] pos) (tCall sp dvs E0 t) := by
  obtain ⟨f, fd, ds, F, hm, hk, hb, hd⟩ := c.ex
  exact pe_call F hr hg hm hk hb hd pass0 ha hdb he hpl
/-- a type of Python's own, as a value -/
theorem pe_gTy {n : String} (hg : Gl X x) (hm : X.mg x = none) (hv : bootBuiltins x = some (.type n)) (hn : x ≠ "__name__" := by decide) (hd : (x == ("__debug__" : Str)) = false := by decide) : PE X (.Name x pos) (tC (.ty n)) := pe_bltn hg hm hv rfl hn hd
end
end L2

/-! ### walks while an exception is handled: the chain of contexts is one of the things that stay -/
namespace L2
open PySem PySem.Spec PyProof.Rows
def HdC (A : Around) (cs : List Addr) : Prop := (A.handled = none ∧ cs = []) ∨ ∃ a r, cs = a :: r ∧ A.handled = some (.ref a)
theorem Hd.chain {A : Around} {h : Heap} (x : Hd A h) : ∃ cs, HdC A cs ∧ Chn h cs := by
  rcases x with e | ⟨a, cs, e, c⟩
  · exact ⟨[], .inl ⟨e, rfl⟩, List.nodup_nil, fun j a z => by simp at z⟩
  · exact ⟨a :: cs, .inr ⟨a, cs, rfl, e⟩, c⟩
theorem HdC.hd {A : Around} {h : Heap} {cs : List Addr} (x : HdC A cs) (c : Chn h cs) : Hd A h := by
  rcases x with ⟨e, rfl⟩ | ⟨a, r, rfl, e⟩
  · exact .inl e
  · exact .inr ⟨a, r, e, c⟩
theorem Chn.but {h h' : Heap} {cs : List Addr} {it : Addr} (c : Chn h cs) (hI : it ∉ cs) (k : ∀ b o, b ≠ it → h.get? b = some o → h'.get? b = some o) : Chn h' cs :=
  c.mono fun b o hb e => k b o (fun z => hI (z ▸ hb)) e
section
variable {prog : Program} {w : World} {A : Around} {E : Value → Shared → Prop} {s : Shared} {cs : List Addr}
theorem walks_list (hc : HdC A cs) (I ax : Addr) (hne : ax ≠ I) (hI : I ∉ cs) (items : Array Value) :
    Walks prog w A I (I :: ax :: cs) [I] items.size (fun i v => items[i]? = some v) (fun i h => h.IsListIter I ax i ∧ h.IsList ax items ∧ Chn h cs) where
  sub := fun b hb => by simp at hb; simp [hb]
  frame := fun _ _ _ st hk => ⟨st.1.at fun o e => hk I (by simp) o e, st.2.1.at fun o e => hk ax (by simp) o e, st.2.2.mono fun b o hb e => hk b (by simp [hb]) o e⟩
  item := fun i s Q E hi st hQ => by
    refine wpAny_pyNext_list_item st.1 st.2.1 (x := items[i]) (by simp [hi]) fun h' hit' hs' => ?_
    exact hQ _ h' s.toks (by simp [hi]) ⟨hit', st.2.1.extBut hs'.extBut hne, st.2.2.but hI hs'.extBut⟩ fun b o hb e => hs'.extBut b o (fun h => hb (by simp [h])) e
  done := fun s Q E st hQ => list_endH (hc.hd st.2.2) st.1 st.2.1 (by simp) fun h' he' => hQ h' s.toks fun b o hb e => he' b o (fun h => hb (by simp [h])) e
  self := fun _ _ _ _ st hQ => wpAny_pyIter_listiter st.1 hQ

/-- an iterator over a text, at the i-th sign -/
def StrIt (h : Heap) (I : Addr) (x : Str) (t : Tok) (i : Nat) : Prop := h.IsStrIter I "str_ascii_iterator" x t i ∨ h.IsStrIter I "str_iterator" x t i
theorem StrIt.keep {h h' : Heap} {I : Addr} {x : Str} {t : Tok} {i : Nat} (y : StrIt h I x t i) (k : ∀ o, h.get? I = some o → h'.get? I = some o) : StrIt h' I x t i := by
  rcases y with ⟨o, e, r⟩ | ⟨o, e, r⟩
  · exact .inl ⟨o, k o e, r⟩
  · exact .inr ⟨o, k o e, r⟩
/-- zip of two lists: its end -/
theorem next_endH {it l : Addr} {i : Nat} {items} {Q : Value → Shared → Prop} (hd : Hd A s.heap) (hit : s.heap.IsListIter it l i) (hl : s.heap.IsList l items) (hx : items[i]? = none)
    (hE : ∀ h' e, Heap.ExtBut it s.heap h' → (∃ o, h'.get? e = some o ∧ o.cls = .type "StopIteration") → E (.ref e) { s with heap := h' }) : wpAny (model prog w) A (Builtin.SmallTypes.nextOf (.ref it)) Q E s := by
  obtain ⟨o, ho, hc, hdat⟩ := id hit
  obtain ⟨ol, hol, _, nl, hdl⟩ := hl
  unfold Builtin.SmallTypes.nextOf
  refine wpAny_bind (wpAny_callSpecial?_slot (name := Str.ofString "__next__") hit.typeIs slot_listiter_next (wpAny_call_entry slot_listiter_next hit.typeIs entry_listiter_next ?_ (args_listiter_next _)))
  refine (show wpAny _ _ (field (.ref it) 0 >>= _) _ _ s from wpAny_bind (wpAny_field ho hdat (x := .ref l) rfl ?_))
  refine (show wpAny _ _ (if (Value.ref l == Value.none) = true then _ else _) _ _ s from ?_)
  rw [if_neg (show ¬ ((Value.ref l == Value.none) = true) from Bool.false_ne_true)]
  refine (show wpAny _ _ (field (.ref it) 1 >>= _) _ _ s from wpAny_bind (wpAny_field ho hdat (x := .int i 0) rfl ?_))
  refine (show wpAny _ _ (seqItems? (.ref l) >>= _) _ _ s from wpAny_bind (wpAny_seqItems hol hdl ?_))
  simp only [Int.toNat_natCast, hx]
  refine wpAny_bind (wpAny_rule (wpAny_bind (wpAny_setField ho hdat (by simp) ?_)))
  refine stop_hd (A := A.in1) (hd.but ho (fun vs q => .inl (by rw [hdat] at q; cases q; simp)) (Heap.SameBut.update ..).extBut) fun h' e k' x => hE h' e (fun b q hb hq => k' b q ((Heap.SameBut.update ..).extBut b q hb hq)) x
theorem zip_endH {z TI TO i1 i2 l1 l2 : Addr} {k1 k2 : Nat} {xs ys : Array Value} {a b : Value} {Q : Option Value → Shared → Prop} (hc : HdC A cs) (c : Chn s.heap cs) (nz : z ∉ cs) (nT : TO ∉ cs) (n1 : i1 ∉ cs) (n2 : i2 ∉ cs) (D : ZipApart z TI TO i1 i2 l1 l2)
    (hz : IsZip s.heap z TI TO .none) (hTI : IsPair s.heap TI (.ref i1) (.ref i2)) (hTO : IsPair s.heap TO a b) (h1 : s.heap.IsListIter i1 l1 k1) (h2 : s.heap.IsListIter i2 l2 k2) (hl1 : s.heap.IsList l1 xs) (hl2 : s.heap.IsList l2 ys) (hend : xs[k1]? = none ∨ ys[k2]? = none)
    (hQ : ∀ h', (∀ c o, c ≠ z → c ≠ TO → c ≠ i1 → c ≠ i2 → s.heap.get? c = some o → h'.get? c = some o) → Q none { s with heap := h' }) : wpAny (model prog w) A (pyNext (.ref z)) Q E s := by
  have hT : s.TypeIs (.ref z) "zip" := ⟨_, hz, rfl⟩
  have fin : ∀ h' e, (∀ c o, c ≠ z → c ≠ TO → c ≠ i1 → c ≠ i2 → s.heap.get? c = some o → h'.get? c = some o) → (∃ o, h'.get? e = some o ∧ o.cls = .type "StopIteration") →
      wpAny (model prog w) A (do if ← isInstance (.ref e) (.type "StopIteration") then pure none else throw (.ref e)) Q E { s with heap := h' } := fun h' e k ⟨o, ho, hcl⟩ =>
    wpAny_bind (wpAny_isInstance (T := "StopIteration") (b := true) ⟨o, ho, hcl⟩ isSubtype_stop (wpAny_pure (hQ _ k)))
  unfold pyNext
  refine wpAny_bind (wpAny_attempt (wpAny_callSpecial?_slot (name := Str.ofString "__next__") hT F.slot_zip_next (wpAny_call_entry F.slot_zip_next hT F.entry_zip_next ?_ (F.args_zip_next_1 _))))
  refine (show wpAny _ _ (field (.ref z) 2 >>= _) _ _ _ from wpAny_bind (wpAny_field hz rfl (x := .bool false) rfl ?_))
  refine (show wpAny _ _ (field (.ref z) 3 >>= _) _ _ _ from wpAny_bind (wpAny_field hz rfl (x := .ref TI) rfl (wpAny_bind (wpAny_seqItems hTI rfl ?_))))
  refine (show wpAny _ _ (Builtin.SmallTypes.ownedTupleIsFree (.ref z) >>= _) _ _ _ from wpAny_bind ?_)
  unfold Builtin.SmallTypes.ownedTupleIsFree
  refine wpAny_bind (wpAny_field hz rfl (x := .none) rfl (wpAny_pure ?_))
  simp only [if_true]
  refine wpAny_bind (wpAny_rule (wpAny_bind (wpAny_field hz rfl (x := .ref TO) rfl (wpAny_bind (wpAny_setField_rec hz (by simp) fun h₁ hz₁ hs₁ => ?_)))))
  replace hz₁ : IsZip h₁ z TI TO .ellipsis := hz₁
  have c₁ : Chn h₁ cs := c.but nz hs₁.extBut
  refine wpAny_bind ?_
  simp only [List.zipIdx_cons, List.zipIdx_nil, List.forIn_cons, List.forIn_nil]
  refine wpAny_bind (wpAny_bind (wpAny_onRaise ?_))
  cases hx : xs[k1]? with
  | none =>
    refine (show wpAny _ _ (Builtin.SmallTypes.nextOf (.ref i1) >>= _) _ _ _ from wpAny_bind (next_endH (A := A.in1) (HdC.hd (A := A.in1) hc c₁) (h1.extBut hs₁.extBut D.i1z) (hl1.extBut hs₁.extBut D.l1z) hx fun h₂ e hs₂ he => ?_))
    obtain ⟨oe, hoe, hce⟩ := he
    have hz₂ : IsZip h₂ z TI TO .ellipsis := hs₂ _ _ D.i1z.symm hz₁
    have hez : e ≠ z := fun x => by subst x; rw [hz₂] at hoe; cases hoe; simp at hce
    exact wpAny_setField_rec hz₂ (by simp) fun h₃ _ hs₃ => fin h₃ e (fun c o c1 _ c3 _ x => hs₃.extBut _ _ c1 (hs₂ _ _ c3 (hs₁.extBut _ _ c1 x))) ⟨oe, hs₃.extBut _ _ hez hoe, hce⟩
  | some x =>
    have hy : ys[k2]? = none := by rcases hend with h | h; rw [hx] at h; cases h; exact h
    refine (show wpAny _ _ (Builtin.SmallTypes.nextOf (.ref i1) >>= _) _ _ _ from wpAny_bind (wpAny_nextOf_list_item (h1.extBut hs₁.extBut D.i1z) (hl1.extBut hs₁.extBut D.l1z) hx fun h₂ h1₂ hs₂ => wpAny_pure ?_))
    have hTO₂ : IsPair h₂ TO a b := hs₂.extBut _ _ D.TOi1 (hs₁.extBut _ _ D.TOz hTO)
    refine wpAny_bind (wpAny_seqItems hTO₂ rfl (wpAny_bind (wpAny_updateSeq_pair hTO₂ fun h₃ hTO₃ hs₃ => wpAny_bind (wpAny_letGo (wpAny_pure ?_)))))
    refine wpAny_bind (wpAny_bind (wpAny_onRaise ?_))
    have c₃ : Chn h₃ cs := (c₁.but n1 hs₂.extBut).but nT hs₃.extBut
    refine (show wpAny _ _ (Builtin.SmallTypes.nextOf (.ref i2) >>= _) _ _ _ from wpAny_bind (next_endH (A := A.in1) (HdC.hd (A := A.in1) hc c₃) (((h2.extBut hs₁.extBut D.i2z).extBut hs₂.extBut D.i12.symm).extBut hs₃.extBut D.TOi2.symm)
      (((hl2.extBut hs₁.extBut D.l2z).extBut hs₂.extBut D.l2i1).extBut hs₃.extBut D.l2TO) hy fun h₄ e hs₄ he => ?_))
    obtain ⟨oe, hoe, hce⟩ := he
    have hz₄ : IsZip h₄ z TI TO .ellipsis := hs₄ _ _ D.i2z.symm (hs₃.extBut _ _ D.TOz.symm (hs₂.extBut _ _ D.i1z.symm hz₁))
    have hez : e ≠ z := fun x => by subst x; rw [hz₄] at hoe; cases hoe; simp at hce
    exact wpAny_setField_rec hz₄ (by simp) fun h₅ _ hs₅ => fin h₅ e (fun c o c1 c2 c3 c4 x => hs₅.extBut _ _ c1 (hs₄ _ _ c4 (hs₃.extBut _ _ c2 (hs₂.extBut _ _ c3 (hs₁.extBut _ _ c1 x))))) ⟨oe, hs₅.extBut _ _ hez hoe, hce⟩

section
variable {κ : Type} [DecidableEq κ] {knd : KeyKind prog w κ}
theorem dict_endH {it d : Addr} {i ep : Nat} {kvs : List (κ × Value)} {Q : Option Value → Shared → Prop} (hd : Hd A s.heap) (hit : s.heap.IsKeyIter it d i kvs.length ep) (hm : s.heap.DictAt knd d kvs ep) (hx : kvs[i]? = none)
    (hQ : ∀ h', Heap.ExtBut it s.heap h' → Q none { s with heap := h' }) : wpAny (model prog w) A (pyNext (.ref it)) Q E s := by
  obtain ⟨o, ho, hc, hdat⟩ := id hit
  obtain ⟨od, es, hod, hcd, hdd, hk, hp, hn⟩ := id hm
  have hsz : es.size = kvs.length := by rw [← hp.length]; simp
  have hge : es.size ≤ i := by rw [hsz]; simpa using hx
  have hown : Builtin.Dict_items.ownsTuple "dict_keyiterator" = false := by decide
  unfold pyNext
  refine wpAny_bind (wpAny_attempt (wpAny_callSpecial?_slot (name := Str.ofString "__next__") hit.typeIs F.slot_dict_keyiterator_next (wpAny_call_entry F.slot_dict_keyiterator_next hit.typeIs F.entry_dict_keyiterator_next ?_ (F.args_dict_keyiterator_next_1 _))))
  refine wpAny_bind (wpAny_pure (wpAny_bind (wpAny_bind ?_)))
  first | refine wpAny_bind (wpAny_typeNameOfWhole_keyiter hit.typeIs (wpAny_pure (wpAny_bind (wpAny_fieldsOf ho hdat ?_)))) | refine wpAny_bind (wpAny_typeNameOf_keyiter hit.typeIs (wpAny_pure (wpAny_bind (wpAny_fieldsOf ho hdat ?_))))
  simp only [hown, Bool.false_eq_true, if_false]
  show wpAny _ _ (if (Value.ref d == Value.none) = true then _ else _) _ _ s
  rw [if_neg (show ¬ ((Value.ref d == Value.none) = true) from Bool.false_ne_true)]
  refine wpAny_bind (wpAny_pure (wpAny_bind (wpAny_dictEntries hod hdd ?_)))
  rw [if_neg (by rw [hsz]; simp)]
  refine wpAny_bind (wpAny_pure (wpAny_bind (wpAny_dictEpoch hod hdd ?_)))
  rw [if_neg (by simp)]
  refine wpAny_pure ?_
  simp only [show ¬ ((i : Int) < 0) from by omega, if_false, Int.toNat_natCast, Array.getElem?_eq_none hge]
  refine wpAny_bind ?_
  first | refine wpAny_bind (wpAny_typeNameOfWhole_keyiter hit.typeIs (wpAny_pure ?_)) | refine wpAny_bind (wpAny_typeNameOf_keyiter hit.typeIs (wpAny_pure ?_))
  refine (show wpAny _ _ (setField (.ref it) 0 .none >>= _) _ _ s from wpAny_bind (wpAny_setField ho hdat (by simp) ?_))
  refine stop_hd (A := A.in1) (hd.but ho (fun vs q => .inr (by rw [hdat] at q; cases q; simp)) (Heap.SameBut.update ..).extBut) fun h' e k' ⟨o', e', c'⟩ => ?_
  exact wpAny_bind (wpAny_isInstance (T := "StopIteration") (b := true) ⟨o', e', c'⟩ isSubtype_stop (wpAny_pure (hQ h' fun b q hb hq => k' b q ((Heap.SameBut.update ..).extBut b q hb hq))))
end
end
end L2

/-! ### walking texts, two lists at once, a dict's pairs; all, any, list(d), slices of texts -/
namespace L2
open PySem PySem.Spec PyProof.Rows
/-- the signs of a text -/
def Its (x : Str) : It := ⟨fun i _ => i < x.cps.size, fun i H v H' => H' = H ∧ ∃ c, x.cps[i]? = some c ∧ v = .str ⟨#[c]⟩, fun i _ => x.cps.size ≤ i⟩
def iStr (tl : TE) : TI := fun σ H R => tl σ H fun x H1 => ∃ z, x = .str z ∧ R (Its z) H1
section
variable {X : Cx} {tg : Expr}
end
section
variable {g : TG} {tt : TT} {te : TE}
end
/-! zip of two lists -/
def Itz (K : PySem.W.Frag) (l1 l2 : Addr) : It :=
  ⟨fun i H => ∃ xs ys x y, SqL K H l1 xs ∧ SqL K H l2 ys ∧ xs[i]? = some x ∧ ys[i]? = some y,
   fun i H v H' => ∃ T x y, v = .ref T ∧ H T = none ∧ H' = upd H T (.tup [x, y]) ∧ (∀ xs, SqL K H l1 xs → xs[i]? = some x) ∧ ∀ ys, SqL K H l2 ys → ys[i]? = some y,
   fun i H => ∃ xs ys, SqL K H l1 xs ∧ SqL K H l2 ys ∧ (xs.length ≤ i ∨ ys.length ≤ i)⟩
def ZipIt (h : Heap) (z TI TO i1 i2 l1 l2 : Addr) (i : Nat) : Prop := IsZip h z TI TO .none ∧ IsPair h TI (.ref i1) (.ref i2) ∧ (∃ a b, IsPair h TO a b) ∧ h.IsListIter i1 l1 i ∧ h.IsListIter i2 l2 i
theorem turn_zip {P : Program} {w : World} {K : PySem.W.Frag} {es : List Expr} {k : Nat} {pos : Pos} {z TI TO i1 i2 l1 l2 : Addr} (D : ZipApart z TI TO i1 i2 l1 l2) :
    Turn P w K (.Tuple es k pos) (Itz K l1 l2) [z, TI, TO, i1, i2] z (fun i h => ZipIt h z TI TO i1 i2 l1 l2 i) where
  mem := by simp
  obj := fun i h st b hb => by
    obtain ⟨hz, hTI, ⟨a, c, hTO⟩, ⟨o1, e1, c1, d1⟩, ⟨o2, e2, c2, d2⟩⟩ := st
    simp only [List.mem_cons, List.not_mem_nil, or_false] at hb
    rcases hb with rfl | rfl | rfl | rfl | rfl
    · exact ⟨_, hz, fun v q => by simp at q⟩
    · exact ⟨_, hTI, fun v q => by simp at q⟩
    · exact ⟨_, hTO, fun v q => by simp at q⟩
    · exact ⟨_, e1, fun v q => by rw [d1] at q; cases q⟩
    · exact ⟨_, e2, fun v q => by rw [d2] at q; cases q⟩
  keep := fun i h h' st k => by
    obtain ⟨hz, hTI, ⟨a, c, hTO⟩, h1, h2⟩ := st
    exact ⟨k z (by simp) _ hz, k TI (by simp) _ hTI, ⟨a, c, k TO (by simp) _ hTO⟩, h1.at fun o e => k i1 (by simp) o e, h2.at fun o e => k i2 (by simp) o e⟩
  item := by
    intro X hP hw hK hc i pins s σ H E I hf st hg
    subst hP hw hK
    obtain ⟨xs, ys, x, y, q1, q2, hx, hy⟩ := hg
    obtain ⟨hz, hTI, ⟨a, c, hTO⟩, h1, h2⟩ := st
    obtain ⟨its, rv, pl, _⟩ := I.list q1
    obtain ⟨its', rv', pl', _⟩ := I.list q2
    obtain ⟨u, hu, ru⟩ := rv.get hx
    obtain ⟨u', hu', ru'⟩ := rv'.get hy
    have nf : ∀ b ∈ [z, TI, TO, i1, i2], b ∉ frs X.stack := fun b hb q => (List.mem_cons.mp (I.stkSub b q)).elim (hf b hb).2.1 (hf b hb).2.2.1
    refine wpAny_pyNext_zip_item D hz hTI hTO h1 h2 pl.isList pl'.isList (x := u) (y := u') (by simpa using hu) (by simpa using hu') fun h' a1 a2 a3 a4 a5 a6 hk => ⟨_, rfl, ?_⟩
    refine wpAny_letOwnedTupleGo_zip (s := { s with heap := h' }) a1 fun h'' hz' hs' => ?_
    have hTn : H s.heap.objs.size = none := I.hok.fresh (Nat.le_refl _)
    have ltz := Heap.lt_size hz
    have old : ∀ b o, b ≠ z → b ≠ TO → b ≠ i1 → b ≠ i2 → s.heap.get? b = some o → h''.get? b = some o := fun b o n1 n2 n3 n4 e => hs'.extBut b o n1 (hk b o n1 n2 n3 n4 e)
    have I1 : Inv X pins σ (upd H s.heap.objs.size (.tup [x, y])) { s with heap := s.heap.push { cls := .type "tuple", data := .seq #[u, u'] } } :=
      I.laid (t' := s.toks) (fun b o e => Heap.get?_push_of_some _ e) (Nat.le_refl _) ⟨by show 2 ≤ sizeLine; decide, [u, u'], .cons ru (.cons ru' .nil), ⟨_, Heap.get?_push_size _ rfl, rfl, _, rfl⟩⟩
    have fp1 : ∀ b ∈ [z, TI, TO, i1, i2], FpOk X pins (upd H s.heap.objs.size (.tup [x, y])) b := fun b hb => by
      obtain ⟨f0, r⟩ := hf b hb
      refine ⟨?_, r⟩
      have lt : b < s.heap.objs.size := by
        simp only [List.mem_cons, List.not_mem_nil, or_false] at hb
        rcases hb with rfl | rfl | rfl | rfl | rfl
        · exact Heap.lt_size hz
        · exact Heap.lt_size hTI
        · exact Heap.lt_size hTO
        · obtain ⟨o, e, _⟩ := h1; exact Heap.lt_size e
        · obtain ⟨o, e, _⟩ := h2; exact Heap.lt_size e
      rw [upd_ne (Nat.ne_of_lt lt)]; exact f0
    have I2 : Inv X pins σ (upd H s.heap.objs.size (.tup [x, y])) { s with heap := h'' } := by
      have back : ∀ b o, (s.heap.push { cls := .type "tuple", data := .seq #[u, u'] }).get? b = some o → b ≠ z → b ≠ TO → b ≠ i1 → b ≠ i2 → h''.get? b = some o := fun b o e n1 n2 n3 n4 => by
        rcases Heap.get?_push_cases e with ⟨rfl, rfl⟩ | e
        · exact hs'.extBut _ _ n1 a5
        · exact old b o n1 n2 n3 n4 e
      refine I1.slots (ch := [z, TO, i1, i2]) (tk := s.toks) (fun b hb => fp1 b (by simp only [List.mem_cons, List.not_mem_nil, or_false] at hb ⊢; rcases hb with e | e | e | e <;> simp [e])) (fun b o _ hc e => ?_) (fun b o hb e => ⟨o.slots, ?_⟩) (fun b hb o e => ?_)
      · simp only [List.mem_cons, List.not_mem_nil, or_false, not_or] at hc
        exact back b o e hc.1 hc.2.1 hc.2.2.1 hc.2.2.2
      · exact back b o e (fun q => nf z (by simp) (q ▸ hb)) (fun q => nf TO (by simp) (q ▸ hb)) (fun q => nf i1 (by simp) (q ▸ hb)) (fun q => nf i2 (by simp) (q ▸ hb))
      · simp only [List.mem_cons, List.not_mem_nil, or_false] at hb
        rcases hb with rfl | rfl | rfl | rfl
        · exact ⟨_, hz'⟩
        · exact ⟨_, hs'.extBut _ _ D.TOz a2⟩
        · obtain ⟨o, e, _⟩ := a3; exact ⟨_, hs'.extBut _ _ D.i1z e⟩
        · obtain ⟨o, e, _⟩ := a4; exact ⟨_, hs'.extBut _ _ D.i2z e⟩
    refine ⟨.ref s.heap.objs.size, _, I2, rfl, ⟨_, x, y, rfl, hTn, rfl, fun xs' q => by rw [I.list_inj q q1]; exact hx, fun ys' q => by rw [I.list_inj q q2]; exact hy⟩, ?_, fun b hb => (fp1 b hb).1⟩
    exact ⟨hz', old TI _ D.TIz D.TITO D.TIi1 D.TIi2 hTI, ⟨_, _, hs'.extBut _ _ D.TOz a2⟩, a3.extBut hs'.extBut D.i1z, a4.extBut hs'.extBut D.i2z⟩
  done := by
    intro X hP hw hK hc i pins s σ H E I hf st hg
    subst hP hw hK
    obtain ⟨xs, ys, q1, q2, hlen⟩ := hg
    obtain ⟨hz, hTI, ⟨a, c, hTO⟩, h1, h2⟩ := st
    obtain ⟨its, rv, pl, _⟩ := I.list q1
    obtain ⟨its', rv', pl', _⟩ := I.list q2
    have e1 := rv.length
    have e2 := rv'.length
    have nf : ∀ b ∈ [z, TI, TO, i1, i2], b ∉ frs X.stack := fun b hb q => (List.mem_cons.mp (I.stkSub b q)).elim (hf b hb).2.1 (hf b hb).2.2.1
    have nc : ∃ cs, HdC X.A cs ∧ Chn s.heap cs ∧ ∀ b ∈ [z, TI, TO, i1, i2], b ∉ cs := by
      rcases I.hdAt with e | ⟨b, cs, e, c⟩
      · exact ⟨[], .inl ⟨e, rfl⟩, ⟨List.nodup_nil, fun j a q => by simp at q⟩, fun b _ q => by simp at q⟩
      · exact ⟨b :: cs, .inr ⟨b, cs, rfl, e⟩, c.chn I.hok, fun d hd => c.not_mem (hf d hd).1⟩
    obtain ⟨cs, hcs, ch, ncs⟩ := nc
    refine zip_endH hcs ch (ncs z (by simp)) (ncs TO (by simp)) (ncs i1 (by simp)) (ncs i2 (by simp)) D hz hTI hTO h1 h2 pl.isList pl'.isList (by rcases hlen with q | q; (left; simp; omega); (right; simp; omega)) fun h' hk => ⟨rfl, ?_⟩
    refine I.slot0 (ch := [z, TI, TO, i1, i2]) (tk := s.toks) hf (fun b o _ hc e => ?_) (fun b o hb e => ⟨o.slots, ?_⟩)
    · simp only [List.mem_cons, List.not_mem_nil, or_false, not_or] at hc
      exact hk b o hc.1 hc.2.2.1 hc.2.2.2.1 hc.2.2.2.2 e
    · exact hk b o (fun q => nf z (by simp) (q ▸ hb)) (fun q => nf TO (by simp) (q ▸ hb)) (fun q => nf i1 (by simp) (q ▸ hb)) (fun q => nf i2 (by simp) (q ▸ hb)) e
  self := fun _ _ _ _ _ st h => wpAny_pyIter_zip st.1 h
def iZip (K : PySem.W.Frag) (ta : TA) : TI := fun σ H R => ta σ H fun vs H1 => ∃ l1 l2, vs = [.ref l1, .ref l2] ∧ (∃ xs, SqL K H1 l1 xs) ∧ (∃ ys, SqL K H1 l2 ys) ∧ R (Itz K l1 l2) H1
section
variable {X : Cx}
theorem pi_zip {es : List Expr} {k : Nat} {tpos p pos : Pos} {a b : Expr} {ta : TA} (hg : Gl X "zip") (hm : X.mg "zip" = none) (ha : PA X [a, b] ta) (hs : starEach [a, b] X.env = [(false, eval a X.env), (false, eval b X.env)] := by rfl) (hs2 : starEach [b] X.env = [(false, eval b X.env)] := by rfl) :
    PI X (.Tuple es k tpos) (.Call (.Name "zip" p) [a, b] [] pos) (iZip X.K ta) := by
  intro pins s σ H R I h
  refine Call_ (ld_blt I hg hm boot_zip (PyProof.Rows.callWith_type1 (thn (ha pos pins s σ H _ I h) fun us s1 ⟨vs, H1, I1, r1, l1, l2, e, ⟨xs, q1⟩, ⟨ys, q2⟩, q⟩ => ?_) (by rw [hs, hs2]) (by rw [hs2]; rfl)))
  subst e
  obtain ⟨u, u', rfl, ru, ru'⟩ := vals2 r1
  obtain rfl : u = Value.ref l1 := ru
  obtain rfl : u' = Value.ref l2 := ru'
  obtain ⟨its, rv, pl, _⟩ := I1.list q1
  obtain ⟨its', rv', pl', _⟩ := I1.list q2
  refine call_zip_2 pl.isList pl'.isList fun h' b1 b2 b3 b4 b5 b6 hk => ?_
  refine wpAny_pyIter_zip (s := { s1 with heap := h' }) b1 ?_
  have lt1 : l1 < s1.heap.objs.size := by obtain ⟨o, e, _⟩ := pl.isList; exact Heap.lt_size e
  have lt2 : l2 < s1.heap.objs.size := by obtain ⟨o, e, _⟩ := pl'.isList; exact Heap.lt_size e
  have nn : ∀ (x y : Nat), x < y → ∀ j : Nat, x ≠ y + j := fun x y h j e => by omega
  have n0 : ∀ (y i j : Nat), i ≠ j → y + i ≠ y + j := fun y i j h e => by omega
  have D : ZipApart (s1.heap.objs.size + 4) (s1.heap.objs.size + 2) (s1.heap.objs.size + 3) s1.heap.objs.size (s1.heap.objs.size + 1) l1 l2 :=
    ⟨n0 _ 2 4 (by decide), n0 _ 3 4 (by decide), n0 _ 0 4 (by decide), n0 _ 1 4 (by decide), n0 _ 2 3 (by decide), n0 _ 2 0 (by decide), n0 _ 2 1 (by decide), n0 _ 3 0 (by decide), n0 _ 3 1 (by decide), n0 _ 0 1 (by decide),
      nn _ _ lt1 4, nn _ _ lt1 3, nn _ _ lt1 0, nn _ _ lt1 1, nn _ _ lt2 4, nn _ _ lt2 3, nn _ _ lt2 0, nn _ _ lt2 1⟩
  refine ⟨s1.heap.objs.size + 4, [s1.heap.objs.size + 4, s1.heap.objs.size + 2, s1.heap.objs.size + 3, s1.heap.objs.size, s1.heap.objs.size + 1], _, _, H1, rfl, I1.kept (t' := s1.toks) hk, turn_zip D, ⟨b1, b2, ⟨_, _, b3⟩, b4, b5⟩, fun b hb => ?_, q⟩
  have ge : s1.heap.objs.size ≤ b := by
    simp only [List.mem_cons, List.not_mem_nil, or_false] at hb
    rcases hb with rfl | rfl | rfl | rfl | rfl
    · exact Nat.le_add_right _ _
    · exact Nat.le_add_right _ _
    · exact Nat.le_add_right _ _
    · exact Nat.le_refl _
    · exact Nat.le_add_right _ _
  exact I1.fpOk ge (I1.hok.fresh ge)
/-! freezing a dict, and letting it go -/
theorem Inv.freeze {pins : List (Addr × Obj)} {σ : St} {H : Hp} {s : Shared} {d : Addr} {kvs : List (Key × V)} {o : Obj} (I : Inv X pins σ H s) (e : H d = some (.dK kvs)) (ho : s.heap.get? d = some o) : Inv X pins σ (upd H d (.frz o (.dK kvs))) s := by
  have ne : ∀ b u, H b = some u → u ≠ .dK kvs → b ≠ d := fun b u q n z => by rw [z, e] at q; cases q; exact n rfl
  have kp : ∀ b u, H b = some u → u ≠ .dK kvs → upd H d (.frz o (.dK kvs)) b = some u := fun b u q n => by rw [upd_ne (ne b u q n)]; exact q
  refine I.un (h' := s.heap) (t' := s.toks) ⟨fun b _ q _ _ _ => q, fun b ob q _ _ _ => ⟨ob.slots, q⟩, fun b ob q n _ => ?_, fun b ob q _ => ⟨ob, q⟩, fun b xs q => kp b _ q (by intro z; cases z), fun b ob u q => kp b _ q (by intro z; cases z), fun b ps q => ⟨#[], by rw [kp b _ q (by intro z; cases z)]; simp⟩⟩ fun b u q => ?_
  · rw [upd_ne (fun z => by rw [z, e] at n; cases n)]; exact n
  · by_cases hb : b = d
    · subst hb
      rw [upd_same] at q; cases q
      exact ⟨ho, (I.hok _ _ e)⟩
    · rw [upd_ne hb] at q
      exact (I.hok b u q).stay (fun c v _ r => r) (fun c r => kp c _ r (by intro z; cases z)) fun c xs r => kp c _ r (by intro z; cases z)
theorem Inv.thaw {pins : List (Addr × Obj)} {σ : St} {H : Hp} {s : Shared} {d : Addr} {kvs : List (Key × V)} {o : Obj} (I : Inv X pins σ H s) (hX : ∀ o u, X.H₀ d ≠ some (.frz o u)) (e : H d = some (.frz o (.dK kvs))) : Inv X pins σ (upd H d (.dK kvs)) s := by
  have ne : ∀ b u, H b = some u → (∀ o v, u ≠ .frz o v) → b ≠ d := fun b u q n z => by rw [z, e] at q; cases q; exact n _ _ rfl
  have kp : ∀ b u, H b = some u → (∀ o v, u ≠ .frz o v) → upd H d (.dK kvs) b = some u := fun b u q n => by rw [upd_ne (ne b u q n)]; exact q
  have nn : ∀ b, H b = none → upd H d (.dK kvs) b = none := fun b q => by rw [upd_ne (fun z => by rw [z, e] at q; cases q)]; exact q
  have un : Un X.fs X.ex X.H₀ (upd H d (.dK kvs)) X.s₀.heap s.heap := by
    obtain ⟨b1, b2, b3, b4, b5, b6, b7⟩ := I.base
    refine ⟨b1, b2, fun b ob q n x => nn b (b3 b ob q n x), b4, fun b xs q => kp b _ (b5 b xs q) (by intro _ _ z; cases z), fun b ob u q => ?_, fun b ps q => ?_⟩
    · rw [upd_ne (fun z => hX ob u (by rw [← z]; exact q))]; exact b6 b ob u q
    · obtain ⟨m, q'⟩ := b7 b ps q
      exact ⟨m, kp b _ q' (by intro _ _ z; cases z)⟩
  refine { I with base := un, free := nn _ I.free, freeC := fun x c q => nn _ (I.freeC x c q), pin := fun p hp => ?_, hok := fun b u q => ?_ }
  · obtain ⟨p1, p2, p3⟩ := I.pin p hp
    exact ⟨p1, nn _ p2, p3⟩
  · by_cases hb : b = d
    · subst hb
      rw [upd_same] at q; cases q
      exact (I.hok _ _ e).2
    · rw [upd_ne hb] at q
      exact (I.hok b u q).stay (fun c v _ r => r) (fun c r => kp c _ r (by intro _ _ z; cases z)) fun c xs r => kp c _ r (by intro _ _ z; cases z)
theorem Inv.notFrz {pins : List (Addr × Obj)} {σ : St} {H : Hp} {s : Shared} {d : Addr} {kvs : List (Key × V)} (I : Inv X pins σ H s) (e : H d = some (.dK kvs)) : ∀ o u, X.H₀ d ≠ some (.frz o u) := fun o u q => by
  have := I.base.frzs d o u q
  rw [e] at this; cases this
/-- an expression that freezes the dict at d meanwhile -/
def tThaw (t : TE) : TE := fun σ H Q => ∃ d kvs, H d = some (.dK kvs) ∧ t σ H fun v H1 => ∃ o, H1 d = some (.frz o (.dK kvs)) ∧ Q v (upd H1 d (.dK kvs))
/-! a dict's pairs -/
/-- the view d.items() -/
def ViewO (v d : Addr) : HO := .ext fun h => h.IsItemsView v d
def rItems : V → List V → Hp → VK → Prop := fun x vs H Q => ∃ d kvs, x = .ref d ∧ vs = [] ∧ H d = some (.dK kvs) ∧ ∀ v, H v = none → Q (.ref v) (upd H v (ViewO v d))
end
def Iti (d : Addr) (o : Obj) (kvs : List (Key × V)) : It :=
  ⟨fun i H => H d = some (.frz o (.dK kvs)) ∧ i < kvs.length, fun i H v H' => ∃ T k x, v = .ref T ∧ H T = none ∧ kvs[i]? = some (k, x) ∧ H' = upd H T (.tup [kV k, x]), fun i H => H d = some (.frz o (.dK kvs)) ∧ kvs.length ≤ i⟩
def ItemIt (h : Heap) (it d : Addr) (o : Obj) (n i : Nat) : Prop := ∃ es ep ok ov, o.data = .dict es ep ∧ IsItemIter h it d i n ep ok ov
theorem kV_of {P : Program} {w : World} {k : Key} {u : Value} (h : (mixKind P w).is k u = true) : RelV (kV k) u := by
  rcases keyIs_shape (show keyIs k u = true from h) with ⟨i, t, rfl, rfl⟩ | ⟨x, t, rfl, rfl⟩
  · exact ⟨t, rfl⟩
  · exact ⟨t, rfl⟩
theorem KV.get {kvs : List (Key × V)} {vs : List (Key × Value)} (r : KV kvs vs) : ∀ {i : Nat} {k : Key} {x : V}, kvs[i]? = some (k, x) → ∃ u, vs[i]? = some (k, u) ∧ RelV x u := by
  induction r with
  | nil => intro i k x e; simp at e
  | @cons p q l1 l2 h t ih =>
    intro i k x e
    cases i with
    | zero =>
      simp at e
      subst e
      exact ⟨q.2, by simp only [List.getElem?_cons_zero, Option.some.injEq]; exact Prod.ext h.1.symm rfl, h.2⟩
    | succ i => exact ih (by simpa using e)
def iView (tl : TE) : TI := fun σ H R => tl σ H fun x H1 => ∃ v d kvs, x = .ref v ∧ H1 v = some (ViewO v d) ∧ H1 d = some (.dK kvs) ∧ ∀ o, R (Iti d o kvs) (upd H1 d (.frz o (.dK kvs)))
section
variable {X : Cx}
end
end L2
namespace L2
open PySem PySem.Spec PyProof.Rows
section
variable {g : TG} {tt : TT} {te : TE}
end
end L2

/-! ### all, any, list(d), slices of texts, names of Python's own -/
namespace L2
open PySem PySem.Spec PyProof.Rows
theorem bt_int : bootBuiltins "int" = some (.type "int") := by decide +kernel
theorem bt_bool : bootBuiltins "bool" = some (.type "bool") := by decide +kernel
theorem bt_dict : bootBuiltins "dict" = some (.type "dict") := by decide +kernel
theorem bt_isinstance : bootBuiltins "isinstance" = some (.builtin "isinstance") := by decide +kernel
theorem bt_all : bootBuiltins "all" = some (.builtin "all") := by decide +kernel
theorem bt_len : bootBuiltins "len" = some (.builtin "len") := by decide +kernel
theorem bt_abs : bootBuiltins "abs" = some (.builtin "abs") := by decide +kernel
theorem bt_max : bootBuiltins "max" = some (.builtin "max") := by decide +kernel
theorem bt_sum : bootBuiltins "sum" = some (.builtin "sum") := by decide +kernel
theorem all_range (bs : List Bool) (d : Bool) : (List.range bs.length).all (fun i => bs.getD i d) = bs.all id := by
  induction bs with
  | nil => rfl
  | cons b bs ih =>
    rw [List.length_cons, List.range_succ_eq_map, List.all_cons, List.all_map, List.all_cons, ← ih]
    rfl
theorem bools_get {bs : List Bool} {us : List Value} (r : Vals (bs.map V.bl) us) {i : Nat} {v : Value} (h : us[i]? = some v) : v = .bool (bs.getD i true) := by
  have hl : (bs.map V.bl).length = us.length := r.length
  have hi : i < bs.length := by
    have := (List.getElem?_eq_some_iff.mp h).1
    rw [List.length_map] at hl
    omega
  obtain ⟨u, hu, ru⟩ := r.get (i := i) (x := .bl bs[i]) (by simp [hi])
  rw [h] at hu; cases hu
  rw [List.getD_eq_getElem?_getD, List.getElem?_eq_getElem hi]
  exact ru
section
variable {X : Cx}
theorem call_allB : CallR X (.builtin "all") (fun xs H Q => ∃ p, ∃ bs : List Bool, xs = [.ref p] ∧ SqL X.K H p (bs.map V.bl) ∧ Q (.bl (bs.all id)) H) := by
  intro pins s σ H xs us Q I r h
  obtain ⟨p, bs, rfl, hq, q⟩ := h
  obtain ⟨u, rfl, ru⟩ := vals1 r
  obtain rfl : u = Value.ref p := ru
  obtain ⟨its, rv, pl, _⟩ := I.list hq
  obtain ⟨cs, hcs, ch⟩ := I.hd.chain
  have hlt : p < s.heap.objs.size := by obtain ⟨o, e, _⟩ := pl.isList; exact Heap.lt_size e
  have hnc : s.heap.objs.size ∉ cs := fun z => Nat.lt_irrefl _ (ch.lt _ z)
  have hlen : its.length = bs.length := by rw [← rv.length, List.length_map]
  refine call_all_walk (wpAny_pyIter_list pl.isList ⟨s.heap.objs.size, _, _, _, _, _, fun i => bs.getD i true, rfl, walks_list (A := X.A.in1) hcs s.heap.objs.size p (Nat.ne_of_lt hlt) hnc its.toArray, ⟨⟨_, Heap.get?_push_size _ rfl, rfl, rfl⟩, pl.isList.push _, ch.mono fun b o _ e => Heap.get?_push_of_some _ e⟩, ?_, fun h' tk hk => ?_⟩)
  · intro i v s' Q' E' hv hQ'
    have hv' : its[i]? = some v := by simpa using hv
    rw [bools_get rv hv']
    exact wpAny_truthy_bool hQ'
  · have e : (List.range its.toArray.size).all (fun i => bs.getD i true) = bs.all id := by rw [List.size_toArray, hlen]; exact all_range bs true
    rw [e]
    exact ⟨.bl _, H, I.kept fun b o e => hk b o (fun z => by
      have : b = s.heap.objs.size := by simpa using z
      exact absurd (Heap.lt_size e) (by rw [this]; exact Nat.lt_irrefl _)) (Heap.get?_push_of_some _ e), rfl, q⟩
end
end L2

/-! ### rules for a block's own context: what hangs on the text stands by its name -/
namespace L2
open PySem PySem.Spec PyProof.Rows
section
variable {X : Cx} {K : PySem.W.Frag} (hK : X.K = K)
include hK
theorem pgK_tup {es : List Expr} {k : Nat} {pos : Pos} {t : TGs} {n : Nat} (hc : X.calm = true) (h : PGs X es t) (hn : (assignEach es X.env).length = n := by rfl) (hst : (assignEach es X.env).findIdx? (·.1) = none := by rfl) : PG X (.Tuple es k pos) (gTup K n t) := hK ▸ pg_tup hc h hn hst
def rLenSeq (K : PySem.W.Frag) : List V → Hp → VK → Prop := fun xs H Q => ∃ p ys, xs = [.ref p] ∧ (SqL K H p ys ∨ SqT K H p ys) ∧ Q (.int ys.length) H
def rIsi (K : PySem.W.Frag) : List V → Hp → VK → Prop := fun xs H Q => ∃ x c k t b, xs = [x, c] ∧ clsOf c = some k ∧ TyOf K H x t ∧ PySem.W.kitOne K t k = some b ∧ Q (.bl b) H
def rListOf (K : PySem.W.Frag) : List V → Hp → VK → Prop := fun xs H Q => ∃ p ys, xs = [.ref p] ∧ (SqL K H p ys ∨ SqT K H p ys) ∧ ∀ l, H l = none → Q (.ref l) (upd H l (.lst ys))
end
end L2

/-! ### min of two, sorted of a dict of ints, index of True; all while an exception may be handled -/
namespace L2
open PySem PySem.Spec PyProof.Rows
section
variable {prog : Program} {w : World} {A : Around} {E : Value → Shared → Prop} {s : Shared} {cs : List Addr}
theorem walks_tup (hc : HdC A cs) (I ax : Addr) (hne : ax ≠ I) (hI : I ∉ cs) (items : Array Value) :
    Walks prog w A I (I :: ax :: cs) [I] items.size (fun i v => items[i]? = some v) (fun i h => h.IsTupleIter I ax i ∧ h.IsTuple ax items ∧ Chn h cs) where
  sub := fun b hb => by simp at hb; simp [hb]
  frame := fun _ _ _ st hk => ⟨st.1.at fun o e => hk I (by simp) o e, st.2.1.at fun o e => hk ax (by simp) o e, st.2.2.mono fun b o hb e => hk b (by simp [hb]) o e⟩
  item := fun i s Q E hi st hQ => by
    refine wpAny_pyNext_tuple_item st.1 st.2.1 (x := items[i]) (by simp [hi]) fun h' hit' hs' => ?_
    exact hQ _ h' s.toks (by simp [hi]) ⟨hit', st.2.1.extBut hs'.extBut hne, st.2.2.but hI hs'.extBut⟩ fun b o hb e => hs'.extBut b o (fun h => hb (by simp [h])) e
  done := fun s Q E st hQ => tup_endH (hc.hd st.2.2) st.1 st.2.1 (by simp) fun h' he' => hQ h' s.toks fun b o hb e => he' b o (fun h => hb (by simp [h])) e
  self := fun _ _ _ _ st hQ => wpAny_pyIter_tupleiter st.1 hQ
section
variable {κ : Type} [DecidableEq κ] {knd : KeyKind prog w κ}
end
end
section
variable {X : Cx}
def rIndexT (K : PySem.W.Frag) : V → List V → Hp → VK → Prop := fun x vs H Q => ∃ l, ∃ bs : List Bool, ∃ j : Nat, x = .ref l ∧ vs = [.bl true] ∧ H l = some (.lst (bs.map V.bl)) ∧ bs[j]? = some true ∧ (∀ i, i < j → bs[i]? = some false) ∧ Q (.int (j : Int)) H
end
end L2

/-! ### max of two, sum of a list of ints, is of truths; all while an exception may be handled -/
namespace L2
open PySem PySem.Spec PyProof.Rows
section
variable {prog : Program} {w : World} {A : Around} {E : Value → Shared → Prop} {s : Shared} {cs : List Addr}
theorem max2H {a b : Int} {t u : Tok} {Q : Value → Shared → Prop} (hc : HdC A cs) (ch : Chn s.heap cs)
    (h : ∀ h' tk, (∀ c o, s.heap.get? c = some o → h'.get? c = some o) → Q (if b > a then .int b u else .int a t) { s with heap := h', toks := tk }) :
    wpAny (model prog w) A (call (.builtin "max") [.int a t, .int b u]) Q E s := by
  have hT : (s.heap.push { cls := .type "tuple", data := .seq #[.int a t, .int b u] }).IsTuple s.heap.objs.size (intItems #[(a, t), (b, u)]) := ⟨_, Heap.get?_push_size _ rfl, rfl, 0, by simp [intItems]⟩
  refine call_max_two (wpAny_pyIter_tuple hT ?_)
  have hsz : (s.heap.push { cls := .type "tuple", data := .seq #[.int a t, .int b u] }).objs.size = s.heap.objs.size + 1 := Heap.size_push ..
  have ns : ∀ k, s.heap.objs.size ≤ k → k ∉ cs := fun k hk z => absurd (ch.lt _ z) (Nat.not_lt.mpr hk)
  refine ⟨_, _, [_], _, _, _, _, rfl, walks_tup (A := A.in1) hc _ s.heap.objs.size (by rw [hsz]; exact Nat.ne_of_lt (Nat.lt_succ_self _)) (ns _ (by rw [hsz]; exact Nat.le_succ _)) (intItems #[(a, t), (b, u)]),
    ⟨⟨_, Heap.get?_push_size _ rfl, rfl, rfl⟩, hT.push _, ch.mono fun b o _ e => Heap.get?_push_of_some _ (Heap.get?_push_of_some _ e)⟩, fun c hc => ?_, by simp [intItems], CmpOf.ints_gt (numAt #[(a, t), (b, u)]) (fun _ _ => intItems_at), fun v h' tk hP hk => ?_⟩
  · show c < ((s.heap.push _).push _).objs.size
    rw [Heap.size_push, hsz]
    rcases List.mem_cons.mp hc with rfl | hc
    · rw [hsz]; exact Nat.lt_succ_self _
    · rcases List.mem_cons.mp hc with rfl | hc
      · exact Nat.lt_succ_of_lt (Nat.lt_succ_self _)
      · exact Nat.lt_of_lt_of_le (ch.lt _ hc) (by omega)
  · have hold : ∀ c o, s.heap.get? c = some o → h'.get? c = some o := fun c o e => by
      refine hk c o (fun hm => ?_) (Heap.get?_push_of_some _ (Heap.get?_push_of_some _ e))
      have e1 := List.mem_singleton.mp hm
      have := Heap.lt_size e
      rw [e1, hsz] at this
      exact Nat.lt_irrefl _ (Nat.lt_of_succ_lt this)
    have := h h' tk hold
    have hv : v = if b > a then Value.int b u else Value.int a t := by
      have hP' : (intItems #[(a, t), (b, u)])[argBest (fun i j => decide (numAt #[(a, t), (b, u)] i > numAt #[(a, t), (b, u)] j)) 1]? = some v := by
        have hsz2 : (intItems #[(a, t), (b, u)]).size - 1 = 1 := by simp [intItems]
        rw [← hsz2]; exact hP
      by_cases hba : b > a
      · have e : argBest (fun i j => decide (numAt #[(a, t), (b, u)] i > numAt #[(a, t), (b, u)] j)) 1 = 1 := by simp [argBest, numAt, hba]
        rw [e] at hP'
        simpa [intItems, hba] using hP'.symm
      · have e : argBest (fun i j => decide (numAt #[(a, t), (b, u)] i > numAt #[(a, t), (b, u)] j)) 1 = 0 := by simp [argBest, numAt, hba]
        rw [e] at hP'
        simpa [intItems, hba] using hP'.symm
    rw [hv]; exact this
end
section
variable {X : Cx}
theorem call_max2H : CallR X (.builtin "max") (fun xs H Q => ∃ i j, xs = [.int i, .int j] ∧ Q (.int (if j > i then j else i)) H) := by
  intro pins s σ H xs us Q I r h
  obtain ⟨i, j, rfl, q⟩ := h
  obtain ⟨u, w', rfl, ⟨t, rfl⟩, ⟨t', rfl⟩⟩ := vals2 r
  obtain ⟨cs, hcs, ch⟩ := I.hd.chain
  refine max2H hcs ch fun h' tk k => ⟨_, H, I.kept k, ?_, q⟩
  by_cases hj : j > i
  · rw [if_pos hj, if_pos hj]; exact ⟨_, rfl⟩
  · rw [if_neg hj, if_neg hj]; exact ⟨_, rfl⟩
theorem ints_get {ns : List Int} {us : List Value} (r : Vals (ns.map V.int) us) {i : Nat} {v : Value} (h : us[i]? = some v) : ∃ t, v = .int (ns.getD i 0) t := by
  induction ns generalizing us i with
  | nil =>
    cases r
    simp at h
  | cons n ns ih =>
    cases r with
    | cons rv rr =>
      cases i with
      | zero =>
        obtain ⟨t, rfl⟩ := rv
        simp at h
        exact ⟨t, h.symm⟩
      | succ i => exact ih rr (by simpa using h)
theorem preSum_nil (f : Nat → Int) (ns : List Int) (h : ∀ i, f i = ns.getD i 0) : preSum f ns.length = ns.sum := by
  have e : f = fun i => ns.getD i 0 := funext h
  rw [e, preSum_getD, List.take_length]
theorem call_sum : CallR X (.builtin "sum") (fun xs H Q => ∃ p, ∃ ns : List Int, xs = [.ref p] ∧ SqL X.K H p (ns.map V.int) ∧ Q (.int ns.sum) H) := by
  intro pins s σ H xs us Q I r h
  obtain ⟨p, ns, rfl, hq, q⟩ := h
  obtain ⟨u, rfl, ru⟩ := vals1 r
  obtain rfl : u = Value.ref p := ru
  obtain ⟨its, rv, pl, _⟩ := I.list hq
  obtain ⟨cs, hcs, ch⟩ := I.hd.chain
  have hlt : p < s.heap.objs.size := by obtain ⟨o, e, _⟩ := pl.isList; exact Heap.lt_size e
  have hnc : s.heap.objs.size ∉ cs := fun z => Nat.lt_irrefl _ (ch.lt _ z)
  have hlen : its.length = ns.length := by rw [← rv.length, List.length_map]
  refine call_sum_walkG (wpAny_pyIter_list pl.isList ⟨s.heap.objs.size, _, _, _, _, _, fun i => ns.getD i 0, rfl, walks_list (A := X.A.in1) hcs s.heap.objs.size p (Nat.ne_of_lt hlt) hnc its.toArray, ⟨⟨_, Heap.get?_push_size _ rfl, rfl, rfl⟩, pl.isList.push _, ch.mono fun b o _ e => Heap.get?_push_of_some _ e⟩, ?_, ?_, fun h' tk t' hk => ?_⟩)
  · intro b hb
    show b < (s.heap.push _).objs.size
    rw [Heap.size_push]
    rcases List.mem_cons.mp hb with rfl | hb
    · exact Nat.lt_succ_self _
    · rcases List.mem_cons.mp hb with rfl | hb
      · exact Nat.lt_succ_of_lt hlt
      · exact Nat.lt_succ_of_lt (ch.lt _ hb)
  · intro i v hv
    exact ints_get rv (by simpa using hv)
  · have e : preSum (fun i => ns.getD i 0) its.toArray.size = ns.sum := by rw [List.size_toArray, hlen]; exact preSum_nil _ _ fun _ => rfl
    rw [e]
    exact ⟨.int _, H, I.kept fun b o e => hk b o (fun z => by
      have : b = s.heap.objs.size := by simpa using z
      exact absurd (Heap.lt_size e) (by rw [this]; exact Nat.lt_irrefl _)) (Heap.get?_push_of_some _ e), ⟨_, rfl⟩, q⟩
end
end L2

/-! ### lists, tuples and data on the heap, for every law -/
namespace L2
open PySem
/-! lists of a length -/
theorem len1 {P : List Value → Prop} (h : ∀ a0, P [a0]) : ∀ us : List Value, us.length = 1 → P us
  | [a0], _ => h a0
theorem len2 {P : List Value → Prop} (h : ∀ a0 a1, P [a0, a1]) : ∀ us : List Value, us.length = 2 → P us
  | [a0, a1], _ => h a0 a1
theorem len4 {P : List Value → Prop} (h : ∀ a0 a1 a2 a3, P [a0, a1, a2, a3]) : ∀ us : List Value, us.length = 4 → P us
  | [a0, a1, a2, a3], _ => h a0 a1 a2 a3
theorem iteOr {A B : Prop} {b : Bool} (hb : b = false) (h : B) : if b = true then A else B := by
  subst hb
  exact iteF h
theorem iteB {A B : Prop} {b : Bool} (h1 : b = true → A) (h2 : b = false → B) : if b = true then A else B := by
  cases b with
  | true => exact iteT (h1 rfl)
  | false => exact iteF (h2 rfl)
/-- tuples are kept -/
def isTup : HO → Bool
  | .tup _ => true
  | .frz _ (.tup _) => true
  | _ => false
def Tk (H H' : Hp) : Prop := ∀ b o, H b = some o → isTup o = true → H' b = some o
theorem Tk.of {H H' : Hp} (e : Same H H') : Tk H H' := fun b o h _ => e b o h
theorem Tk.trans {H H1 H2 : Hp} (a : Tk H H1) (b : Tk H1 H2) : Tk H H2 := fun c o h z => b c o (a c o h z) z
theorem Tk.upd {H : Hp} {c : Addr} {u o : HO} (h : H c = some u) (n : isTup u = false) : Tk H (L2.upd H c o) := fun b w e z => by
  have : b ≠ c := fun q => by subst q; rw [h] at e; cases e; rw [n] at z; cases z
  rw [upd_ne this]
  exact e
theorem Tk.sqT {K : PySem.W.Frag} {H H' : Hp} {a : Addr} {xs : List V} (e : Tk H H') (h : SqT K H a xs) : SqT K H' a xs := by
  rcases h with (h | ⟨o, h⟩) | h
  · exact .inl (.inl (e _ _ h rfl))
  · exact .inl (.inr ⟨o, e _ _ h rfl⟩)
  · exact .inr h
mutual
def noLst : Dt → Bool
  | .lst _ => false
  | .tup ds => noLsts ds
  | _ => true
def noLsts : List Dt → Bool
  | [] => true
  | d :: ds => noLst d && noLsts ds
end
mutual
theorem Tk.dt {K : PySem.W.Frag} {H H' : Hp} (e : Tk H H') : ∀ {d : Dt} {x : V}, noLst d = true → DtV K H d x → DtV K H' d x
  | .non, _, _, h => h
  | .bl _, _, _, h => h
  | .int _, _, _, h => h
  | .str _, _, _, h => h
  | .lst ds, _, z, h => by cases z
  | .tup ds, _, z, h => by
    obtain ⟨a, xs, e1, h1, h2⟩ := h
    exact ⟨a, xs, e1, e.sqT h1, e.dts z h2⟩
theorem Tk.dts {K : PySem.W.Frag} {H H' : Hp} (e : Tk H H') : ∀ {ds : List Dt} {xs : List V}, noLsts ds = true → DtVs K H ds xs → DtVs K H' ds xs
  | [], _, _, h => h
  | d :: ds, _, z, h => by
    obtain ⟨y, ys, e1, h1, h2⟩ := h
    have z' := (Bool.and_eq_true _ _).mp z
    exact ⟨y, ys, e1, e.dt z'.1 h1, e.dts z'.2 h2⟩
end
theorem noLsts_map {α : Type} {f : α → Dt} (h : ∀ x, noLst (f x) = true) : ∀ l : List α, noLsts (l.map f) = true
  | [] => rfl
  | x :: l => by
    show (noLst (f x) && noLsts (l.map f)) = true
    rw [h x, noLsts_map h l]
    rfl
theorem dts_get {K : PySem.W.Frag} {H : Hp} {α : Type} {f : α → Dt} {l : List α} {xs : List V} {i : Nat} {x : V} (h : DtVs K H (l.map f) xs) (e : xs[i]? = some x) : ∃ q, l[i]? = some q ∧ DtV K H (f q) x := by
  have hi : i < l.length := by
    have h1 := h.length
    rw [List.length_map] at h1
    have := (List.getElem?_eq_some_iff.mp e).1
    omega
  obtain ⟨q, hq⟩ := get_of hi
  obtain ⟨y, hy, hd⟩ := h.get (j := i) (d := f q) (by rw [List.getElem?_map, hq]; rfl)
  rw [e] at hy
  cases hy
  exact ⟨q, hq, hd⟩
theorem take_snoc {α : Type} {l : List α} {i : Nat} {q : α} (h : l[i]? = some q) : l.take (i + 1) = l.take i ++ [q] := by
  rw [List.take_add_one, h]
  rfl
/-- sames, mosts, arrows: the asker's own -/
def Tps (H : Hp) (xs : List V) : Prop := ∀ x ∈ xs, ∃ q zs, x = V.ref q ∧ H q = some (.tup zs)
theorem Tps.snoc {H : Hp} {xs : List V} {z : Addr} {zs : List V} (h : Tps H xs) (hz : H z = some (.tup zs)) : Tps H (xs ++ [.ref z]) := fun x hx => by
  rcases List.mem_append.mp hx with q | q
  · exact h x q
  · exact ⟨z, zs, List.mem_singleton.mp q, hz⟩
theorem Tps.nil {H : Hp} : Tps H [] := fun x hx => by simp at hx
theorem at_int {ns : List Int} {k : Int} (h0 : 0 ≤ k) (h1 : k < ns.length) : ∃ c, atI (ns.map V.int) k = some (.int c) := by
  refine ⟨ns.getD k.toNat 0, ?_⟩
  unfold atI ixN
  rw [if_pos h0, if_pos (by rw [List.length_map]; exact h1)]
  show (ns.map V.int)[k.toNat]? = _
  rw [List.getElem?_map, List.getD_eq_getElem?_getD, List.getElem?_eq_getElem (show k.toNat < ns.length by omega)]
  rfl
theorem at_str {ss : List Str} {k : Int} (h0 : 0 ≤ k) (h1 : k < ss.length) : ∃ s, s ∈ ss ∧ atI (ss.map V.str) k = some (.str s) := by
  have hk : k.toNat < ss.length := by omega
  refine ⟨ss[k.toNat], List.getElem_mem hk, ?_⟩
  unfold atI ixN
  rw [if_pos h0, if_pos (by rw [List.length_map]; exact h1)]
  show (ss.map V.str)[k.toNat]? = _
  rw [List.getElem?_map, List.getElem?_eq_getElem hk]
  rfl
theorem at_cons0 {x : V} {r : List V} : atI (x :: r) 0 = some x := by
  unfold atI ixN
  rw [if_pos (by decide), if_pos (by rw [List.length_cons]; omega)]
  rfl
theorem at_cons1 {x y : V} {r : List V} : atI (x :: y :: r) 1 = some y := by
  unfold atI ixN
  rw [if_pos (by decide), if_pos (by rw [List.length_cons, List.length_cons]; omega)]
  rfl
theorem join {C I : Hp → Prop} {G : Prop} (h : ∀ H, I H → C H) (g : (∀ H, I H → C H) → G) : G := g h
theorem cut_ints (ns : List Int) (lo hi : Option Int) : ∃ ms : List Int, cutV (ns.map V.int) lo hi = ms.map V.int ∧ ms.length ≤ ns.length := by
  refine ⟨(ns.drop (HT.sIx (ns.map V.int).length 0 lo)).take (HT.sIx (ns.map V.int).length (ns.map V.int).length hi - HT.sIx (ns.map V.int).length 0 lo), ?_, ?_⟩
  · unfold cutV
    rw [List.map_take, List.map_drop]
  · rw [List.length_take, List.length_drop]
    omega
/-- what follows an if is proved once: by the values that differ -/
theorem joinS {α : Type} {f : St → Hp → Prop} (σ : α → St) (I : α → Hp → Prop) {G : Prop} (h : ∀ x H, I x H → f (σ x) H) (g : (∀ x H, I x H → f (σ x) H) → G) : G := g h
/-- an int out of a list of ints -/
def pz (ps : List Int) (k : Int) : Int := ps.getD k.toNat 0
theorem at_nat {α : Type} {xs : List α} {k : Int} (h0 : 0 ≤ k) : atI xs k = xs[k.toNat]? := by
  unfold atI ixN
  rw [if_pos h0]
  by_cases h : k < xs.length
  · rw [if_pos h]; rfl
  · rw [if_neg h]
    show none = _
    rw [List.getElem?_eq_none (by omega)]
end L2

/-! ### enumerate of a list; for over zip and enumerate; min and max of a list of ints -/
namespace L2
open PySem PySem.Spec PyProof.Rows
def Ite (K : PySem.W.Frag) (l : Addr) : It :=
  ⟨fun i H => ∃ xs x, SqL K H l xs ∧ xs[i]? = some x,
   fun i H v H' => ∃ T x, v = .ref T ∧ H T = none ∧ H' = upd H T (.tup [.int i, x]) ∧ ∀ xs, SqL K H l xs → xs[i]? = some x,
   fun i H => ∃ xs, SqL K H l xs ∧ xs.length ≤ i⟩
section
variable {prog : Program} {w : World} {A : Around} {E : Value → Shared → Prop} {s : Shared}
theorem enum_endH {e it l : Addr} {i : Nat} {items : Array Value} {old : Value} {Q : Option Value → Shared → Prop} (hd : Hd A s.heap)
    (he : IsEnum s.heap e it i old) (hit : s.heap.IsListIter it l i) (hl : s.heap.IsList l items) (hx : items[i]? = none)
    (hQ : ∀ h', Heap.ExtBut it s.heap h' → Q none { s with heap := h' }) : wpAny (model prog w) A (pyNext (.ref e)) Q E s := by
  have ht : s.TypeIs (.ref e) "enumerate" := ⟨_, he, rfl⟩
  unfold pyNext
  refine wpAny_bind (wpAny_attempt (wpAny_callSpecial?_slot (name := Str.ofString "__next__") ht F.slot_enumerate_next (wpAny_call_entry F.slot_enumerate_next ht F.entry_enumerate_next ?_ (F.args_enumerate_next_1 _))))
  refine (show wpAny _ _ (field (.ref e) 2 >>= _) _ _ _ from wpAny_bind (wpAny_field he rfl (x := .ref it) rfl ?_))
  refine wpAny_bind (next_endH (A := A.in1) hd hit hl hx fun h' x he' hx' => ?_)
  obtain ⟨o, ho, hc⟩ := hx'
  exact wpAny_bind (wpAny_isInstance (T := "StopIteration") (b := true) ⟨o, ho, hc⟩ isSubtype_stop (wpAny_pure (hQ _ he')))
end
def EnumIt (h : Heap) (e it l : Addr) (i : Nat) : Prop := ∃ old, IsEnum h e it (i : Int) old ∧ h.IsListIter it l i
theorem turn_enum {P : Program} {w : World} {K : PySem.W.Frag} {es : List Expr} {k : Nat} {pos : Pos} {e it l : Addr} (hne : e ≠ it) :
    Turn P w K (.Tuple es k pos) (Ite K l) [e, it] e (fun i h => EnumIt h e it l i) where
  mem := by simp
  obj := fun i h st b hb => by
    obtain ⟨old, he, ⟨o1, e1, c1, d1⟩⟩ := st
    simp only [List.mem_cons, List.not_mem_nil, or_false] at hb
    rcases hb with rfl | rfl
    · exact ⟨_, he, fun v q => by simp at q⟩
    · exact ⟨_, e1, fun v q => by rw [d1] at q; cases q⟩
  keep := fun i h h' st k => by
    obtain ⟨old, he, h1⟩ := st
    exact ⟨old, k e (by simp) _ he, h1.at fun o q => k it (by simp) o q⟩
  item := by
    intro X hP hw hK hc i pins s σ H E I hf st hg
    subst hP hw hK
    obtain ⟨xs, x, q1, hx⟩ := hg
    obtain ⟨old, he, h1⟩ := st
    obtain ⟨its, rv, pl, _⟩ := I.list q1
    obtain ⟨u, hu, ru⟩ := rv.get hx
    have nf : ∀ b ∈ [e, it], b ∉ frs X.stack := fun b hb q => (List.mem_cons.mp (I.stkSub b q)).elim (hf b hb).2.1 (hf b hb).2.2.1
    refine wpAny_pyNext_enum_item he h1 pl.isList (x := u) (by simpa using hu) hne fun h' a1 a2 a3 a4 hk => ⟨_, rfl, ?_⟩
    refine wpAny_letOwnedTupleGo_enum (s := { s with heap := h', toks := s.toks + 1 }) a1 fun h'' hz' hs' => ?_
    replace hs' : Heap.SameBut e h' h'' := hs'
    have hTn : H s.heap.objs.size = none := I.hok.fresh (Nat.le_refl _)
    have lte := Heap.lt_size he
    have old' : ∀ b o, b ≠ e → b ≠ it → s.heap.get? b = some o → h''.get? b = some o := fun b o n1 n2 q => hs'.extBut b o n1 (hk b o n1 n2 q)
    have I1 : Inv X pins σ (upd H s.heap.objs.size (.tup [.int i, x])) { s with heap := s.heap.push { cls := .type "tuple", data := .seq #[.int i s.toks, u] }, toks := s.toks + 1 } :=
      I.laid (t' := s.toks + 1) (fun b o q => Heap.get?_push_of_some _ q) (Nat.le_refl _) ⟨by show 2 ≤ sizeLine; decide, [.int i s.toks, u], .cons ⟨_, rfl⟩ (.cons ru .nil), ⟨_, Heap.get?_push_size _ rfl, rfl, _, rfl⟩⟩
    have fp1 : ∀ b ∈ [e, it], FpOk X pins (upd H s.heap.objs.size (.tup [.int i, x])) b := fun b hb => by
      obtain ⟨f0, r⟩ := hf b hb
      refine ⟨?_, r⟩
      have lt : b < s.heap.objs.size := by
        simp only [List.mem_cons, List.not_mem_nil, or_false] at hb
        rcases hb with rfl | rfl
        · exact lte
        · obtain ⟨o, q, _⟩ := h1; exact Heap.lt_size q
      rw [upd_ne (Nat.ne_of_lt lt)]; exact f0
    have I2 : Inv X pins σ (upd H s.heap.objs.size (.tup [.int i, x])) { s with heap := h'', toks := s.toks + 1 } := by
      have back : ∀ b o, (s.heap.push { cls := .type "tuple", data := .seq #[.int i s.toks, u] }).get? b = some o → b ≠ e → b ≠ it → h''.get? b = some o := fun b o q n1 n2 => by
        rcases Heap.get?_push_cases q with ⟨rfl, rfl⟩ | q
        · exact hs'.extBut _ _ n1 a3
        · exact old' b o n1 n2 q
      refine I1.slots (ch := [e, it]) (tk := s.toks + 1) fp1 (fun b o _ hc q => ?_) (fun b o hb q => ⟨o.slots, ?_⟩) (fun b hb o q => ?_)
      · simp only [List.mem_cons, List.not_mem_nil, or_false, not_or] at hc
        exact back b o q hc.1 hc.2
      · exact back b o q (fun z => nf e (by simp) (z ▸ hb)) (fun z => nf it (by simp) (z ▸ hb))
      · simp only [List.mem_cons, List.not_mem_nil, or_false] at hb
        rcases hb with rfl | rfl
        · exact ⟨_, hz'⟩
        · obtain ⟨o, q, _⟩ := a2; exact ⟨_, hs'.extBut _ _ hne.symm q⟩
    refine ⟨.ref s.heap.objs.size, _, I2, rfl, ⟨_, x, rfl, hTn, rfl, fun xs' q => by rw [I.list_inj q q1]; exact hx⟩, ?_, fun b hb => (fp1 b hb).1⟩
    exact ⟨u, hz', a2.extBut hs'.extBut hne.symm⟩
  done := by
    intro X hP hw hK hc i pins s σ H E I hf st hg
    subst hP hw hK
    obtain ⟨xs, q1, hlen⟩ := hg
    obtain ⟨old, he, h1⟩ := st
    obtain ⟨its, rv, pl, _⟩ := I.list q1
    have e1 := rv.length
    have nf : ∀ b ∈ [e, it], b ∉ frs X.stack := fun b hb q => (List.mem_cons.mp (I.stkSub b q)).elim (hf b hb).2.1 (hf b hb).2.2.1
    refine enum_endH I.hd he h1 pl.isList (by simp; omega) fun h' hk => ⟨rfl, ?_⟩
    refine I.slot0 (ch := [e, it]) (tk := s.toks) hf (fun b o _ hc q => ?_) (fun b o hb q => ⟨o.slots, ?_⟩)
    · simp only [List.mem_cons, List.not_mem_nil, or_false, not_or] at hc
      exact hk b o hc.2 q
    · exact hk b o (fun z => nf it (by simp) (z ▸ hb)) q
  self := fun _ _ s _ _ st h => by
    obtain ⟨old, he, _⟩ := st
    exact wpAny_pyIter_enum he h
def iEnum (K : PySem.W.Frag) (ta : TA) : TI := fun σ H R => ta σ H fun vs H1 => ∃ l, vs = [.ref l] ∧ (∃ xs, SqL K H1 l xs) ∧ R (Ite K l) H1
section
variable {X : Cx}
theorem pi_enumerate {es : List Expr} {k : Nat} {tpos p pos : Pos} {a : Expr} {ta : TA} (hg : Gl X "enumerate") (hm : X.mg "enumerate" = none) (ha : PA X [a] ta) (hs : starEach [a] X.env = [(false, eval a X.env)] := by rfl) :
    PI X (.Tuple es k tpos) (.Call (.Name "enumerate" p) [a] [] pos) (iEnum X.K ta) := by
  intro pins s σ H R I h
  refine Call_ (ld_blt I hg hm boot_enumerate (PyProof.Rows.callWith_type1 (thn (ha pos pins s σ H _ I h) fun us s1 ⟨vs, H1, I1, r1, l, e, ⟨xs, q1⟩, q⟩ => ?_) hs rfl))
  subst e
  obtain ⟨u, rfl, ru⟩ := vals1 r1
  obtain rfl : u = Value.ref l := ru
  obtain ⟨its, rv, pl, _⟩ := I1.list q1
  refine call_enumerate_list pl.isList fun h' b1 b2 b3 hk => ?_
  refine wpAny_pyIter_enum (s := { s1 with heap := h' }) b1 ?_
  refine ⟨s1.heap.objs.size + 1, [s1.heap.objs.size + 1, s1.heap.objs.size], _, _, H1, rfl, I1.kept (t' := s1.toks) hk, turn_enum (Nat.ne_of_gt (Nat.lt_succ_self _)), ⟨_, b1, b2⟩, fun b hb => ?_, q⟩
  have ge : s1.heap.objs.size ≤ b := by
    simp only [List.mem_cons, List.not_mem_nil, or_false] at hb
    rcases hb with rfl | rfl
    · exact Nat.le_add_right _ _
    · exact Nat.le_refl _
  exact I1.fpOk ge (I1.hok.fresh ge)
theorem for_enum {K : PySem.W.Frag} {l : Addr} {xs : List V} {g : TG} {tb : TS} {D : Ends} {σ : St} {H : Hp} (Pv : Nat → St → Hp → Prop) (h0 : Pv 0 σ H) (hl : ∀ i σ H, i ≤ xs.length → Pv i σ H → SqL K H l xs)
    (hs : ∀ i x T σ H, xs[i]? = some x → H T = none → Pv i σ H → g (.ref T) σ (upd H T (.tup [.int i, x])) fun σ2 H2 => tb { D with nx := Pv (i + 1), ct := Pv (i + 1), bk := D.nx } σ2 H2) (hd : ∀ σ H, Pv xs.length σ H → D.nx σ H) :
    ∃ W : Nat → Nat → St → Hp → Prop, (∃ m, W 0 m σ H) ∧ ∀ i m σ H, W i m σ H →
      ((Ite K l).stop i H ∧ D.nx σ H) ∨ ((Ite K l).go i H ∧ ∃ N : St → Hp → Prop, (∀ σ' H', N σ' H' → ∃ m', m' < m ∧ W (i + 1) m' σ' H') ∧ ∀ x H', (Ite K l).yld i H x H' → g x σ H' fun σ2 H2 => tb { D with nx := N, ct := N, bk := D.nx } σ2 H2) := by
  refine ⟨fun i m σ H => m = xs.length - i ∧ i ≤ xs.length ∧ Pv i σ H, ⟨xs.length, by simp, Nat.zero_le _, h0⟩, ?_⟩
  rintro i m σ H ⟨rfl, hi, p⟩
  have q := hl i σ H hi p
  by_cases hlt : i < xs.length
  · refine .inr ⟨⟨xs, xs[i], q, by simp [hlt]⟩, Pv (i + 1), fun σ' H' p' => ⟨xs.length - (i + 1), by omega, rfl, hlt, p'⟩, fun v H' y => ?_⟩
    obtain ⟨T, x, rfl, hT, rfl, hx⟩ := y
    exact hs i x T σ H (hx xs q) hT p
  · have e : i = xs.length := by omega
    subst e
    exact .inl ⟨⟨xs, q, Nat.le_refl _⟩, hd σ H p⟩
end
end L2

/-! ### min and max of a list of ints, with a default too -/
namespace L2
open PySem PySem.Spec PyProof.Rows
section
variable {prog : Program} {w : World} {A : Around} {R : Result → Shared → Prop} {I : Addr} {fp wr : List Addr} {n : Nat} {P : Nat → Value → Prop} {St : Nat → Heap → Prop}
end
section
variable {X : Cx}
end

section
variable {prog : Program} {w : World} {A : Around} {R : Result → Shared → Prop} {I : Addr} {fp wr : List Addr} {n : Nat} {P : Nat → Value → Prop} {St : Nat → Heap → Prop}
end
section
variable {X : Cx}
end
section
variable {X : Cx}
def rGetL (K : PySem.W.Frag) : V → V → Hp → VK → Prop := fun o i H Q => ∃ p xs k v, o = .ref p ∧ i = .int k ∧ SqL K H p xs ∧ 0 ≤ k ∧ xs[k.toNat]? = some v ∧ Q v H
end
end L2

/-! ### in, not in: a list of data (tuples) -/
namespace L2
open PySem PySem.Spec PyProof.Rows
def rInD (K : PySem.W.Frag) (neg : Bool) : R2 := fun x y H Q => ∃ p ds xs d, y = .ref p ∧ SqL K H p xs ∧ DtVs K H ds xs ∧ DtV K H d x ∧ DeepsLe 50 ds ∧ Q (.bl (if neg then !(ds.any fun e => eqD e d) else ds.any fun e => eqD e d)) H
section
variable {X : Cx} {pins : List (Addr × Obj)} {σ : St} {H : Hp} {s : Shared}
open Classical in
end
end L2

/-! ### set of a list of ints, its len; all while an exception may be handled -/
namespace L2
open PySem PySem.Spec PyProof.Rows
section
variable {prog : Program} {w : World} {A : Around} {E : Value → Shared → Prop} {s : Shared} {cs : List Addr}
end
section
variable {X : Cx}
end
end L2

/-! ### list(reversed(l)); all while an exception may be handled -/
namespace L2
open PySem PySem.Spec PyProof.Rows
section
variable {prog : Program} {w : World} {A : Around} {E : Value → Shared → Prop} {s : Shared} {cs : List Addr}
end
section
variable {X : Cx}
end
end L2

/-! ### sorted of a list of strings -/
namespace L2
open PySem PySem.Spec PyProof.Rows
section
variable {X : Cx}
end
end L2

/-! ### list.insert, list.index of texts, zip of two lists of unlike lengths -/
namespace L2
open PySem PySem.Spec PyProof.Rows
section
variable {X : Cx}
def rInsert : V → List V → Hp → VK → Prop := fun x vs H Q => ∃ l xs i y, x = .ref l ∧ vs = [.int i, y] ∧ H l = some (.lst xs) ∧ 0 ≤ i ∧ i ≤ xs.length ∧ xs.length < sizeLine ∧ Q .non (upd H l (.lst (xs.take i.toNat ++ y :: xs.drop i.toNat)))
def rIndexS : V → List V → Hp → VK → Prop := fun x vs H Q => ∃ l, ∃ ss : List Str, ∃ y, ∃ j : Nat, x = .ref l ∧ vs = [.str y] ∧ H l = some (.lst (ss.map V.str)) ∧ ss[j]? = some y ∧ (∀ i, i < j → ss[i]? ≠ some y) ∧ Q (.int (j : Int)) H
end
theorem comp_zipS {K : PySem.W.Frag} {l1 l2 D : Addr} {xs ys : List V} {n : Nat} {g : TG} {tt : TT} {te : TE} {τ : St} {H : Hp} {Q : VK} (h1 : n ≤ xs.length) (h2 : n ≤ ys.length) (h3 : xs.length = n ∨ ys.length = n) (Pv : Nat → St → Hp → Prop) (h0 : Pv 0 τ H) (hl : ∀ i τ H, i ≤ n → Pv i τ H → SqL K H l1 xs ∧ SqL K H l2 ys)
    (hs : ∀ i x y T τ H, i < n → xs[i]? = some x → ys[i]? = some y → H T = none → Pv i τ H → g (.ref T) τ (upd H T (.tup [x, y])) fun τ2 H2 => tt τ2 H2 fun b H3 =>
      if b = true then te τ2 H3 fun y H4 => ∃ ys, H4 D = some (.lst ys) ∧ ys.length < sizeLine ∧ Pv (i + 1) τ2 (upd H4 D (.lst (ys ++ [y]))) else Pv (i + 1) τ2 H3)
    (hd : ∀ τ H, Pv n τ H → Q (.ref D) H) : CompW (Itz K l1 l2) D τ H g tt te Q := by
  refine ⟨fun i m τ H => m = n - i ∧ i ≤ n ∧ Pv i τ H, ⟨n, by simp, Nat.zero_le _, h0⟩, ?_⟩
  rintro i m τ H ⟨rfl, hi, p⟩
  obtain ⟨q1, q2⟩ := hl i τ H hi p
  by_cases hlt : i < n
  · have hx : i < xs.length := by omega
    have hy : i < ys.length := by omega
    refine .inr ⟨⟨xs, ys, xs[i], ys[i], q1, q2, by simp [hx], by simp [hy]⟩, Pv (i + 1), fun τ' H' p' => ⟨n - (i + 1), by omega, rfl, hlt, p'⟩, fun v H' y => ?_⟩
    obtain ⟨T, x, y, rfl, hT, rfl, hx, hy⟩ := y
    exact hs i x y T τ H hlt (hx xs q1) (hy ys q2) hT p
  · have e : i = n := by omega
    subst e
    exact .inl ⟨⟨xs, ys, q1, q2, by omega⟩, hd τ H p⟩
theorem cut_tail (xs : List V) : cutV xs (some 1) none = xs.drop 1 := by
  unfold cutV
  rw [HT.sIx_none]
  have e : HT.sIx xs.length 0 (some 1) = min 1 xs.length := by
    unfold HT.sIx
    dsimp only
    rw [if_neg (by decide)]
    rfl
  rw [e]
  cases xs with
  | nil => rfl
  | cons x l =>
    have : min 1 (x :: l).length = 1 := by rw [List.length_cons]; omega
    rw [this]
    exact List.take_of_length_le (by simp)
theorem dget_k {H : Hp} {a : Addr} {kvs : List (Key × V)} {k : Key} {v : V} (e : H a = some (.dK kvs)) (h : valV kvs k = some v) : DGet H a (kV k) (some v) := h ▸ DGet.k e
theorem none_of {H H' : Hp} {r : Addr} (s : Same H H') (h : H' r = none) : H r = none := by
  cases e : H r with
  | none => rfl
  | some o =>
    rw [s _ _ e] at h
    cases h
theorem same_upd {H H' : Hp} {d : Addr} {o : HO} (nd : H d = none) (s : Same H H') : Same H (upd H' d o) := fun b u e => by
  rw [upd_ne (ne_of_none e nd)]
  exact s b u e
theorem refs_at {rs : List Addr} {i : Nat} {x : V} (h : (rs.map V.ref)[i]? = some x) : ∃ r, rs[i]? = some r ∧ x = .ref r := by
  rw [List.getElem?_map] at h
  cases e : rs[i]? with
  | none => rw [e] at h; cases h
  | some n => rw [e] at h; exact ⟨n, rfl, (Option.some.inj h).symm⟩
theorem strs_at {ss : List Str} {i : Nat} {x : V} (h : (ss.map V.str)[i]? = some x) : ∃ r, ss[i]? = some r ∧ x = .str r := by
  rw [List.getElem?_map] at h
  cases e : ss[i]? with
  | none => rw [e] at h; cases h
  | some n => rw [e] at h; exact ⟨n, rfl, (Option.some.inj h).symm⟩
theorem cut_strs (ns : List Str) (lo hi : Option Int) : ∃ ms : List Str, cutV (ns.map V.str) lo hi = ms.map V.str ∧ ms.length ≤ ns.length := by
  refine ⟨(ns.drop (HT.sIx (ns.map V.str).length 0 lo)).take (HT.sIx (ns.map V.str).length (ns.map V.str).length hi - HT.sIx (ns.map V.str).length 0 lo), ?_, ?_⟩
  · unfold cutV
    rw [List.map_take, List.map_drop]
  · rw [List.length_take, List.length_drop]
    omega
end L2

/-! ### a dict's keys in turn; a copy of a dict -/
namespace L2
open PySem PySem.Spec PyProof.Rows
def Itk (d : Addr) (o : Obj) (kvs : List (Key × V)) : It :=
  ⟨fun i H => H d = some (.frz o (.dK kvs)) ∧ i < kvs.length, fun i H v H' => H' = H ∧ ∃ k x, v = kV k ∧ kvs[i]? = some (k, x), fun i H => H d = some (.frz o (.dK kvs)) ∧ kvs.length ≤ i⟩
def KeyIt (h : Heap) (it d : Addr) (o : Obj) (n i : Nat) : Prop := ∃ es ep, o.data = .dict es ep ∧ h.IsKeyIter it d i n ep
theorem turn_keys {P : Program} {w : World} {K : PySem.W.Frag} {tg : Expr} {it d : Addr} {o : Obj} {kvs : List (Key × V)} : Turn P w K tg (Itk d o kvs) [it] it (fun i h => KeyIt h it d o kvs.length i) where
  mem := by simp
  obj := fun i h st b hb => by
    have e : b = it := by simpa using hb
    subst e
    obtain ⟨_, _, _, ob, e, _, hd⟩ := st
    exact ⟨ob, e, fun v q => by rw [hd] at q; cases q⟩
  keep := fun i h h' st kk => by
    obtain ⟨a, b, q, y⟩ := st
    exact ⟨a, b, q, y.at fun ob e => kk it (by simp) ob e⟩
  item := by
    intro X hP hw hK hc i pins s σ H E I hf st hg
    subst hP hw hK
    obtain ⟨hd, hlt⟩ := hg
    obtain ⟨es', ep, hdat, hit⟩ := st
    obtain ⟨f0, f1, f2, f3, f4, f5⟩ := hf it (by simp)
    obtain ⟨ho, hdk⟩ := I.hok _ _ hd
    obtain ⟨z, hsm, vs, rel, ⟨o', es2, ep2, ho2, hx2, hd2, r2⟩⟩ := hdk
    rw [ho] at ho2; cases ho2
    rw [hdat] at hd2; cases hd2
    have dat : s.heap.DictAt (mixKind X.prog X.w) d vs ep := ⟨o, es', ho, hx2, hdat, r2⟩
    obtain ⟨⟨kk, x⟩, hx⟩ : ∃ p, kvs[i]? = some p := ⟨kvs[i], by simp [hlt]⟩
    obtain ⟨u, hu, ru⟩ := rel.get hx
    have hlen : kvs.length = vs.length := rel.length
    rw [hlen] at hit
    refine wpAny_pyNext_dict_item hit dat hu fun key h' hkey hit' hs' => ?_
    have I1 : Inv X pins σ H { s with heap := h' } := I.turned (t' := s.toks) (fun b o hb e => hs'.extBut b o hb e) f0 f1 f3 f4 f5
    obtain ⟨oi, ei, ci, di⟩ := id hit'
    exact ⟨key, rfl, go_of (s := { s with heap := h' }) ei ci di (by decide) ⟨kV kk, H, I1, kV_of hkey, ⟨rfl, kk, x, rfl, hx⟩, ⟨es', ep, hdat, by rw [hlen]; exact hit'⟩, fun b hb => (hf b hb).1⟩⟩
  done := by
    intro X hP hw hK hc i pins s σ H E I hf st hg
    subst hP hw hK
    obtain ⟨hd, hge⟩ := hg
    obtain ⟨es', ep, hdat, hit⟩ := st
    obtain ⟨f0, f1, f2, f3, f4, f5⟩ := hf it (by simp)
    obtain ⟨ho, hdk⟩ := I.hok _ _ hd
    obtain ⟨z, hsm, vs, rel, ⟨o', es2, ep2, ho2, hx2, hd2, r2⟩⟩ := hdk
    rw [ho] at ho2; cases ho2
    rw [hdat] at hd2; cases hd2
    have dat : s.heap.DictAt (mixKind X.prog X.w) d vs ep := ⟨o, es', ho, hx2, hdat, r2⟩
    have hlen : kvs.length = vs.length := rel.length
    rw [hlen] at hit
    exact dict_endH I.hd hit dat (List.getElem?_eq_none (by rw [← hlen]; exact hge)) fun h' eb => ⟨rfl, I.turned (t' := s.toks) (fun b o hb e => eb b o hb e) f0 f1 f3 f4 f5⟩
  self := fun _ _ _ _ _ st h => by
    obtain ⟨es', ep, hdat, hit⟩ := st
    exact wpAny_pyIter_keyiter hit h
def iKeys (tl : TE) : TI := fun σ H R => tl σ H fun x H1 => ∃ d kvs, x = .ref d ∧ H1 d = some (.dK kvs) ∧ ∀ o, R (Itk d o kvs) (upd H1 d (.frz o (.dK kvs)))
section
variable {X : Cx}
theorem pi_dict {tg l : Expr} {tl : TE} (hl : PE X l tl) : PI X tg l (iKeys tl) := by
  intro pins s σ H R I h
  refine thn (hl pins s σ H _ I h) fun w s1 ⟨x, H1, I1, r1, d, kvs, e, hd, q⟩ => ?_
  subst e
  obtain rfl : w = Value.ref d := r1
  obtain ⟨z, hsm, vs, rel, dd⟩ := dk_of I1.hok hd
  obtain ⟨o, es', ep, ho, hx, hdat, r⟩ := id dd
  have dat : s1.heap.DictAt (mixKind X.prog X.w) d vs ep := ⟨o, es', ho, hx, hdat, r⟩
  refine wpAny_pyIter_dict hsm dat ?_
  have I2 := (I1.freeze hd ho).kept (t' := s1.toks) (h' := s1.heap.push { cls := .type "dict_keyiterator", data := .fields #[.ref d, .int 0 0, .int vs.length 0, .int ep 0] }) fun b o e => Heap.get?_push_of_some _ e
  refine ⟨s1.heap.objs.size, [s1.heap.objs.size], _, _, _, rfl, I2, turn_keys, ⟨es', ep, hdat, ?_⟩, fun b hb => ?_, q o⟩
  · rw [rel.length]; exact ⟨_, Heap.get?_push_size _ rfl, rfl, rfl⟩
  · have e : b = s1.heap.objs.size := by simpa using hb
    subst e
    refine I1.fpOk (Nat.le_refl _) ?_
    rw [upd_ne (Ne.symm (Nat.ne_of_lt (Heap.lt_size ho)))]
    exact I1.hok.fresh (Nat.le_refl _)
theorem for_keys {d : Addr} {o : Obj} {kvs : List (Key × V)} {g : TG} {tb : TS} {D : Ends} {σ : St} {H : Hp} (Pv : Nat → St → Hp → Prop) (h0 : Pv 0 σ H) (hf : ∀ i σ H, i ≤ kvs.length → Pv i σ H → H d = some (.frz o (.dK kvs)))
    (hs : ∀ i k x σ H, kvs[i]? = some (k, x) → Pv i σ H → g (kV k) σ H fun σ2 H2 => tb { D with nx := Pv (i + 1), ct := Pv (i + 1), bk := D.nx } σ2 H2) (hd : ∀ σ H, Pv kvs.length σ H → D.nx σ H) :
    ∃ W : Nat → Nat → St → Hp → Prop, (∃ m, W 0 m σ H) ∧ ∀ i m σ H, W i m σ H →
      ((Itk d o kvs).stop i H ∧ D.nx σ H) ∨ ((Itk d o kvs).go i H ∧ ∃ N : St → Hp → Prop, (∀ σ' H', N σ' H' → ∃ m', m' < m ∧ W (i + 1) m' σ' H') ∧ ∀ x H', (Itk d o kvs).yld i H x H' → g x σ H' fun σ2 H2 => tb { D with nx := N, ct := N, bk := D.nx } σ2 H2) := by
  refine ⟨fun i m σ H => m = kvs.length - i ∧ i ≤ kvs.length ∧ Pv i σ H, ⟨kvs.length, by simp, Nat.zero_le _, h0⟩, ?_⟩
  rintro i m σ H ⟨rfl, hi, p⟩
  have q := hf i σ H hi p
  by_cases hlt : i < kvs.length
  · refine .inr ⟨⟨q, hlt⟩, Pv (i + 1), fun σ' H' p' => ⟨kvs.length - (i + 1), by omega, rfl, hlt, p'⟩, fun v H' y => ?_⟩
    obtain ⟨rfl, k, x, rfl, hx⟩ := y
    exact hs i k x σ _ hx p
  · have e : i = kvs.length := by omega
    subst e
    exact .inl ⟨⟨q, Nat.le_refl _⟩, hd σ H p⟩
/-- a statement that freezes the dict at d meanwhile; where it leaves the def the dict stays so -/
def sThaw (t : TS) : TS := fun D σ H => ∃ d kvs, H d = some (.dK kvs) ∧ t { D with nx := fun σ1 H1 => ∃ o, H1 d = some (.frz o (.dK kvs)) ∧ D.nx σ1 (upd H1 d (.dK kvs)), ct := fun _ _ => False, bk := fun _ _ => False, rt := fun v H1 => ∃ o, H1 d = some (.frz o (.dK kvs)) ∧ D.rt v (upd H1 d (.dK kvs)) } σ H
theorem ps_thaw {st : Stmt} {t : TS} (h : PS X st t) : PS X st (sThaw t) := by
  intro pins s σ H D I q
  obtain ⟨d, kvs, hd, q⟩ := q
  have nf := I.notFrz hd
  refine thn (h pins s σ H _ I q) fun f s1 q1 => ?_
  cases f with
  | next =>
    obtain ⟨σ1, H1, I1, o, e1, q1⟩ := q1
    exact ⟨σ1, _, I1.thaw nf e1, q1⟩
  | brk =>
    obtain ⟨_, _, _, z⟩ := q1
    exact z.elim
  | cont =>
    obtain ⟨_, _, _, z⟩ := q1
    exact z.elim
  | ret u =>
    obtain ⟨v, σ1, H1, I1, r, o, e1, q1⟩ := q1
    exact ⟨v, σ1, _, I1.thaw nf e1, r, q1⟩
theorem call_dictD : CallR X (.type "dict") (fun xs H Q => ∃ d kvs, xs = [.ref d] ∧ H d = some (.dK kvs) ∧ ∀ l, H l = none → Q (.ref l) (upd H l (.dK kvs))) := by
  intro pins s σ H xs us Q I r h
  obtain ⟨d, kvs, rfl, e, q⟩ := h
  obtain ⟨u, rfl, ru⟩ := vals1 r
  obtain rfl : u = Value.ref d := ru
  obtain ⟨z, hsm, vs, rel, dd⟩ := dk_of I.hok e
  refine kt_call_dict hsm dd (by rw [← rel.length]; exact z) fun h' hd' hs' => ?_
  have ne : (s.heap.objs.size == sysModules) = false := (dk_empty (P := X.prog) (w := X.w) (H := H) s.heap I.big).2.1
  refine ⟨.ref s.heap.objs.size, _, I.laid (a := s.heap.objs.size) (o := .dK kvs) (t' := s.toks) (fun b o q => hs'.extBut b o (Nat.ne_of_lt (Heap.lt_size q)) (Heap.get?_push_of_some _ q)) (Nat.le_refl _) ⟨z, ne, vs, rel, hd'⟩, rfl, q _ (I.hok.fresh (Nat.le_refl _))⟩
end
end L2

/-! ### dict.setdefault -/
namespace L2
open PySem PySem.Spec PyProof.Rows
section
variable {X : Cx}
def rSetD : V → List V → Hp → VK → Prop := fun x vs H Q => ∃ d kvs k v, x = .ref d ∧ vs = [kV k, v] ∧ H d = some (.dK kvs) ∧ kvs.length < sizeLine ∧ (∀ u, valV kvs k = some u → Q u H) ∧ (valV kvs k = none → Q v (upd H d (.dK (putK kvs k v))))
end
end L2

/-! ### lists of texts -/
namespace L2
open PySem PySem.Spec PyProof.Rows
def strsOf : List Expr → Option (List Str)
  | [] => some []
  | .Constant (.str x) _ _ :: es => (strsOf es).map (x :: ·)
  | _ => none
section
variable {X : Cx}
theorem pa_strs : ∀ {es : List Expr} {xs : List Str}, strsOf es = some xs → PA X es (fun _ H Q => Q (xs.map V.str) H)
  | [], _, h => by
    cases h
    exact pa_nil
  | e :: es, xs, h => by
    cases e with
    | Constant c j p =>
      cases c with
      | str x =>
        cases q : strsOf es with
        | none =>
          unfold strsOf at h
          rw [q] at h
          cases h
        | some ys =>
          unfold strsOf at h
          rw [q] at h
          cases h
          exact pa_cons pe_str (pa_strs q) rfl
      | _ => cases h
    | _ => cases h
end
end L2
namespace L2
open PySem PySem.Spec PyProof.Rows
/-- a long list of texts, cut: as a rule that rewrites (an application of ps_set would walk through the list's meaning) -/
theorem ps_cutStrs {X : Cx} {x y : Str} {i : Nat} {es : List Expr} {xs : List Str} {n : Int} {j : Nat} {p1 p2 p3 q1 q2 q3 pos pos' : Pos} {ty : TE} (hxs : strsOf es = some xs) (hy : PE X (.Name y q1) ty) (hN : X.N.Nodup) (hi : X.N[i]? = some x) (hx : Loc X.env.scope x)
    (hs : swapsWith (.Subscript (.List es p1) (.Slice none (some (.BinOp (.Name y q1) .Mod (.Constant (.int n) j q2) q3)) none p2) p3) (some (.Name x pos')) pos.line X.env = pure false) (hf : X.fn x = true ∨ X.env.scope.names.lookup x = some .local) :
    PS X (.Assign [.Name x pos'] (.Subscript (.List es p1) (.Slice none (some (.BinOp (.Name y q1) .Mod (.Constant (.int n) j q2) q3)) none p2) p3) pos) (tAsg (tSl (rSlL X.K) (tLst fun _ H Q => Q (xs.map V.str) H) tNoPart (tPart (tOp (rI (fun _ j => 0 < j) fun i j => .int (i % j)) ty (tC (.int n))))) (gName i)) = True :=
  eq_true (ps_set hN hi hx (pe_slice sl_list (pe_lst (pa_strs hxs)) po_none (po_some (pe_op op_mod hy pe_int))) hs hf)
end L2

namespace K62
open PySem L2
def top (i : Nat) : Stmt := PySem.Challenge.pw_layerdraw_k62_gaps_and_costs.main.body.getD i (.Pass ⟨0, 0, 0, 0⟩)
abbrev s_apart : Stmt := top 1
theorem sc_apart : FnScope ["halves", "gap", "left", "right"] ["halves", "gap", "left", "right"] (defScope s_apart) := ⟨rfl, rfl, rfl, by decide +kernel, rfl, by decide +kernel, by decide +kernel⟩
abbrev s_neighbours : Stmt := top 2
theorem sc_neighbours : FnScope ["rows", "found", "row"] ["rows"] (defScope s_neighbours) := ⟨rfl, rfl, rfl, by decide +kernel, rfl, by decide +kernel, by decide +kernel⟩
abbrev s_keeps_gap : Stmt := top 3
theorem sc_keeps_gap : FnScope ["rows", "halves", "gap", "places"] ["rows", "halves", "gap", "places"] (defScope s_keeps_gap) := ⟨rfl, rfl, rfl, by decide +kernel, rfl, by decide +kernel, by decide +kernel⟩
abbrev s_cost_of : Stmt := top 4
theorem sc_cost_of : FnScope ["lines", "places"] ["lines", "places"] (defScope s_cost_of) := ⟨rfl, rfl, rfl, by decide +kernel, rfl, by decide +kernel, by decide +kernel⟩
abbrev s__law_cell_at : Stmt := top 6
theorem sc__law_cell_at : FnScope ["_law_script", "_law_k"] ["_law_script", "_law_k"] (defScope s__law_cell_at) := ⟨rfl, rfl, rfl, by decide +kernel, rfl, by decide +kernel, by decide +kernel⟩
abbrev s__law_mixed : Stmt := top 7
theorem sc__law_mixed : FnScope ["_law_cell", "_law_k", "_law_number"] ["_law_cell", "_law_k"] (defScope s__law_mixed) := ⟨rfl, rfl, rfl, by decide +kernel, rfl, by decide +kernel, by decide +kernel⟩
abbrev s__law_rows : Stmt := top 8
theorem sc__law_rows : FnScope ["_law_script", "_law_first", "_law_marks", "_law_rows_here", "_law_halves", "_law_k", "_law_mark"] ["_law_script"] (defScope s__law_rows) := ⟨rfl, rfl, rfl, by decide +kernel, rfl, by decide +kernel, by decide +kernel⟩
abbrev s__law_lines : Stmt := top 9
theorem sc__law_lines : FnScope ["_law_cells", "_law_marks", "_law_lines_here", "_law_cell", "_law_one", "_law_other", "_law_weight"] ["_law_cells", "_law_marks"] (defScope s__law_lines) := ⟨rfl, rfl, rfl, by decide +kernel, rfl, by decide +kernel, by decide +kernel⟩
abbrev s__law_places : Stmt := top 10
theorem sc__law_places : FnScope ["_law_script", "_law_rows_here", "_law_halves", "_law_gap", "_law_cell", "_law_places_here", "_law_k", "_law_row", "_law_at", "_law_j", "_law_mark", "_law_far", "_law_more"] ["_law_script", "_law_rows_here", "_law_halves", "_law_gap"] (defScope s__law_places) := ⟨rfl, rfl, rfl, by decide +kernel, rfl, by decide +kernel, by decide +kernel⟩
abbrev s__law_keeps : Stmt := top 11
theorem sc__law_keeps : FnScope ["_law_rows_here", "_law_halves", "_law_gap", "_law_places_here", "_law_row", "_law_j", "_law_left", "_law_right", "_law_least"] ["_law_rows_here", "_law_halves", "_law_gap", "_law_places_here"] (defScope s__law_keeps) := ⟨rfl, rfl, rfl, by decide +kernel, rfl, by decide +kernel, by decide +kernel⟩
abbrev s__law_cost : Stmt := top 12
theorem sc__law_cost : FnScope ["_law_lines_here", "_law_places_here", "_law_whole", "_law_one", "_law_other", "_law_weight"] ["_law_lines_here", "_law_places_here"] (defScope s__law_cost) := ⟨rfl, rfl, rfl, by decide +kernel, rfl, by decide +kernel, by decide +kernel⟩
abbrev s_law : Stmt := top 13
theorem sc_law : FnScope ["_law_script", "_law_marks", "_law_rows_here", "_law_halves", "_law_lines_here", "_law_gap", "_law_places_here", "_law_handed", "_law_turn", "_law_found", "_law_price", "_law_mark"] ["_law_script"] (defScope s_law) := ⟨rfl, rfl, rfl, by decide +kernel, rfl, by decide +kernel, by decide +kernel⟩
structure Adr where
  unit : Unit := ()
structure Tx (K : PySem.W.Frag) (mg : Str → Option Value) (a : Adr) : Prop where
  d_apart : Def K mg "apart" s_apart ["halves", "gap", "left", "right"] []
  d_neighbours : Def K mg "neighbours" s_neighbours ["rows"] []
  d_keeps_gap : Def K mg "keeps_gap" s_keeps_gap ["rows", "halves", "gap", "places"] []
  d_cost_of : Def K mg "cost_of" s_cost_of ["lines", "places"] []
  d__law_cell_at : Def K mg "_law_cell_at" s__law_cell_at ["_law_script", "_law_k"] []
  d__law_mixed : Def K mg "_law_mixed" s__law_mixed ["_law_cell", "_law_k"] []
  d__law_rows : Def K mg "_law_rows" s__law_rows ["_law_script"] []
  d__law_lines : Def K mg "_law_lines" s__law_lines ["_law_cells", "_law_marks"] []
  d__law_places : Def K mg "_law_places" s__law_places ["_law_script", "_law_rows_here", "_law_halves", "_law_gap"] []
  d__law_keeps : Def K mg "_law_keeps" s__law_keeps ["_law_rows_here", "_law_halves", "_law_gap", "_law_places_here"] []
  d__law_cost : Def K mg "_law_cost" s__law_cost ["_law_lines_here", "_law_places_here"] []
  d_law : Def K mg "law" s_law ["_law_script"] []
  kb_int_int : PySem.W.kitOne K (.type "int") (.type "int") = some true
  kb_int_bool : PySem.W.kitOne K (.type "int") (.type "bool") = some false
  kb_bool_bool : PySem.W.kitOne K (.type "bool") (.type "bool") = some true
  n_abs : mg "abs" = none
  n_all : mg "all" = none
  n_bool : mg "bool" = none
  n_dict : mg "dict" = none
  n_enumerate : mg "enumerate" = none
  n_int : mg "int" = none
  n_isinstance : mg "isinstance" = none
  n_len : mg "len" = none
  n_max : mg "max" = none
  n_range : mg "range" = none
  n_sum : mg "sum" = none
  n_zip : mg "zip" = none

end K62
namespace K62
open PySem L2
/-! rows of marks with halves and places -/
abbrev Kvs := List (Key × V)
abbrev Row := List Str
abbrev Ln := Str × Str
def lnD (q : Ln) : Dt := .tup [.str q.1, .str q.2]
/-- the lists at rs are the rows -/
def Rw (H : Hp) : List Addr → List Row → Prop
  | [], [] => True
  | r :: rs, row :: rows => H r = some (.lst (row.map V.str)) ∧ Rw H rs rows
  | _, _ => False
theorem Rw.mono {H H' : Hp} (s : ∀ (r : Addr) (row : Row), H r = some (.lst (row.map V.str)) → H' r = some (.lst (row.map V.str))) : ∀ {rs : List Addr} {rows : List Row}, Rw H rs rows → Rw H' rs rows
  | [], [], _ => trivial
  | r :: rs, row :: rows, h => ⟨s _ _ h.1, Rw.mono s h.2⟩
  | [], _ :: _, h => h.elim
  | _ :: _, [], h => h.elim
theorem Rw.same {H H' : Hp} (s : Same H H') {rs : List Addr} {rows : List Row} (h : Rw H rs rows) : Rw H' rs rows := h.mono fun _ _ e => s _ _ e
theorem Rw.len {H : Hp} : ∀ {rs : List Addr} {rows : List Row}, Rw H rs rows → rs.length = rows.length
  | [], [], _ => rfl
  | r :: rs, row :: rows, h => by rw [List.length_cons, List.length_cons, Rw.len h.2]
  | [], _ :: _, h => h.elim
  | _ :: _, [], h => h.elim
theorem Rw.at {H : Hp} : ∀ {rs : List Addr} {rows : List Row} {i : Nat} {r : Addr}, Rw H rs rows → rs[i]? = some r → ∃ row, rows[i]? = some row ∧ H r = some (.lst (row.map V.str))
  | [], [], _, _, _, e => by simp at e
  | r :: rs, row :: rows, 0, _, h, e => by
    cases e
    exact ⟨row, rfl, h.1⟩
  | r :: rs, row :: rows, i + 1, _, h, e => Rw.at (i := i) h.2 (by simpa using e)
  | [], _ :: _, _, _, h, _ => h.elim
  | _ :: _, [], _, _, h, _ => h.elim
theorem Rw.snoc {H : Hp} {r : Addr} {row : Row} (e : H r = some (.lst (row.map V.str))) : ∀ {rs : List Addr} {rows : List Row}, Rw H rs rows → Rw H (rs ++ [r]) (rows ++ [row])
  | [], [], _ => ⟨e, trivial⟩
  | _ :: _, _ :: _, h => ⟨h.1, Rw.snoc e h.2⟩
  | [], _ :: _, h => h.elim
  | _ :: _, [], h => h.elim
theorem Rw.upd {H : Hp} {l : Addr} {o : HO} : ∀ {rs : List Addr} {rows : List Row}, Rw H rs rows → (∀ r ∈ rs, r ≠ l) → Rw (L2.upd H l o) rs rows
  | [], [], _, _ => trivial
  | r :: rs, row :: rows, h, n => ⟨by rw [upd_ne (n r List.mem_cons_self)]; exact h.1, Rw.upd h.2 fun x hx => n x (List.mem_cons_of_mem _ hx)⟩
  | [], _ :: _, h, _ => h.elim
  | _ :: _, [], h, _ => h.elim
/-- one row is put anew -/
theorem Rw.put {H : Hp} {r : Addr} {row : Row} : ∀ {rs : List Addr} {rows : List Row} {i : Nat}, Rw H rs rows → rs.Nodup → rs[i]? = some r → Rw (L2.upd H r (.lst (row.map V.str))) rs (rows.set i row)
  | [], [], _, _, _, e => by simp at e
  | x :: rs, _ :: rows, 0, h, n, e => by
    have e' : x = r := by simpa using e
    subst e'
    rw [List.nodup_cons] at n
    refine ⟨upd_same, ?_⟩
    have go : ∀ {rs : List Addr} {rows : List Row}, x ∉ rs → Rw H rs rows → Rw (L2.upd H x (.lst (row.map V.str))) rs rows := by
      intro rs
      induction rs with
      | nil => intro rows _ h; cases rows with
        | nil => trivial
        | cons => exact h.elim
      | cons y rs ih => intro rows m h; cases rows with
        | nil => exact h.elim
        | cons => exact ⟨by rw [upd_ne (fun z => m (by rw [← z]; exact List.mem_cons_self))]; exact h.1, ih (fun z => m (List.mem_cons_of_mem _ z)) h.2⟩
    exact go n.1 h.2
  | x :: rs, _ :: rows, i + 1, h, n, e => by
    rw [List.nodup_cons] at n
    have e' : rs[i]? = some r := by simpa using e
    have ne : x ≠ r := fun z => n.1 (by rw [z]; exact List.mem_of_getElem? e')
    exact ⟨by rw [upd_ne ne]; exact h.1, Rw.put h.2 n.2 e'⟩
  | [], _ :: _, _, h, _, _ => h.elim
  | _ :: _, [], _, h, _, _ => h.elim
/-- a number stands for the text -/
def Has (kvs : Kvs) (s : Str) : Prop := ∃ i : Int, valV kvs (Sum.inr s) = some (.int i)
def gv (kvs : Kvs) (s : Str) : Int := match valV kvs (Sum.inr s) with
  | some (.int i) => i
  | _ => 0
theorem Has.gv {kvs : Kvs} {s : Str} (h : Has kvs s) : valV kvs (Sum.inr s) = some (.int (gv kvs s)) := by
  obtain ⟨i, e⟩ := h
  unfold K62.gv
  rw [e]
theorem gv_put (kvs : Kvs) (s t : Str) (i : Int) : gv (putK kvs (Sum.inr s) (.int i)) t = if t = s then i else gv kvs t := by
  unfold gv
  rw [valV_put]
  by_cases e : t = s
  · rw [if_pos e, if_pos (by rw [e])]
  · rw [if_neg e, if_neg (fun z => e (Sum.inr.inj z))]
theorem Has.put {kvs : Kvs} {s t : Str} {i : Int} (h : Has kvs t) : Has (putK kvs (Sum.inr s) (.int i)) t := by
  obtain ⟨j, e⟩ := h
  unfold Has
  rw [valV_put]
  by_cases z : t = s
  · rw [if_pos (by rw [z])]
    exact ⟨i, rfl⟩
  · rw [if_neg (fun y => z (Sum.inr.inj y))]
    exact ⟨j, e⟩
theorem Has.new {kvs : Kvs} {s : Str} {i : Int} : Has (putK kvs (Sum.inr s) (.int i)) s := by
  unfold Has
  rw [valV_put, if_pos rfl]
  exact ⟨i, rfl⟩
/-- neighbours -/
def nb (row : Row) : List Ln := row.zip (row.drop 1)
def nbs (rows : List Row) : List Ln := (rows.map nb).flatten
theorem nb_get {row : Row} {i : Nat} {x y : Str} (h1 : row[i]? = some x) (h2 : row[i + 1]? = some y) : (nb row)[i]? = some (x, y) := by
  unfold nb
  rw [List.getElem?_zip_eq_some]
  exact ⟨h1, by rw [List.getElem?_drop, Nat.add_comm]; exact h2⟩
theorem nb_len (row : Row) : (nb row).length = row.length - 1 := by
  unfold nb
  rw [List.length_zip, List.length_drop]
  omega
theorem nb_mem {row : Row} {q : Ln} (h : q ∈ nb row) : q.1 ∈ row ∧ q.2 ∈ row := by
  unfold nb at h
  have := List.of_mem_zip (a := q.1) (b := q.2) h
  exact ⟨this.1, List.mem_of_mem_drop this.2⟩
theorem nbs_mem {rows : List Row} {q : Ln} (h : q ∈ nbs rows) : ∃ row ∈ rows, q.1 ∈ row ∧ q.2 ∈ row := by
  unfold nbs at h
  obtain ⟨l, hl, hq⟩ := List.mem_flatten.mp h
  obtain ⟨row, hr, rfl⟩ := List.mem_map.mp hl
  exact ⟨row, hr, nb_mem hq⟩
theorem nbs_snoc {rows : List Row} {i : Nat} {row : Row} (h : rows[i]? = some row) : nbs (rows.take (i + 1)) = nbs (rows.take i) ++ nb row := by
  unfold nbs
  rw [take_snoc h, List.map_append, List.flatten_append]
  simp
def kp1 (hv qv : Kvs) (g : Int) (q : Ln) : Bool := decide (gv qv q.2 - gv qv q.1 ≥ gv hv q.1 + gv hv q.2 + g)
section
variable {P : Program} {w : World} {K : PySem.W.Frag} {mg : Str → Option Value} {base : Heap} {a : Adr}
theorem un_ln {H : Hp} {x : V} {q : Ln} (h : DtV K H (lnD q) x) : ∃ t, x = .ref t ∧ SqT K H t [.str q.1, .str q.2] := by
  obtain ⟨t, xs, rfl, h1, y1, ys1, rfl, rfl, y2, ys2, rfl, rfl, h2⟩ := h
  rw [show ys2 = [] from h2] at h1
  exact ⟨t, rfl, h1⟩
def spApart : Sp := fun vs H Q _ => ∃ h g l r kvs, vs = [.ref h, .int g, .str l, .str r] ∧ H h = some (.dK kvs) ∧ Has kvs l ∧ Has kvs r ∧ Q (.int (gv kvs l + gv kvs r + g)) H
theorem ok_apart (T : Tx K mg a) : Cal P w K mg base CX0 1 "apart" ["halves", "gap", "left", "right"] [] spApart := T.d_apart.cal fun f fd F => by
  refine F.ok sc_apart (fun vs H Q E h => ?_) (fun cdv A outer s H vs Q E hr h => ?_)
  · obtain ⟨h, g, l, r, kvs, rfl, _⟩ := h
    rfl
  · obtain ⟨h, g, l, r, kvs, rfl, hh, h1, h2, k⟩ := h
    refine ⟨_, (pss_one (ps_ret (pe_op op_add (pe_op op_add (pe_dget (hu_of hr) (pv 0) (pv 2) (fun _ _ => rfl)) (pe_dget (hu_of hr) (pv 0) (pv 3) (fun _ _ => rfl))) (pv 1)))), ?_⟩
    exact ⟨_, rfl, _, rfl, h, _, rfl, dget_k (k := Sum.inr l) hh h1.gv, _, rfl, _, rfl, h, _, rfl, dget_k (k := Sum.inr r) hh h2.gv, _, _, rfl, rfl, _, rfl, _, _, rfl, rfl, k⟩
/-- at l there is a list of these pairs -/
def LsAt (K : PySem.W.Frag) (H : Hp) (l : Addr) (ls : List Ln) : Prop := ∃ xs, H l = some (.lst xs) ∧ DtVs K H (ls.map lnD) xs
def spNbs (K : PySem.W.Frag) : Sp := fun vs H Q _ => ∃ l rs rows, vs = [.ref l] ∧ H l = some (.lst ((rs : List Addr).map V.ref)) ∧ Rw H rs rows ∧ rows.length ≤ 30 ∧ (∀ row ∈ rows, row.length ≤ 60) ∧ ∀ d H', Same H H' → LsAt K H' d (nbs rows) → (nbs rows).length ≤ 1800 → Q (.ref d) H'
set_option maxHeartbeats 4000000 in
theorem ok_neighbours (T : Tx K mg a) : Cal P w K mg base CX0 1 "neighbours" ["rows"] [] (spNbs K) := T.d_neighbours.cal fun f fd F => by
  refine F.ok sc_neighbours (fun vs H Q E h => ?_) (fun cdv A outer s H vs Q E hr h => ?_)
  · obtain ⟨l, rs, rows, rfl, _⟩ := h
    rfl
  · obtain ⟨l, rs, rows, rfl, hl, hrw, hk, hm, k⟩ := h
    have hlen := hrw.len
    refine ⟨_, (pss_cons (ps_set (i := 1) sc_neighbours.nd rfl (by first | exact Or.inl rfl | exact Or.inr rfl) (pe_lst pa_nil))
      (pss_cons (ps_for PassesOwn.never rfl (pi_list (pv 0)) (pg_name (i := 2) sc_neighbours.nd rfl (by first | exact Or.inl rfl | exact Or.inr rfl)) (pss_one (ps_expr (pe_bm PySem.F.plainAttrs_list PySem.F.slot_list_extend PySem.F.type_list_extend mt_extend (pv 1) (pa_cons (pe_comp (N := ["left", "right"]) (cap := [none, none]) rfl (cap_ok (osc := defScope s_neighbours) (XN := ["rows", "found", "row"]) rfl rfl (by decide +kernel)) (pi_zip rfl T.n_zip (pa_cons (pv 2) (pa_cons (pe_slice sl_list (pv 2) (po_some pe_int) po_none) pa_nil))) (fun cl C s H fp pins => (pgK_tup (K := K) (n := 2) rfl rfl (pgs_cons (pg_name (i := 0) (show (["left", "right"] : List Str).Nodup by decide +kernel) rfl (by first | exact Or.inl rfl | exact Or.inr rfl)) (pgs_cons (pg_name (i := 1) (show (["left", "right"] : List Str).Nodup by decide +kernel) rfl (by first | exact Or.inl rfl | exact Or.inr rfl)) pgs_nil)))) (fun cl C s H fp pins => pif_nil) (fun cl C s H fp pins => (pe_tup (pa_cons (pv 0) (pa_cons (pv 1) pa_nil))))) pa_nil)))))
      (pss_one (ps_ret (pv 1))))), ?_⟩
    refine ⟨(by show 0 ≤ sizeLine; decide), fun g ng => ?_⟩
    have s1 : Same H (upd H g (.lst [])) := Same.new ng
    have h1 : upd H g (.lst []) g = some (.lst []) := upd_same
    generalize upd H g (.lst []) = H1 at s1 h1 ⊢
    refine ⟨_, rfl, l, rfl, ⟨_, SqL.of (s1 _ _ hl)⟩, for_list (K := K) (a := l) (xs := rs.map V.ref) (fun i σ H' => ∃ v2 xs, σ = [some (.ref l), some (.ref g), v2] ∧ Same H H' ∧ H' g = some (.lst xs) ∧ DtVs K H' ((nbs (rows.take i)).map lnD) xs ∧ xs.length ≤ 60 * i)
      ⟨none, [], rfl, s1, h1, rfl, Nat.zero_le _⟩ ?_ ?_ ?_⟩
    · rintro i σ H' _ ⟨_, _, rfl, sm, _⟩
      exact SqL.of (sm _ _ hl)
    · rintro i x σ H' hx ⟨v2, xs, rfl, sm, hg, hds, kx⟩
      obtain ⟨r, hr', rfl⟩ := refs_at hx
      obtain ⟨row, hrow, hrr⟩ := hrw.at hr'
      have hrl := hm row (List.mem_of_getElem? hrow)
      have hi : i < rows.length := (List.getElem?_eq_some_iff.mp hrow).1
      dsimp only [gName]
      refine ⟨_, rfl, .inl ⟨rfl, _, SqL.of hg⟩, _, rfl, _, rfl, _, rfl, r, _, rfl, SqL.of (sm _ _ hrr), fun z nz => ?_⟩
      rw [cut_tail]
      have s2 : Same H' (upd H' z (.lst ((row.map V.str).drop 1))) := Same.new nz
      have h2 : upd H' z (.lst ((row.map V.str).drop 1)) z = some (.lst ((row.map V.str).drop 1)) := upd_same
      generalize upd H' z (.lst ((row.map V.str).drop 1)) = H2 at s2 h2 ⊢
      have t2 := sm.trans s2
      refine ⟨r, z, rfl, ⟨_, SqL.of (t2 _ _ hrr)⟩, ⟨_, SqL.of h2⟩, fun D hD => ?_⟩
      refine comp_zipS (K := K) (l1 := r) (l2 := z) (xs := row.map V.str) (ys := (row.map V.str).drop 1) (n := row.length - 1) (by rw [List.length_map]; omega) (by rw [List.length_drop, List.length_map]; omega) (.inr (by rw [List.length_drop, List.length_map]))
        (fun j τ H3 => ∃ v1 v2 zs, τ = [v1, v2] ∧ Same H2 H3 ∧ H3 D = some (.lst zs) ∧ DtVs K H3 (((nb row).take j).map lnD) zs) ⟨none, none, [], rfl, Same.new hD, upd_same, rfl⟩ ?_ ?_ ?_
      · rintro j τ H3 _ ⟨_, _, _, rfl, s3, _⟩
        exact ⟨SqL.of (s3 _ _ (t2 _ _ hrr)), SqL.of (s3 _ _ h2)⟩
      · rintro j x y tt τ H3 hj hx hy nt ⟨v1, v2, zs, rfl, s3, hz, hdz⟩
        obtain ⟨a1, e1, rfl⟩ := strs_at hx
        rw [List.getElem?_drop, Nat.add_comm] at hy
        obtain ⟨a2, e2, rfl⟩ := strs_at hy
        have kz : zs.length ≤ 60 := by
          have e := hdz.length
          rw [List.length_map, List.length_take, nb_len] at e
          omega
        have s4 : Same H3 (upd H3 tt (.tup [.str a1, .str a2])) := Same.new nt
        have h4 : upd H3 tt (.tup [.str a1, .str a2]) tt = some (.tup [.str a1, .str a2]) := upd_same
        generalize upd H3 tt (.tup [.str a1, .str a2]) = H4 at s4 h4 ⊢
        dsimp only [tYes]
        refine ⟨tt, _, rfl, SqT.of h4, rfl, _, _, rfl, _, _, rfl, rfl, ?_⟩
        refine iteT ?_
        refine ⟨_, rfl, _, rfl, (by show 2 ≤ sizeLine; decide), fun q nq => ?_⟩
        have s5 : Same H4 (upd H4 q (.tup [.str a1, .str a2])) := Same.new nq
        have h5 : upd H4 q (.tup [.str a1, .str a2]) q = some (.tup [.str a1, .str a2]) := upd_same
        generalize upd H4 q (.tup [.str a1, .str a2]) = H5 at s5 h5 ⊢
        have u5 := s4.trans s5
        refine ⟨_, u5 _ _ hz, by rw [sizeLine_eq]; omega, _, _, _, rfl, same_upd hD (s3.trans u5), upd_same, ?_⟩
        rw [take_snoc (nb_get e1 e2), List.map_append]
        have kp : Tk H5 (upd H5 D (.lst (zs ++ [.ref q]))) := Tk.upd (u5 _ _ hz) rfl
        exact DtVs.snoc (d := lnD (a1, a2)) (kp.dt rfl ⟨q, _, rfl, SqT.of h5, _, _, rfl, rfl, _, _, rfl, rfl, rfl⟩) (kp.dts (noLsts_map (fun _ => rfl) _) (u5.dts hdz))
      rintro τ H3 ⟨v1, v2, zs, rfl, s3, hz, hdz⟩
      rw [← nb_len, List.take_length] at hdz
      have kz : zs.length ≤ 60 := by
        have e := hdz.length
        rw [List.length_map, nb_len] at e
        omega
      have u3 := s2.trans s3
      refine ⟨g, D, xs, zs, rfl, rfl, u3 _ _ hg, hz, by rw [sizeLine_eq]; omega, ?_⟩
      have kp : Tk H3 (upd H3 g (.lst (xs ++ zs))) := Tk.upd (u3 _ _ hg) rfl
      refine ⟨_, _, rfl, same_upd ng (sm.trans u3), upd_same, ?_, by rw [List.length_append]; omega⟩
      rw [nbs_snoc hrow, List.map_append]
      exact DtVs.append (kp.dts (noLsts_map (fun _ => rfl) _) hdz) (kp.dts (noLsts_map (fun _ => rfl) _) (u3.dts hds))
    · rintro σ H2 ⟨v2, xs, rfl, sm, hg, hds, kx⟩
      rw [List.length_map, hlen, List.take_length] at hds
      have e := hds.length
      rw [List.length_map] at e
      rw [List.length_map] at kx
      exact ⟨_, rfl, k g H2 sm ⟨xs, hg, hds⟩ (by omega)⟩
def spKeeps (K : PySem.W.Frag) : Sp := fun vs H Q _ => ∃ l rs rows h g p hv qv, vs = [.ref l, .ref h, .int g, .ref p] ∧ H l = some (.lst ((rs : List Addr).map V.ref)) ∧ Rw H rs rows ∧ rows.length ≤ 30 ∧ (∀ row ∈ rows, row.length ≤ 60) ∧ H h = some (.dK hv) ∧ H p = some (.dK qv) ∧ (∀ row ∈ rows, ∀ s ∈ row, Has hv s ∧ Has qv s) ∧
  ∀ H', Same H H' → Q (.bl ((nbs rows).all (kp1 hv qv g))) H'
set_option maxHeartbeats 4000000 in
theorem ok_keeps_gap (T : Tx K mg a) : Cal P w K mg base CX0 2 "keeps_gap" ["rows", "halves", "gap", "places"] [] (spKeeps K) := T.d_keeps_gap.cal fun f fd F => by
  have c_apart := ok_apart (P := P) (w := w) (base := base) T
  have c_neighbours := ok_neighbours (P := P) (w := w) (base := base) T
  refine F.ok sc_keeps_gap (fun vs H Q E h => ?_) (fun cdv A outer s H vs Q E hr h => ?_)
  · obtain ⟨l, rs, rows, h, g, p, hv, qv, rfl, _⟩ := h
    rfl
  · obtain ⟨l, rs, rows, h, g, p, hv, qv, rfl, hl, hrw, hk, hm, hh, hp, has, k⟩ := h
    refine ⟨_, (pss_one (ps_ret (pe_callB call_allB rfl T.n_all bt_all (pa_cons (pe_comp (N := ["left", "right", "halves", "gap", "places"]) (cap := [none, none, some 1, some 2, some 3]) rfl (cap_ok (osc := defScope s_keeps_gap) (XN := ["rows", "halves", "gap", "places"]) rfl rfl (by decide +kernel)) (pi_list (pe_cal c_neighbours (hr.mono (by decide)) rfl (pa_cons (pv 0) pa_nil))) (fun cl C s H fp pins => (pgK_tup (K := K) (n := 2) rfl rfl (pgs_cons (pg_name (i := 0) (show (["left", "right", "halves", "gap", "places"] : List Str).Nodup by decide +kernel) rfl (by first | exact Or.inl rfl | exact Or.inr rfl)) (pgs_cons (pg_name (i := 1) (show (["left", "right", "halves", "gap", "places"] : List Str).Nodup by decide +kernel) rfl (by first | exact Or.inl rfl | exact Or.inr rfl)) pgs_nil)))) (fun cl C s H fp pins => pif_nil) (fun cl C s H fp pins => (pe_cmpR op_ge (pe_op op_sub (pe_dget (hu_of hr) (pv 4) (pv 1) (fun _ _ => rfl)) (pe_dget (hu_of hr) (pv 4) (pv 0) (fun _ _ => rfl))) (pe_cal c_apart (hr.mono (by decide)) rfl (pa_cons (pv 2) (pa_cons (pv 3) (pa_cons (pv 0) (pa_cons (pv 1) pa_nil))))) (nomark _)))) pa_nil)))), ?_⟩
    refine ⟨_, rfl, l, rs, rows, rfl, hl, hrw, hk, hm, fun d H1 s1 hls h18 => ?_⟩
    obtain ⟨xs, hd, hds⟩ := hls
    have hx : ∀ q ∈ nbs rows, (Has hv q.1 ∧ Has qv q.1) ∧ Has hv q.2 ∧ Has qv q.2 := fun q hq => by
      obtain ⟨row, hr, m1, m2⟩ := nbs_mem hq
      exact ⟨has row hr _ m1, has row hr _ m2⟩
    have hlx : (nbs rows).length = xs.length := by rw [← hds.length, List.length_map]
    generalize nbs rows = ls at hds hx hlx h18 k
    refine ⟨d, rfl, ⟨_, SqL.of hd⟩, fun D hD => ?_⟩
    have sz : xs.length ≤ sizeLine := by rw [sizeLine_eq]; omega
    refine comp_list (K := K) (a := d) (xs := xs) (fun i τ H' => ∃ v1 v2, τ = [v1, v2, some (.ref h), some (.int g), some (.ref p)] ∧ Same H1 H' ∧ H' D = some (.lst (((ls.take i).map (kp1 hv qv g)).map V.bl))) ⟨none, none, rfl, Same.new hD, upd_same⟩ ?_ ?_ ?_
    · rintro i τ H' _ ⟨_, _, rfl, sm, _⟩
      exact SqL.of (sm _ _ hd)
    · rintro i x τ H' hx' ⟨v1, v2, rfl, sm, hy⟩
      have hi : i < xs.length := (List.getElem?_eq_some_iff.mp hx').1
      obtain ⟨q, hq, dq⟩ := dts_get hds hx'
      obtain ⟨t, rfl, ht⟩ := un_ln (sm.dt dq)
      obtain ⟨⟨a1, a2⟩, a3, a4⟩ := hx q (List.mem_of_getElem? hq)
      have t1 := s1.trans sm
      dsimp only [tYes]
      refine ⟨t, _, rfl, ht, rfl, _, _, rfl, _, _, rfl, rfl, ?_⟩
      refine iteT ?_
      refine ⟨_, rfl, _, rfl, p, _, rfl, dget_k (k := Sum.inr q.2) (t1 _ _ hp) a4.gv, _, rfl, _, rfl, p, _, rfl, dget_k (k := Sum.inr q.1) (t1 _ _ hp) a2.gv, _, _, rfl, rfl, _, rfl, _, rfl, _, rfl, _, rfl, h, g, q.1, q.2, hv, rfl, t1 _ _ hh, a1, a3, _, _, rfl, rfl, ?_⟩
      refine ⟨_, hy, by rw [List.length_map, List.length_map, List.length_take]; omega, _, _, rfl, same_upd hD sm, ?_⟩
      rw [upd_same, take_snoc hq, List.map_append, List.map_append]
      rfl
    rintro τ H2 ⟨v1, v2, rfl, sm, hy⟩
    rw [← hlx, List.take_length] at hy
    refine ⟨D, ls.map (kp1 hv qv g), rfl, SqL.of hy, ?_⟩
    have e : (ls.map (kp1 hv qv g)).all id = ls.all (kp1 hv qv g) := by rw [List.all_map]; rfl
    rw [e]
    exact k H2 (s1.trans sm)
/-- lines with weights -/
abbrev L3 := Str × Str × Int
def l3D (q : L3) : Dt := .tup [.str q.1, .str q.2.1, .int q.2.2]
theorem un_l3 {H : Hp} {x : V} {q : L3} (h : DtV K H (l3D q) x) : ∃ t, x = .ref t ∧ SqT K H t [.str q.1, .str q.2.1, .int q.2.2] := by
  obtain ⟨t, xs, rfl, h1, y1, ys1, rfl, rfl, y2, ys2, rfl, rfl, y3, ys3, rfl, rfl, h2⟩ := h
  rw [show ys3 = [] from h2] at h1
  exact ⟨t, rfl, h1⟩
def far (qv : Kvs) (q : L3) : Int := if gv qv q.2.1 - gv qv q.1 < 0 then -(gv qv q.2.1 - gv qv q.1) else gv qv q.2.1 - gv qv q.1
def costL (qv : Kvs) (ls : List L3) : Int := (ls.map fun q => q.2.2 * far qv q).sum
def L3At (K : PySem.W.Frag) (H : Hp) (l : Addr) (ls : List L3) : Prop := ∃ xs, H l = some (.lst xs) ∧ DtVs K H (ls.map l3D) xs
def spCost (K : PySem.W.Frag) : Sp := fun vs H Q _ => ∃ l p ls qv, vs = [.ref l, .ref p] ∧ L3At K H l ls ∧ H p = some (.dK qv) ∧ (∀ q ∈ ls, Has qv q.1 ∧ Has qv q.2.1 ∧ 0 < q.2.2 ∧ q.2.2 < 2 ^ 64) ∧ ls.length ≤ 300 ∧ ∀ H', Same H H' → Q (.int (costL qv ls)) H'
set_option maxHeartbeats 4000000 in
theorem ok_cost_of (T : Tx K mg a) : Cal P w K mg base CX0 1 "cost_of" ["lines", "places"] [] (spCost K) := T.d_cost_of.cal fun f fd F => by
  refine F.ok sc_cost_of (fun vs H Q E h => ?_) (fun cdv A outer s H vs Q E hr h => ?_)
  · obtain ⟨l, p, ls, qv, rfl, _⟩ := h
    rfl
  · obtain ⟨l, p, ls, qv, rfl, ⟨xs, hl, hds⟩, hp, has, hk, k⟩ := h
    have hlx : ls.length = xs.length := by rw [← hds.length, List.length_map]
    refine ⟨_, (pss_one (ps_ret (pe_callB call_sum rfl T.n_sum bt_sum (pa_cons (pe_comp (N := ["one", "other", "weight", "places"]) (cap := [none, none, none, some 1]) rfl (cap_ok (osc := defScope s_cost_of) (XN := ["lines", "places"]) rfl rfl (by decide +kernel)) (pi_list (pv 0)) (fun cl C s H fp pins => (pgK_tup (K := K) (n := 3) rfl rfl (pgs_cons (pg_name (i := 0) (show (["one", "other", "weight", "places"] : List Str).Nodup by decide +kernel) rfl (by first | exact Or.inl rfl | exact Or.inr rfl)) (pgs_cons (pg_name (i := 1) (show (["one", "other", "weight", "places"] : List Str).Nodup by decide +kernel) rfl (by first | exact Or.inl rfl | exact Or.inr rfl)) (pgs_cons (pg_name (i := 2) (show (["one", "other", "weight", "places"] : List Str).Nodup by decide +kernel) rfl (by first | exact Or.inl rfl | exact Or.inr rfl)) pgs_nil))))) (fun cl C s H fp pins => pif_nil) (fun cl C s H fp pins => (pe_op op_mul (pv 2) (pe_callB call_abs rfl T.n_abs bt_abs (pa_cons (pe_op op_sub (pe_dget (hu_of hr) (pv 3) (pv 1) (fun _ _ => rfl)) (pe_dget (hu_of hr) (pv 3) (pv 0) (fun _ _ => rfl))) pa_nil))))) pa_nil)))), ?_⟩
    refine ⟨_, rfl, l, rfl, ⟨_, SqL.of hl⟩, fun D hD => ?_⟩
    refine comp_list (K := K) (a := l) (xs := xs) (fun i τ H' => ∃ v1 v2 v3, τ = [v1, v2, v3, some (.ref p)] ∧ Same H H' ∧ H' D = some (.lst (((ls.take i).map fun q => q.2.2 * far qv q).map V.int))) ⟨none, none, none, rfl, Same.new hD, upd_same⟩ ?_ ?_ ?_
    · rintro i τ H' _ ⟨_, _, _, rfl, sm, _⟩
      exact SqL.of (sm _ _ hl)
    · rintro i x τ H' hx ⟨v1, v2, v3, rfl, sm, hy⟩
      have hi : i < xs.length := (List.getElem?_eq_some_iff.mp hx).1
      obtain ⟨q, hq, dq⟩ := dts_get hds hx
      obtain ⟨t, rfl, ht⟩ := un_l3 (sm.dt dq)
      obtain ⟨a1, a2, a3, a4⟩ := has q (List.mem_of_getElem? hq)
      dsimp only [tYes]
      refine ⟨t, _, rfl, ht, rfl, _, _, rfl, _, _, rfl, _, _, rfl, rfl, ?_⟩
      refine iteT ?_
      refine ⟨_, rfl, _, rfl, _, rfl, p, _, rfl, dget_k (k := Sum.inr q.2.1) (sm _ _ hp) a2.gv, _, rfl, _, rfl, p, _, rfl, dget_k (k := Sum.inr q.1) (sm _ _ hp) a1.gv, _, _, rfl, rfl, _, rfl, _, _, rfl, rfl, .inl ⟨by omega, a4⟩, ?_⟩
      refine ⟨_, hy, by rw [List.length_map, List.length_map, List.length_take, sizeLine_eq]; omega, _, _, _, rfl, same_upd hD sm, ?_⟩
      rw [upd_same, take_snoc hq, List.map_append, List.map_append]
      rfl
    rintro τ H2 ⟨v1, v2, v3, rfl, sm, hy⟩
    rw [← hlx, List.take_length] at hy
    exact ⟨D, _, rfl, SqL.of hy, k H2 sm⟩
end
end K62
namespace K62
open PySem L2
section
variable {P : Program} {w : World} {K : PySem.W.Frag} {mg : Str → Option Value} {base : Heap} {a : Adr}
/-! the law's own defs -/
def num (c k : Int) : Int := (c + 7919 * k + 1) * 48271 % 2147483647
def mixed (c k : Int) : Int := num c k * (num c k / 1009 + 69621) % 2147483647
theorem num_lo (c k : Int) : 0 ≤ num c k := Int.emod_nonneg _ (by decide)
theorem num_hi (c k : Int) : num c k < 2147483647 := Int.emod_lt_of_pos _ (by decide)
def spMixed : Sp := fun vs H Q _ => ∃ c k, vs = [.int c, .int k] ∧ Q (.int (mixed c k)) H
theorem ok_mixed (T : Tx K mg a) : Cal P w K mg base CX0 1 "_law_mixed" ["_law_cell", "_law_k"] [] spMixed := T.d__law_mixed.cal fun f fd F => by
  refine F.ok sc__law_mixed (fun vs H Q E h => ?_) (fun cdv A outer s H vs Q E hr h => ?_)
  · obtain ⟨c, k, rfl, _⟩ := h
    rfl
  · obtain ⟨c, k, rfl, q⟩ := h
    refine ⟨_, (pss_cons (ps_set (i := 2) sc__law_mixed.nd rfl (by first | exact Or.inl rfl | exact Or.inr rfl) (pe_op op_mod (pe_op op_mul (pe_op op_add (pe_op op_add (pv 0) (pe_op op_mul pe_int (pv 1))) pe_int) pe_int) pe_int))
      (pss_one (ps_ret (pe_op op_mod (pe_op op_mul (pv 2) (pe_op op_add (pe_op op_fdiv (pv 2) pe_int) pe_int)) pe_int)))), ?_⟩
    refine ⟨_, rfl, _, rfl, _, _, rfl, rfl, .inl ⟨by decide, by decide⟩, _, _, rfl, rfl, _, _, rfl, rfl, _, _, rfl, rfl, .inr ⟨by decide, by decide⟩, _, _, rfl, rfl, (by show (0 : Int) < 2147483647; decide), ?_⟩
    have h1 := num_lo c k
    have h2 := num_hi c k
    refine ⟨_, rfl, _, rfl, _, _, rfl, rfl, ⟨by decide, by decide⟩, _, _, rfl, rfl, _, _, rfl, rfl, .inl ⟨?_, ?_⟩, _, _, rfl, rfl, (by show (0 : Int) < 2147483647; decide), q⟩
    · show -(2 ^ 64) < num c k
      omega
    · show num c k < 2 ^ 64
      omega
def spCellAt (K : PySem.W.Frag) : Sp := fun vs H Q _ => ∃ p, ∃ ns : List Int, ∃ k, vs = [.ref p, .int k] ∧ SqL K H p (ns.map V.int) ∧ 0 ≤ k ∧ ∀ c, Q (.int c) H
theorem ok_cell_at (T : Tx K mg a) : Cal P w K mg base CX0 1 "_law_cell_at" ["_law_script", "_law_k"] [] (spCellAt K) := T.d__law_cell_at.cal fun f fd F => by
  refine F.ok sc__law_cell_at (fun vs H Q E h => ?_) (fun cdv A outer s H vs Q E hr h => ?_)
  · obtain ⟨p, ns, k, rfl, _⟩ := h
    rfl
  · obtain ⟨p, ns, k, rfl, hS, h0, q⟩ := h
    refine ⟨_, (pss_cons (ps_if (pt_cmpR op_lt (pv 1) (pe_callB call_len_seq rfl T.n_len bt_len (pa_cons (pv 0) pa_nil)) (nomark _)) (pss_one (ps_ret (pe_ix ix_list (pv 0) (pv 1) (fun _ _ => rfl)))) pss_nil)
      (pss_one (ps_ret pe_int))), ?_⟩
    refine ⟨_, rfl, _, rfl, p, _, rfl, .inl hS, _, _, rfl, rfl, _, rfl, ?_⟩
    refine iteB (fun c => ?_) (fun c => ?_)
    · have h1 : k < ns.length := by
        have := of_decide_eq_true c
        rwa [List.length_map] at this
      obtain ⟨z, hz⟩ := at_int h0 h1
      exact ⟨_, rfl, _, rfl, p, _, _, _, rfl, rfl, hS, hz, q z⟩
    · exact q 0
theorem at_ref {rs : List Addr} {k : Int} (h0 : 0 ≤ k) (h1 : k < rs.length) : ∃ r, rs[k.toNat]? = some r ∧ atI (rs.map V.ref) k = some (.ref r) := by
  obtain ⟨r, hr⟩ := get_of (l := rs) (j := k.toNat) (by omega)
  refine ⟨r, hr, ?_⟩
  rw [at_nat h0, List.getElem?_map, hr]
  rfl
/-- what the rows hold -/
structure RowsOk (mk : Row) (rows : List Row) (hv : Kvs) : Prop where
  k : rows.length ≤ 4
  n : ∀ row ∈ rows, row.length ≤ 12
  has : ∀ row ∈ rows, ∀ s ∈ row, Has hv s
  all : ∀ s ∈ mk, ∃ row ∈ rows, s ∈ row
def spRows (K : PySem.W.Frag) : Sp := fun vs H Q _ => ∃ p, ∃ ns : List Int, vs = [.ref p] ∧ SqL K H p (ns.map V.int) ∧ ∀ t m l h rs mk rows hv H', Same H H' → H' t = some (.tup [.ref m, .ref l, .ref h]) → H' m = some (.lst ((mk : Row).map V.str)) → H' l = some (.lst ((rs : List Addr).map V.ref)) → Rw H' rs rows → H' h = some (.dK hv) → RowsOk mk rows hv → mk.length ≤ 12 → Q (.ref t) H'
def m12 : Row := ["a", "b", "ab", "3.1", "c", "10.2", "d", "ba", "e", "0.1", "f", "g"]
theorem rep_mem {rs : List Addr} {rows : List Row} {H : Hp} (h : Rw H rs rows) {r : Addr} (hr : r ∈ rs) : ∃ o, H r = some o := by
  obtain ⟨j, hj⟩ := List.mem_iff_getElem?.mp hr
  obtain ⟨row, _, e⟩ := h.at hj
  exact ⟨_, e⟩
set_option maxHeartbeats 4000000 in
theorem ok_rows (T : Tx K mg a) : Cal P w K mg base CX0 2 "_law_rows" ["_law_script"] [] (spRows K) := T.d__law_rows.cal fun f fd F => by
  have c__law_mixed := ok_mixed (P := P) (w := w) (base := base) T
  have c__law_cell_at := ok_cell_at (P := P) (w := w) (base := base) T
  refine F.ok sc__law_rows (fun vs H Q E h => ?_) (fun cdv A outer s H vs Q E hr h => ?_)
  · obtain ⟨p, ns, rfl, _⟩ := h
    rfl
  · obtain ⟨p, ns, rfl, hS, k⟩ := h
    refine' ⟨_, pss_cons ?s0 ?r0, ?sg⟩
    case s0 => exact (ps_set (i := 1) sc__law_rows.nd rfl (by first | exact Or.inl rfl | exact Or.inr rfl) (pe_cal c__law_cell_at (hr.mono (by decide)) rfl (pa_cons (pv 0) (pa_cons pe_int pa_nil))))
    case r0 =>
      refine' pss_cons ?s1 ?r1
      case s1 =>
        rw [ps_cutStrs (i := 2) (xs := m12)]
        exact trivial
        case hxs => rfl
        case hy => exact pv 1
        case hN => exact sc__law_rows.nd
        case hi => rfl
        case hx => exact Or.inl rfl
        case hs => rfl
        case hf => exact .inr rfl
      case r1 =>
        refine' pss_cons ?s2 ?r2
        case s2 => exact (ps_setC (i := 3) sc__law_rows.nd rfl rfl (N := ["_law_k"]) (cap := [none]) rfl (cap_ok (osc := defScope s__law_rows) (XN := ["_law_script", "_law_first", "_law_marks", "_law_rows_here", "_law_halves", "_law_k", "_law_mark"]) rfl rfl (by decide +kernel)) (pi_range1 rfl T.n_range (pa_cons (pe_op op_add pe_int (pe_op op_mod (pe_op op_fdiv (pv 1) pe_int) pe_int)) pa_nil)) (fun cl C s H fp pins => (pg_name (i := 0) (show (["_law_k"] : List Str).Nodup by decide +kernel) rfl (by first | exact Or.inl rfl | exact Or.inr rfl))) (fun cl C s H fp pins => pif_nil) (fun cl C s H fp pins => (pe_lst pa_nil)) (hsw := rfl))
        case r2 =>
          refine' pss_cons ?s3 ?r3
          case s3 => exact (ps_set (i := 4) sc__law_rows.nd rfl (by first | exact Or.inl rfl | exact Or.inr rfl) pe_dnewK)
          case r3 =>
            refine' pss_cons ?s4 ?r4
            case s4 => exact (ps_for PassesOwn.never rfl (pi_enumerate rfl T.n_enumerate (pa_cons (pv 2) pa_nil)) (pg_tup rfl (pgs_cons (pg_name (i := 5) sc__law_rows.nd rfl (by first | exact Or.inl rfl | exact Or.inr rfl)) (pgs_cons (pg_name (i := 6) sc__law_rows.nd rfl (by first | exact Or.inl rfl | exact Or.inr rfl)) pgs_nil))) (pss_cons (ps_expr (pe_bm PySem.F.plainAttrs_list PySem.F.slot_list_append PySem.F.type_list_append mt_append (pe_ix ix_list (pv 3) (pe_op op_mod (pe_cal c__law_mixed (hr.mono (by decide)) rfl (pa_cons (pv 1) (pa_cons (pv 5) pa_nil))) (pe_callB call_len_seq rfl T.n_len bt_len (pa_cons (pv 3) pa_nil))) (fun _ _ => rfl)) (pa_cons (pv 6) pa_nil)))
      (pss_one (ps_dput (hu_of hr) (pv 4) (pv 6) (pe_ix ix_list (pe_lst (pa_cons pe_int (pa_cons (pe_op op_mod (pe_cal c__law_mixed (hr.mono (by decide)) rfl (pa_cons (pv 1) (pa_cons (pe_op op_add pe_int (pv 5)) pa_nil))) pe_int) pa_nil))) (pe_op op_mod (pe_cal c__law_mixed (hr.mono (by decide)) rfl (pa_cons (pv 1) (pa_cons (pe_op op_add pe_int (pv 5)) pa_nil))) pe_int) (fun _ _ => rfl)) rfl))))
            case r4 =>
              exact pss_one (ps_ret (pe_tup (pa_cons (pv 2) (pa_cons (pv 3) (pa_cons (pv 4) pa_nil)))))
    case sg =>
    refine ⟨_, rfl, p, ns, 0, rfl, hS, by decide, fun c => ?_⟩
    obtain ⟨mk, hmk, hml⟩ := cut_strs m12 none (some (c % 13))
    have hml12 : mk.length ≤ 12 := hml
    refine ⟨(by show 12 ≤ sizeLine; decide), fun z nz => ?_⟩
    have s1 : Same H (upd H z (.lst (m12.map V.str))) := Same.new nz
    have h1 : upd H z (.lst (m12.map V.str)) z = some (.lst (m12.map V.str)) := upd_same
    generalize upd H z (.lst (m12.map V.str)) = H1 at s1 h1 ⊢
    refine ⟨_, rfl, _, _, rfl, rfl, (by show (0 : Int) < 13; decide), _, rfl, z, _, rfl, SqL.of h1, fun m nm => ?_⟩
    rw [hmk]
    have s2 : Same H1 (upd H1 m (.lst (mk.map V.str))) := Same.new nm
    have h2 : upd H1 m (.lst (mk.map V.str)) m = some (.lst (mk.map V.str)) := upd_same
    generalize upd H1 m (.lst (mk.map V.str)) = H2 at s2 h2 ⊢
    have t2 := s1.trans s2
    have f0 : 0 ≤ c / 13 % 4 := Int.emod_nonneg _ (by decide)
    have f1 : c / 13 % 4 < 4 := Int.emod_lt_of_pos _ (by decide)
    -- empty rows
    refine ⟨_, rfl, _, _, rfl, rfl, ⟨by decide, by decide⟩, _, _, rfl, rfl, (by show (0 : Int) < 4; decide), _, _, rfl, rfl, _, rfl, by omega, by omega, fun D hD => ?_⟩
    refine comp_range (n := (1 + c / 13 % 4).toNat) (fun i τ H' => ∃ v1, ∃ rs : List Addr, τ = [v1] ∧ Same H2 H' ∧ H' D = some (.lst (rs.map V.ref)) ∧ Rw H' rs (List.replicate i []) ∧ rs.Nodup ∧ (∀ r ∈ rs, H2 r = none ∧ r ≠ D)) ⟨none, [], rfl, Same.new hD, upd_same, trivial, List.nodup_nil, fun r hr => by cases hr⟩ ?_ ?_
    · rintro i τ H' hi ⟨v1, rs, rfl, sm, hy, hw, nd, hn⟩
      dsimp only [gName, tYes]
      rw [if_pos rfl]
      refine ⟨(by show 0 ≤ sizeLine; decide), fun y ny => ?_⟩
      have s3 : Same H' (upd H' y (.lst [])) := Same.new ny
      have h3 : upd H' y (.lst []) y = some (.lst (([] : Row).map V.str)) := upd_same
      have nyD : y ≠ D := (ne_of_none hy ny).symm
      have yn : y ∉ rs := fun hz => by
        obtain ⟨o, e⟩ := rep_mem hw hz
        rw [ny] at e
        cases e
      generalize upd H' y (.lst []) = H3 at s3 h3 ⊢
      have e1 : (rs.map V.ref).length ≤ 4 := by
        rw [List.length_map, hw.len, List.length_replicate]
        omega
      have all : ∀ x ∈ rs ++ [y], H2 x = none ∧ x ≠ D := fun x hx => by
        rcases List.mem_append.mp hx with hx | hx
        · exact hn x hx
        · rw [List.mem_singleton.mp hx]
          exact ⟨none_of sm ny, nyD⟩
      refine ⟨_, s3 _ _ hy, by rw [sizeLine_eq]; omega, _, rs ++ [y], rfl, same_upd hD (sm.trans s3), by rw [upd_same, List.map_append]; rfl, ?_, ?_, all⟩
      · rw [show List.replicate (i + 1) ([] : Row) = List.replicate i [] ++ [[]] from List.replicate_succ']
        exact Rw.upd (Rw.snoc h3 (hw.same s3)) fun x hx => (all x hx).2
      · exact List.nodup_append.mpr ⟨nd, List.nodup_cons.mpr ⟨(by simp), List.nodup_nil⟩, fun x hx y' hy' e => yn (by rw [← List.mem_singleton.mp hy', ← e]; exact hx)⟩
    rintro τ H3 ⟨v1, rs, rfl, s3, hD3, hw, nd, hn⟩
    have t3 := t2.trans s3
    intro hh nh
    have s4 : Same H3 (upd H3 hh (.dK [])) := Same.new nh
    have h4 : upd H3 hh (.dK []) hh = some (.dK []) := upd_same
    have nDh : D ≠ hh := ne_of_none hD3 nh
    have nmh : m ≠ hh := ne_of_none (s3 _ _ h2) nh
    have nmD : m ≠ D := ne_of_none h2 hD
    have nr : ∀ r ∈ rs, r ≠ D ∧ r ≠ m ∧ r ≠ hh ∧ H r = none := fun r hr => by
      obtain ⟨n1, n2⟩ := hn r hr
      obtain ⟨o, e⟩ := rep_mem hw hr
      exact ⟨n2, (ne_of_none h2 n1).symm, ne_of_none e nh, none_of t2 n1⟩
    have hH : H hh = none := none_of t3 nh
    have hHD : H D = none := none_of t2 hD
    generalize upd H3 hh (.dK []) = H4 at s4 h4 ⊢
    have hlen := hw.len
    rw [List.length_replicate] at hlen
    -- the marks
    refine ⟨_, rfl, m, rfl, ⟨_, SqL.of (s4 _ _ (s3 _ _ h2))⟩, for_enum (K := K) (l := m) (xs := mk.map V.str) (fun i σ H' => ∃ v5 v6, ∃ (rows : List Row) (hv : Kvs), σ = [some (.ref p), some (.int c), some (.ref m), some (.ref D), some (.ref hh), v5, v6] ∧ Same H H' ∧ H' m = some (.lst (mk.map V.str)) ∧ H' D = some (.lst (rs.map V.ref)) ∧ Rw H' rs rows ∧ H' hh = some (.dK hv) ∧ hv.length ≤ i ∧ (∀ row ∈ rows, row.length ≤ i ∧ ∀ s ∈ row, Has hv s) ∧ ∀ s ∈ mk.take i, ∃ row ∈ rows, s ∈ row)
      ⟨none, none, _, [], rfl, t3.trans s4, s4 _ _ (s3 _ _ h2), s4 _ _ hD3, hw.same s4, h4, Nat.le_refl _, fun row hr => by rw [List.eq_of_mem_replicate hr]; exact ⟨Nat.le_refl _, fun s hs => by cases hs⟩, fun s hs => by simp at hs⟩ ?_ ?_ ?_⟩
    · rintro i σ H' _ ⟨_, _, _, _, rfl, _, hm', _⟩
      exact SqL.of hm'
    · rintro i y tt σ H' hy nt ⟨v5, v6, rows, hv, rfl, sm, hm', hD', hw', hh', kh, hrows, hall⟩
      obtain ⟨s, hs, rfl⟩ := strs_at hy
      have hi : i < mk.length := (List.getElem?_eq_some_iff.mp hs).1
      have s5 : Same H' (upd H' tt (.tup [.int i, .str s])) := Same.new nt
      have h5 : upd H' tt (.tup [.int i, .str s]) tt = some (.tup [.int i, .str s]) := upd_same
      generalize upd H' tt (.tup [.int i, .str s]) = H5 at s5 h5 ⊢
      have hrl : 0 < rs.length := by omega
      have j0 : 0 ≤ mixed c (i : Int) % ((rs.map V.ref).length : Int) := Int.emod_nonneg _ (by rw [List.length_map]; omega)
      have j1 : mixed c (i : Int) % ((rs.map V.ref).length : Int) < rs.length := by
        have := Int.emod_lt_of_pos (mixed c (i : Int)) (b := ((rs.map V.ref).length : Int)) (by rw [List.length_map]; omega)
        rw [List.length_map] at this ⊢
        exact this
      obtain ⟨r, hr1, hr2⟩ := at_ref j0 j1
      generalize (mixed c (i : Int) % ((rs.map V.ref).length : Int)).toNat = ix at hr1
      have hrm := List.mem_of_getElem? hr1
      obtain ⟨nrD, nrm, nrh, nrH⟩ := nr r hrm
      obtain ⟨row, hrow, hrr⟩ := (hw'.same s5).at hr1
      have hix : ix < rows.length := (List.getElem?_eq_some_iff.mp hrow).1
      obtain ⟨krow, hasr⟩ := hrows row (List.mem_of_getElem? hrow)
      refine ⟨tt, _, rfl, SqT.of h5, rfl, _, _, rfl, _, _, rfl, rfl, ?_⟩
      refine ⟨_, rfl, _, rfl, _, rfl, c, _, rfl, _, rfl, D, _, rfl, .inl (SqL.of (s5 _ _ hD')), _, _, rfl, rfl, (by show (0 : Int) < ((rs.map V.ref).length : Int); rw [List.length_map]; omega), D, _, _, _, rfl, rfl, SqL.of (s5 _ _ hD'), hr2, .inl ⟨rfl, _, SqL.of hrr⟩, _, rfl, r, _, _, rfl, rfl, hrr, by rw [List.length_map, sizeLine_eq]; omega, ?_⟩
      have w6 : Rw (upd H5 r (.lst (row.map V.str ++ [.str s]))) rs (rows.set ix (row ++ [s])) := by
        have := Rw.put (row := row ++ [s]) (hw'.same s5) nd hr1
        rw [List.map_append] at this
        exact this
      have s6 : Same H (upd H5 r (.lst (row.map V.str ++ [.str s]))) := same_upd nrH (sm.trans s5)
      have hm6 : upd H5 r (.lst (row.map V.str ++ [.str s])) m = some (.lst (mk.map V.str)) := by rw [upd_ne (Ne.symm nrm)]; exact s5 _ _ hm'
      have hD6 : upd H5 r (.lst (row.map V.str ++ [.str s])) D = some (.lst (rs.map V.ref)) := by rw [upd_ne (Ne.symm nrD)]; exact s5 _ _ hD'
      have hh6 : upd H5 r (.lst (row.map V.str ++ [.str s])) hh = some (.dK hv) := by rw [upd_ne (Ne.symm nrh)]; exact s5 _ _ hh'
      generalize upd H5 r (.lst (row.map V.str ++ [.str s])) = H6 at w6 s6 hm6 hD6 hh6 ⊢
      obtain ⟨y2, hy2⟩ := at_int (ns := [0, mixed c (20 + (i : Int)) % 51]) (k := mixed c (40 + (i : Int)) % 2) (Int.emod_nonneg _ (by decide)) (Int.emod_lt_of_pos _ (by decide))
      refine ⟨_, rfl, _, rfl, _, _, rfl, rfl, c, _, rfl, _, _, rfl, rfl, (by show (0 : Int) < 51; decide), (by show 2 ≤ sizeLine; decide), fun q nq => ⟨_, rfl, _, rfl, _, _, rfl, rfl, c, _, rfl, _, _, rfl, rfl, (by show (0 : Int) < 2; decide), q, _, _, _, rfl, rfl, SqL.of upd_same, hy2, _, rfl, _, rfl, hh, _, rfl, DPut.k (k := Sum.inr s) (Same.new nq _ _ hh6) (by rw [sizeLine_eq]; omega), ?_⟩⟩
      have s7 : Same H6 (upd H6 q (.lst [V.int 0, V.int (mixed c (20 + (i : Int)) % 51)])) := Same.new nq
      generalize upd H6 q (.lst [V.int 0, V.int (mixed c (20 + (i : Int)) % 51)]) = H7 at s7 ⊢
      refine ⟨_, _, rows.set ix (row ++ [s]), putK hv (Sum.inr s) (.int y2), rfl, same_upd hH (s6.trans s7), by rw [upd_ne nmh]; exact s7 _ _ hm6, by rw [upd_ne nDh]; exact s7 _ _ hD6, ?_, upd_same, by have := length_putK hv (Sum.inr s) (.int y2); omega, ?_, ?_⟩
      · exact Rw.upd (w6.same s7) fun x hx => (nr x hx).2.2.1
      · intro x hx
        rcases List.mem_or_eq_of_mem_set hx with hx | rfl
        · exact ⟨by have := (hrows x hx).1; omega, fun u hu => ((hrows x hx).2 u hu).put⟩
        · refine ⟨by rw [List.length_append]; show _ + 1 ≤ _; omega, fun u hu => ?_⟩
          rcases List.mem_append.mp hu with hu | hu
          · exact (hasr u hu).put
          · rw [List.mem_singleton.mp hu]
            exact Has.new
      · intro u hu
        rw [take_snoc hs] at hu
        have new : row ++ [s] ∈ rows.set ix (row ++ [s]) := List.mem_set hix _
        rcases List.mem_append.mp hu with hu | hu
        · obtain ⟨x, hx, hux⟩ := hall u hu
          obtain ⟨jx, hjx⟩ := List.mem_iff_getElem?.mp hx
          by_cases e : jx = ix
          · subst e
            rw [hrow] at hjx
            cases hjx
            exact ⟨_, new, List.mem_append_left _ hux⟩
          · exact ⟨x, List.mem_of_getElem? (i := jx) (by rw [List.getElem?_set_ne (fun z => e z.symm)]; exact hjx), hux⟩
        · rw [List.mem_singleton.mp hu]
          exact ⟨_, new, List.mem_append_right _ (List.mem_singleton.mpr rfl)⟩
    · rintro σ H' ⟨v5, v6, rows, hv, rfl, sm, hm', hD', hw', hh', kh, hrows, hall⟩
      rw [List.length_map] at hrows kh hall
      rw [List.take_length] at hall
      have e := hw'.len
      refine ⟨_, rfl, _, rfl, _, rfl, (by show 3 ≤ sizeLine; decide), fun t nt => ?_⟩
      have s8 : Same H' (upd H' t (.tup [.ref m, .ref D, .ref hh])) := Same.new nt
      exact k t m D hh rs mk rows hv _ (sm.trans s8) upd_same (s8 _ _ hm') (s8 _ _ hD') (hw'.same s8) (s8 _ _ hh') ⟨by omega, fun row hr => by have := (hrows row hr).1; omega, fun row hr => (hrows row hr).2, hall⟩ hml12
end
end K62
namespace K62
open PySem L2
section
variable {P : Program} {w : World} {K : PySem.W.Frag} {mg : Str → Option Value} {base : Heap} {a : Adr}
theorem ints_at {am : List Int} {i : Nat} {x : V} (h : (am.map V.int)[i]? = some x) : ∃ z, am[i]? = some z ∧ x = .int z := by
  rw [List.getElem?_map] at h
  cases e : am[i]? with
  | none => rw [e] at h; cases h
  | some n => rw [e] at h; exact ⟨n, rfl, (Option.some.inj h).symm⟩
theorem at_two {x y c : Int} (hx : 0 < x) (hy : 0 < y) : ∃ z, atI [V.int x, V.int y] (c % 2) = some (.int z) ∧ 0 < z ∧ (z = x ∨ z = y) := by
  have h0 : 0 ≤ c % 2 := Int.emod_nonneg _ (by decide)
  have h1 : c % 2 < 2 := Int.emod_lt_of_pos _ (by decide)
  rcases (by omega : c % 2 = 0 ∨ c % 2 = 1) with e | e
  · rw [e]; exact ⟨x, at_cons0, hx, .inl rfl⟩
  · rw [e]; exact ⟨y, at_cons1, hy, .inr rfl⟩
def spLines (K : PySem.W.Frag) : Sp := fun vs H Q _ => ∃ p m mk, ∃ ns : List Int, vs = [.ref p, .ref m] ∧ SqL K H p (ns.map V.int) ∧ ns.length ≤ 63 ∧ H m = some (.lst ((mk : Row).map V.str)) ∧
  ∀ r ls H', Same H H' → L3At K H' r ls → (∀ q ∈ ls, q.1 ∈ mk ∧ q.2.1 ∈ mk ∧ 0 < q.2.2 ∧ q.2.2 < 2 ^ 64) → ls.length ≤ 63 → Q (.ref r) H'
set_option maxHeartbeats 4000000 in
theorem ok_lines (T : Tx K mg a) : Cal P w K mg base CX0 2 "_law_lines" ["_law_cells", "_law_marks"] [] (spLines K) := T.d__law_lines.cal fun f fd F => by
  have c__law_mixed := ok_mixed (P := P) (w := w) (base := base) T
  refine F.ok sc__law_lines (fun vs H Q E h => ?_) (fun cdv A outer s H vs Q E hr h => ?_)
  · obtain ⟨p, m, mk, ns, rfl, _⟩ := h
    rfl
  · obtain ⟨p, m, mk, ns, rfl, hp, hn, hm, k⟩ := h
    refine ⟨_, (pss_cons (ps_set (i := 2) sc__law_lines.nd rfl (by first | exact Or.inl rfl | exact Or.inr rfl) (pe_lst pa_nil))
      (pss_cons (ps_for PassesOwn.never rfl (pi_list (pv 0)) (pg_name (i := 3) sc__law_lines.nd rfl (by first | exact Or.inl rfl | exact Or.inr rfl)) (pss_one (ps_if (pt_cmpR op_gt (pe_callB call_len_seq rfl T.n_len bt_len (pa_cons (pv 1) pa_nil)) pe_int (nomark _)) (pss_cons (ps_set (i := 4) sc__law_lines.nd rfl (by first | exact Or.inl rfl | exact Or.inr rfl) (pe_op op_mod (pe_cal c__law_mixed (hr.mono (by decide)) rfl (pa_cons (pv 3) (pa_cons pe_int pa_nil))) (pe_callB call_len_seq rfl T.n_len bt_len (pa_cons (pv 1) pa_nil))))
      (pss_cons (ps_set (i := 5) sc__law_lines.nd rfl (by first | exact Or.inl rfl | exact Or.inr rfl) (pe_op op_mod (pe_op op_add (pe_op op_add (pv 4) pe_int) (pe_op op_mod (pe_cal c__law_mixed (hr.mono (by decide)) rfl (pa_cons (pv 3) (pa_cons pe_int pa_nil))) (pe_op op_sub (pe_callB call_len_seq rfl T.n_len bt_len (pa_cons (pv 1) pa_nil)) pe_int))) (pe_callB call_len_seq rfl T.n_len bt_len (pa_cons (pv 1) pa_nil))))
      (pss_cons (ps_set (i := 6) sc__law_lines.nd rfl (by first | exact Or.inl rfl | exact Or.inr rfl) (pe_ix ix_list (pe_lst (pa_cons (pe_op op_add pe_int (pe_op op_mod (pe_cal c__law_mixed (hr.mono (by decide)) rfl (pa_cons (pv 3) (pa_cons pe_int pa_nil))) pe_int)) (pa_cons (pe_op op_add pe_int (pe_op op_mod (pv 3) (pe_op op_pow pe_int pe_int))) pa_nil))) (pe_op op_mod (pe_cal c__law_mixed (hr.mono (by decide)) rfl (pa_cons (pv 3) (pa_cons pe_int pa_nil))) pe_int) (fun _ _ => rfl)))
      (pss_one (ps_expr (pe_bm PySem.F.plainAttrs_list PySem.F.slot_list_append PySem.F.type_list_append mt_append (pv 2) (pa_cons (pe_tup (pa_cons (pe_ix ix_list (pv 1) (pv 4) (fun _ _ => rfl)) (pa_cons (pe_ix ix_list (pv 1) (pv 5) (fun _ _ => rfl)) (pa_cons (pv 6) pa_nil)))) pa_nil))))))) pss_nil)))
      (pss_one (ps_ret (pv 2))))), ?_⟩
    refine ⟨(by show 0 ≤ sizeLine; decide), fun g ng => ?_⟩
    have s1 : Same H (upd H g (.lst [])) := Same.new ng
    have h1 : upd H g (.lst []) g = some (.lst []) := upd_same
    generalize upd H g (.lst []) = H1 at s1 h1 ⊢
    refine ⟨_, rfl, p, rfl, ⟨_, s1.sqL hp⟩, for_list (K := K) (a := p) (xs := ns.map V.int) (fun i σ H' => ∃ v3 v4 v5 v6 xs, ∃ ls : List L3, σ = [some (.ref p), some (.ref m), some (.ref g), v3, v4, v5, v6] ∧ Same H H' ∧ H' g = some (.lst xs) ∧ DtVs K H' (ls.map l3D) xs ∧ ls.length ≤ i ∧ ∀ q ∈ ls, q.1 ∈ mk ∧ q.2.1 ∈ mk ∧ 0 < q.2.2 ∧ q.2.2 < 2 ^ 64)
      ⟨none, none, none, none, [], [], rfl, s1, h1, rfl, Nat.le_refl _, fun q hq => by cases hq⟩ ?_ ?_ ?_⟩
    · rintro i σ H' _ ⟨_, _, _, _, _, _, rfl, sm, _⟩
      exact sm.sqL hp
    · rintro i x σ H' hx ⟨v3, v4, v5, v6, xs, ls, rfl, sm, hg, hds, hkl, hok⟩
      obtain ⟨c, hc, rfl⟩ := ints_at hx
      have hi : i < ns.length := (List.getElem?_eq_some_iff.mp hc).1
      have lx : xs.length ≤ 63 := by
        have := hds.length
        rw [List.length_map] at this
        omega
      dsimp only [gName]
      refine ⟨_, rfl, m, _, rfl, .inl (SqL.of (sm _ _ hm)), _, _, rfl, rfl, _, rfl, ?_⟩
      refine iteB (fun c1 => ?_) (fun c1 => ⟨_, _, _, _, xs, ls, rfl, sm, hg, hds, by omega, hok⟩)
      have hml : 1 < mk.length := by
        have := of_decide_eq_true c1
        rw [List.length_map] at this
        omega
      have hlm : ((mk.map V.str).length : Int) = mk.length := by rw [List.length_map]
      refine ⟨_, rfl, c, 1, rfl, _, rfl, m, _, rfl, .inl (SqL.of (sm _ _ hm)), _, _, rfl, rfl, (by show (0 : Int) < ((mk.map V.str).length : Int); omega), ?_⟩
      refine ⟨_, rfl, _, _, rfl, rfl, _, rfl, c, 2, rfl, _, rfl, m, _, rfl, .inl (SqL.of (sm _ _ hm)), _, _, rfl, rfl, _, _, rfl, rfl, (by show (0 : Int) < ((mk.map V.str).length : Int) - 1; omega), _, _, rfl, rfl, _, rfl, m, _, rfl, .inl (SqL.of (sm _ _ hm)), _, _, rfl, rfl, (by show (0 : Int) < ((mk.map V.str).length : Int); omega), ?_⟩
      have y1 : 0 < 1 + mixed c 3 % 9 := by have := Int.emod_nonneg (mixed c 3) (show (9 : Int) ≠ 0 by decide); omega
      have y2 : 0 < 1 + c % 10 ^ Int.toNat 7 := by have := Int.emod_nonneg c (show (10 ^ Int.toNat 7 : Int) ≠ 0 by decide); omega
      have y3 : 1 + mixed c 3 % 9 < 2 ^ 64 := by have := Int.emod_lt_of_pos (mixed c 3) (show (0 : Int) < 9 by decide); omega
      have y4 : 1 + c % 10 ^ Int.toNat 7 < 2 ^ 64 := by
        have := Int.emod_lt_of_pos c (show (0 : Int) < 10 ^ Int.toNat 7 by decide)
        have e : (10 : Int) ^ Int.toNat 7 = 10000000 := by decide
        omega
      obtain ⟨wt, hwt, w0, ww⟩ := at_two (x := 1 + mixed c 3 % 9) (y := 1 + c % 10 ^ Int.toNat 7) (c := mixed c 4) y1 y2
      have w1 : wt < 2 ^ 64 := by rcases ww with e | e <;> rw [e] <;> assumption
      refine ⟨_, rfl, c, 3, rfl, _, _, rfl, rfl, (by show (0 : Int) < 9; decide), _, _, rfl, rfl, _, rfl, _, _, rfl, rfl, ⟨by decide, by decide, by decide⟩, _, _, rfl, rfl, (by show (0 : Int) < 10 ^ Int.toNat 7; decide), _, _, rfl, rfl, (by show 2 ≤ sizeLine; decide), fun z nz => ⟨_, rfl, c, 4, rfl, _, _, rfl, rfl, (by show (0 : Int) < 2; decide), z, _, _, _, rfl, rfl, SqL.of upd_same, hwt, ?_⟩⟩
      have s2 : Same H' (upd H' z (.lst [V.int (1 + mixed c 3 % 9), V.int (1 + c % 10 ^ Int.toNat 7)])) := Same.new nz
      generalize upd H' z (.lst [V.int (1 + mixed c 3 % 9), V.int (1 + c % 10 ^ Int.toNat 7)]) = H2 at s2 ⊢
      have t2 := sm.trans s2
      have m1 : mixed c 1 % ((mk.map V.str).length : Int) < mk.length := by
        have := Int.emod_lt_of_pos (mixed c 1) (b := ((mk.map V.str).length : Int)) (by omega)
        omega
      have m0 : 0 ≤ mixed c 1 % ((mk.map V.str).length : Int) := Int.emod_nonneg _ (by omega)
      have n1 : (mixed c 1 % ((mk.map V.str).length : Int) + 1 + mixed c 2 % (((mk.map V.str).length : Int) - 1)) % ((mk.map V.str).length : Int) < mk.length := by
        have := Int.emod_lt_of_pos (mixed c 1 % ((mk.map V.str).length : Int) + 1 + mixed c 2 % (((mk.map V.str).length : Int) - 1)) (b := ((mk.map V.str).length : Int)) (by omega)
        omega
      have n0 : 0 ≤ (mixed c 1 % ((mk.map V.str).length : Int) + 1 + mixed c 2 % (((mk.map V.str).length : Int) - 1)) % ((mk.map V.str).length : Int) := Int.emod_nonneg _ (by omega)
      obtain ⟨su, u1, hsu⟩ := at_str (ss := mk) m0 m1
      obtain ⟨sl, u2, hsl⟩ := at_str (ss := mk) n0 n1
      refine ⟨_, rfl, .inl ⟨rfl, _, SqL.of (s2 _ _ hg)⟩, _, rfl, _, rfl, m, _, _, _, rfl, rfl, SqL.of (t2 _ _ hm), hsu, _, rfl, _, rfl, m, _, _, _, rfl, rfl, SqL.of (t2 _ _ hm), hsl, _, rfl, (by show 3 ≤ sizeLine; decide), fun t nt => ?_⟩
      have s3 : Same H2 (upd H2 t (.tup [.str su, .str sl, .int wt])) := Same.new nt
      have h3 : upd H2 t (.tup [.str su, .str sl, .int wt]) t = some (.tup [.str su, .str sl, .int wt]) := upd_same
      generalize upd H2 t (.tup [.str su, .str sl, .int wt]) = H3 at s3 h3 ⊢
      have u3 := s2.trans s3
      refine ⟨g, _, _, rfl, rfl, u3 _ _ hg, by rw [sizeLine_eq]; omega, ?_⟩
      have kp : Tk H3 (upd H3 g (.lst (xs ++ [.ref t]))) := Tk.upd (u3 _ _ hg) rfl
      refine ⟨_, _, _, _, _, ls ++ [(su, sl, wt)], rfl, same_upd ng (sm.trans u3), upd_same, ?_, by rw [List.length_append]; exact Nat.succ_le_succ hkl, fun q hq => ?_⟩
      · rw [List.map_append]
        exact DtVs.snoc (d := l3D (su, sl, wt)) (kp.dt rfl ⟨t, _, rfl, SqT.of h3, _, _, rfl, rfl, _, _, rfl, rfl, _, _, rfl, rfl, rfl⟩) (kp.dts (noLsts_map (fun _ => rfl) _) (u3.dts hds))
      · rcases List.mem_append.mp hq with hq | hq
        · exact hok q hq
        · rw [List.mem_singleton.mp hq]
          exact ⟨u1, u2, w0, w1⟩
    · rintro σ H3 ⟨v3, v4, v5, v6, xs, ls, rfl, sm, hg, hds, hkl, hok⟩
      rw [List.length_map] at hkl
      exact ⟨_, rfl, k g ls H3 sm ⟨xs, hg, hds⟩ hok (by omega)⟩
/-- every key is a text with a number -/
def AllS (kvs : Kvs) : Prop := ∀ p ∈ kvs, ∃ s, p.1 = Sum.inr s ∧ Has kvs s
theorem put_mem {kvs : Kvs} {k : Key} {v : V} {p : Key × V} (h : p ∈ putK kvs k v) : p.1 = k ∨ ∃ q ∈ kvs, q.1 = p.1 := by
  unfold putK at h
  split at h
  · obtain ⟨q, hq, e⟩ := List.mem_map.mp h
    by_cases z : q.1 = k
    · rw [if_pos z] at e
      exact .inl (by rw [← e]; exact z)
    · rw [if_neg z] at e
      exact .inr ⟨q, hq, by rw [e]⟩
  · rcases List.mem_append.mp h with h | h
    · exact .inr ⟨p, h, rfl⟩
    · exact .inl (by rw [List.mem_singleton.mp h])
theorem AllS.put {kvs : Kvs} {s : Str} {i : Int} (h : AllS kvs) : AllS (putK kvs (Sum.inr s) (.int i)) := fun p hp => by
  rcases put_mem hp with e | ⟨q, hq, e⟩
  · exact ⟨s, e, Has.new⟩
  · obtain ⟨t, e1, h1⟩ := h q hq
    exact ⟨t, by rw [← e]; exact e1, h1.put⟩
def spPlaces (K : PySem.W.Frag) : Sp := fun vs H Q _ => ∃ p l h g rs rows hv, ∃ ns : List Int, vs = [.ref p, .ref l, .ref h, .int g] ∧ SqL K H p (ns.map V.int) ∧ H l = some (.lst ((rs : List Addr).map V.ref)) ∧ Rw H rs rows ∧ H h = some (.dK hv) ∧ rows.length ≤ 4 ∧ (∀ row ∈ rows, row.length ≤ 12) ∧ (∀ row ∈ rows, ∀ s ∈ row, Has hv s) ∧
  ∀ d qv H', Same H H' → H' d = some (.dK qv) → AllS qv → (∀ row ∈ rows, ∀ s ∈ row, Has qv s) → qv.length ≤ 48 → Q (.ref d) H'
set_option maxHeartbeats 8000000 in
theorem ok_places (T : Tx K mg a) : Cal P w K mg base CX0 2 "_law_places" ["_law_script", "_law_rows_here", "_law_halves", "_law_gap"] [] (spPlaces K) := T.d__law_places.cal fun f fd F => by
  have c__law_mixed := ok_mixed (P := P) (w := w) (base := base) T
  have c__law_cell_at := ok_cell_at (P := P) (w := w) (base := base) T
  refine F.ok sc__law_places (fun vs H Q E h => ?_) (fun cdv A outer s H vs Q E hr h => ?_)
  · obtain ⟨p, l, h, g, rs, rows, hv, ns, rfl, _⟩ := h
    rfl
  · obtain ⟨p, l, h, g, rs, rows, hv, ns, rfl, hS, hl, hrw, hh, hk, hm, has, k⟩ := h
    have hlen := hrw.len
    refine ⟨_, (pss_cons (ps_set (i := 4) sc__law_places.nd rfl (by first | exact Or.inl rfl | exact Or.inr rfl) (pe_cal c__law_cell_at (hr.mono (by decide)) rfl (pa_cons (pv 0) (pa_cons pe_int pa_nil))))
      (pss_cons (ps_set (i := 5) sc__law_places.nd rfl (by first | exact Or.inl rfl | exact Or.inr rfl) pe_dnewK)
      (pss_cons (ps_for PassesOwn.never rfl (pi_enumerate rfl T.n_enumerate (pa_cons (pv 1) pa_nil)) (pg_tup rfl (pgs_cons (pg_name (i := 6) sc__law_places.nd rfl (by first | exact Or.inl rfl | exact Or.inr rfl)) (pgs_cons (pg_name (i := 7) sc__law_places.nd rfl (by first | exact Or.inl rfl | exact Or.inr rfl)) pgs_nil))) (pss_cons (ps_set (i := 8) sc__law_places.nd rfl (by first | exact Or.inl rfl | exact Or.inr rfl) (pe_op op_sub (pe_op op_mod (pe_cal c__law_mixed (hr.mono (by decide)) rfl (pa_cons (pv 4) (pa_cons (pv 6) pa_nil))) (pe_ix ix_list (pe_lst (pa_cons pe_int (pa_cons (pe_op op_pow pe_int pe_int) pa_nil))) (pe_op op_mod (pv 4) pe_int) (fun _ _ => rfl))) pe_int))
      (pss_cons (ps_if (pt_cmpR op_eq (pe_op op_mod (pe_op op_fdiv (pv 4) pe_int) pe_int) pe_int (nomark _)) (pss_one (ps_set (i := 8) sc__law_places.nd rfl (by first | exact Or.inl rfl | exact Or.inr rfl) (pe_op op_sub (pe_op op_mod (pv 4) (pe_op op_mul pe_int (pe_op op_pow pe_int pe_int))) (pe_op op_pow pe_int pe_int)))) pss_nil)
      (pss_one (ps_for PassesOwn.never rfl (pi_enumerate rfl T.n_enumerate (pa_cons (pv 7) pa_nil)) (pg_tup rfl (pgs_cons (pg_name (i := 9) sc__law_places.nd rfl (by first | exact Or.inl rfl | exact Or.inr rfl)) (pgs_cons (pg_name (i := 10) sc__law_places.nd rfl (by first | exact Or.inl rfl | exact Or.inr rfl)) pgs_nil))) (pss_cons (ps_if (pt_cmpR op_gt (pv 9) pe_int (nomark _)) (pss_cons (ps_set (i := 11) sc__law_places.nd rfl (by first | exact Or.inl rfl | exact Or.inr rfl) (pe_op op_mod (pe_cal c__law_mixed (hr.mono (by decide)) rfl (pa_cons (pv 4) (pa_cons (pe_op op_add (pe_op op_add pe_int (pe_op op_mul pe_int (pv 6))) (pv 9)) pa_nil))) pe_int))
      (pss_cons (ps_set (i := 12) sc__law_places.nd rfl (by first | exact Or.inl rfl | exact Or.inr rfl) (pe_ix ix_list (pe_lst (pa_cons pe_int (pa_cons pe_int (pa_cons (pv 11) (pa_cons (pe_un un_neg pe_int) pa_nil))))) (pe_op op_mod (pe_cal c__law_mixed (hr.mono (by decide)) rfl (pa_cons (pv 4) (pa_cons (pe_op op_add (pe_op op_add pe_int (pe_op op_mul pe_int (pv 6))) (pv 9)) pa_nil))) (pe_op op_add pe_int (pe_op op_mod (pe_op op_fdiv (pv 4) pe_int) pe_int))) (fun _ _ => rfl)))
      (pss_one (ps_set (i := 8) sc__law_places.nd rfl (by first | exact Or.inl rfl | exact Or.inr rfl) (pe_op op_add (pe_op op_add (pe_op op_add (pe_op op_add (pv 8) (pe_dget (hu_of hr) (pv 2) (pe_ix ix_list (pv 7) (pe_op op_sub (pv 9) pe_int) (fun _ _ => rfl)) (fun _ _ => rfl))) (pe_dget (hu_of hr) (pv 2) (pv 10) (fun _ _ => rfl))) (pv 3)) (pv 12)))))) pss_nil)
      (pss_one (ps_dput (hu_of hr) (pv 5) (pv 10) (pv 8) rfl))))))))
      (pss_one (ps_ret (pv 5)))))), ?_⟩
    refine ⟨_, rfl, p, ns, 1, rfl, hS, by decide, fun c => ?_⟩
    intro d nd
    have s1 : Same H (upd H d (.dK [])) := Same.new nd
    have h1 : upd H d (.dK []) d = some (.dK []) := upd_same
    generalize upd H d (.dK []) = H1 at s1 h1 ⊢
    refine ⟨_, rfl, l, rfl, ⟨_, SqL.of (s1 _ _ hl)⟩, for_enum (K := K) (l := l) (xs := rs.map V.ref) (fun i σ H' => ∃ v6 v7 v8 v9 v10 v11 v12, ∃ qv : Kvs, σ = [some (.ref p), some (.ref l), some (.ref h), some (.int g), some (.int c), some (.ref d), v6, v7, v8, v9, v10, v11, v12] ∧ Same H H' ∧ H' d = some (.dK qv) ∧ AllS qv ∧ (∀ row ∈ rows.take i, ∀ s ∈ row, Has qv s) ∧ qv.length ≤ 12 * i)
      ⟨none, none, none, none, none, none, none, [], rfl, s1, h1, (fun p hp => by cases hp), (fun row hr => by simp at hr), Nat.le_refl _⟩ ?_ ?_ ?_⟩
    · rintro i σ H' _ ⟨_, _, _, _, _, _, _, _, rfl, sm, _⟩
      exact SqL.of (sm _ _ hl)
    · rintro i y tt σ H' hy nt ⟨v6, v7, v8, v9, v10, v11, v12, qv, rfl, sm, hd, als, hrows, kpv⟩
      obtain ⟨r, hr', rfl⟩ := refs_at hy
      obtain ⟨row, hrow, hrr⟩ := hrw.at hr'
      have hi : i < rows.length := (List.getElem?_eq_some_iff.mp hrow).1
      have krow := hm row (List.mem_of_getElem? hrow)
      have hasr := has row (List.mem_of_getElem? hrow)
      have s2 : Same H' (upd H' tt (.tup [.int i, .ref r])) := Same.new nt
      have h2 : upd H' tt (.tup [.int i, .ref r]) tt = some (.tup [.int i, .ref r]) := upd_same
      generalize upd H' tt (.tup [.int i, .ref r]) = H2 at s2 h2 ⊢
      refine ⟨tt, _, rfl, SqT.of h2, rfl, _, _, rfl, _, _, rfl, rfl, ?_⟩
      obtain ⟨md, hmd, md0, _⟩ := at_two (x := 30) (y := 10 ^ Int.toNat 9) (c := c) (by decide) (by decide)
      refine ⟨_, rfl, _, rfl, c, _, rfl, _, _, rfl, rfl, ⟨by decide, by decide, by decide⟩, (by show 2 ≤ sizeLine; decide), fun z nz => ⟨_, rfl, _, _, rfl, rfl, (by show (0 : Int) < 2; decide), z, _, _, _, rfl, rfl, SqL.of upd_same, hmd, _, _, rfl, rfl, md0, _, _, rfl, rfl, ?_⟩⟩
      have s3 : Same H2 (upd H2 z (.lst [V.int 30, V.int (10 ^ Int.toNat 9)])) := Same.new nz
      generalize upd H2 z (.lst [V.int 30, V.int (10 ^ Int.toNat 9)]) = H3 at s3 ⊢
      have u3 := s2.trans s3
      have t3 := sm.trans u3
      have hd3 := u3 _ _ hd
      apply joinS (fun x : Int => [some (.ref p), some (.ref l), some (.ref h), some (.int g), some (.int c), some (.ref d), some (.int i), some (.ref r), some (.int x), v9, v10, v11, v12]) (fun _ G => G = H3)
      case g =>
        intro rest
        refine ⟨_, rfl, _, _, rfl, rfl, ⟨by decide, by decide⟩, _, _, rfl, rfl, (by show (0 : Int) < 4; decide), rfl, _, rfl, ?_⟩
        refine iteB (fun _ => ?_) (fun _ => rest _ H3 rfl)
        refine ⟨_, rfl, _, _, rfl, rfl, ⟨by decide, by decide, by decide⟩, _, _, rfl, rfl, .inl ⟨by decide, by decide⟩, _, _, rfl, rfl, (by show (0 : Int) < 2 * 10 ^ Int.toNat 12; decide), _, _, rfl, rfl, ⟨by decide, by decide, by decide⟩, _, _, rfl, rfl, ?_⟩
        dsimp only [gName]
        exact rest _ H3 rfl
      case h =>
        rintro at0 _ rfl
        refine ⟨_, rfl, r, rfl, ⟨_, SqL.of (t3 _ _ hrr)⟩, for_enum (K := K) (l := r) (xs := row.map V.str) (fun j σ G => ∃ (at1 : Int) (v9 v10 v11 v12 : Option V) (qv : Kvs), σ = [some (.ref p), some (.ref l), some (.ref h), some (.int g), some (.int c), some (.ref d), some (.int i), some (.ref r), some (.int at1), v9, v10, v11, v12] ∧ Same H G ∧ G d = some (.dK qv) ∧ AllS qv ∧ (∀ row ∈ rows.take i, ∀ s ∈ row, Has qv s) ∧ (∀ s ∈ row.take j, Has qv s) ∧ qv.length ≤ 12 * i + j)
          ⟨at0, v9, v10, v11, v12, qv, rfl, t3, hd3, als, hrows, (fun s hs => by simp at hs), by omega⟩ ?_ ?_ ?_⟩
        · rintro j σ G _ ⟨_, _, _, _, _, _, rfl, sg, _⟩
          exact SqL.of (sg _ _ hrr)
        · rintro j y tt σ G hy nt ⟨at1, w9, w10, w11, w12, qv, rfl, sg, hdg, als, hrows, hrow2, kpv⟩
          obtain ⟨s, hs, rfl⟩ := strs_at hy
          have hj : j < row.length := (List.getElem?_eq_some_iff.mp hs).1
          have s4 : Same G (upd G tt (.tup [.int j, .str s])) := Same.new nt
          have h4 : upd G tt (.tup [.int j, .str s]) tt = some (.tup [.int j, .str s]) := upd_same
          generalize upd G tt (.tup [.int j, .str s]) = G4 at s4 h4 ⊢
          have t4 := sg.trans s4
          refine ⟨tt, _, rfl, SqT.of h4, rfl, _, _, rfl, _, _, rfl, rfl, ?_⟩
          apply joinS (fun x : Int × Option V × Option V => [some (.ref p), some (.ref l), some (.ref h), some (.int g), some (.int c), some (.ref d), some (.int i), some (.ref r), some (.int x.1), some (.int j), some (.str s), x.2.1, x.2.2]) (fun _ G' => Same G4 G')
          case g =>
            intro rest
            refine ⟨_, rfl, _, _, rfl, rfl, _, rfl, ?_⟩
            refine iteB (fun c1 => ?_) (fun _ => rest (at1, w11, w12) G4 (Same.refl _))
            have hj0 : 0 < j := by have := of_decide_eq_true c1; omega
            refine ⟨_, rfl, _, rfl, _, _, rfl, rfl, .inl ⟨by decide, by decide⟩, _, _, rfl, rfl, _, rfl, _, _, rfl, rfl, c, _, rfl, _, _, rfl, rfl, (by show (0 : Int) < 40; decide), ?_⟩
            have q0 : 0 ≤ c / 8 % 2 := Int.emod_nonneg _ (by decide)
            have q1 : c / 8 % 2 < 2 := Int.emod_lt_of_pos _ (by decide)
            obtain ⟨mo, hmo⟩ := at_int (ns := [0, 0, mixed c (30 + 13 * (i : Int) + j) % 40, -1]) (k := mixed c (90 + 13 * (i : Int) + j) % (3 + c / 8 % 2)) (Int.emod_nonneg _ (by omega)) (by have := Int.emod_lt_of_pos (mixed c (90 + 13 * (i : Int) + j)) (show (0 : Int) < 3 + c / 8 % 2 by omega); show _ < (4 : Int); omega)
            refine ⟨_, rfl, _, rfl, (by show 4 ≤ sizeLine; decide), fun z nz => ⟨_, rfl, _, rfl, _, _, rfl, rfl, .inl ⟨by decide, by decide⟩, _, _, rfl, rfl, _, rfl, _, _, rfl, rfl, c, _, rfl, _, rfl, _, _, rfl, rfl, ⟨by decide, by decide⟩, _, _, rfl, rfl, (by show (0 : Int) < 2; decide), _, _, rfl, rfl, _, _, rfl, rfl, (by show (0 : Int) < 3 + c / 8 % 2; omega), z, _, _, _, rfl, rfl, SqL.of upd_same, hmo, ?_⟩⟩
            obtain ⟨s', hs'⟩ := get_of (l := row) (j := j - 1) (by omega)
            have e1 : atI (row.map V.str) ((j : Int) - 1) = some (.str s') := by
              rw [at_nat (by omega), show ((j : Int) - 1).toNat = j - 1 by omega, List.getElem?_map, hs']
              rfl
            have s5 : Same G4 (upd G4 z (.lst [V.int 0, V.int 0, V.int (mixed c (30 + 13 * (i : Int) + j) % 40), V.int (-1)])) := Same.new nz
            generalize upd G4 z (.lst [V.int 0, V.int 0, V.int (mixed c (30 + 13 * (i : Int) + j) % 40), V.int (-1)]) = G5 at s5 ⊢
            have t5 := t4.trans s5
            refine ⟨_, rfl, _, rfl, _, rfl, _, rfl, _, _, rfl, rfl, r, _, _, _, rfl, rfl, SqL.of (t5 _ _ hrr), e1, h, _, rfl, dget_k (k := Sum.inr s') (t5 _ _ hh) (hasr s' (List.mem_of_getElem? hs')).gv, _, _, rfl, rfl, _, rfl, _, rfl, h, _, rfl, dget_k (k := Sum.inr s) (t5 _ _ hh) (hasr s (List.mem_of_getElem? hs)).gv, _, _, rfl, rfl, _, rfl, _, _, rfl, rfl, _, rfl, _, _, rfl, rfl, ?_⟩
            dsimp only [gName]
            exact rest (_, _, _) G5 s5
          case h =>
            rintro ⟨at2, x11, x12⟩ G5 s5
            have u5 := s4.trans s5
            refine ⟨_, rfl, _, rfl, _, rfl, d, _, rfl, DPut.k (k := Sum.inr s) (u5 _ _ hdg) (by rw [sizeLine_eq]; omega), ?_⟩
            refine ⟨at2, _, _, _, _, putK qv (Sum.inr s) (.int at2), rfl, same_upd nd (sg.trans u5), upd_same, als.put, fun row hr t ht => (hrows row hr t ht).put, fun t ht => ?_, by have := length_putK qv (Sum.inr s) (.int at2); omega⟩
            rw [take_snoc hs] at ht
            rcases List.mem_append.mp ht with ht | ht
            · exact (hrow2 t ht).put
            · rw [List.mem_singleton.mp ht]
              exact Has.new
        · rintro σ G ⟨at1, w9, w10, w11, w12, qv, rfl, sg, hdg, als, hrows, hrow2, kpv⟩
          rw [List.length_map] at hrow2 kpv
          rw [List.take_length] at hrow2
          refine ⟨_, _, _, _, _, _, _, qv, rfl, sg, hdg, als, fun x hx t ht => ?_, by omega⟩
          rw [take_snoc hrow] at hx
          rcases List.mem_append.mp hx with hx | hx
          · exact hrows x hx t ht
          · rw [List.mem_singleton.mp hx] at ht
            exact hrow2 t ht
    · rintro σ H' ⟨v6, v7, v8, v9, v10, v11, v12, qv, rfl, sm, hd, als, hrows, kpv⟩
      rw [List.length_map, hlen] at hrows kpv
      rw [List.take_length] at hrows
      exact ⟨_, rfl, k d qv H' sm hd als hrows (by omega)⟩
end
end K62
namespace K62
open PySem L2
section
variable {P : Program} {w : World} {K : PySem.W.Frag} {mg : Str → Option Value} {base : Heap} {a : Adr}
def spLKeeps : Sp := fun vs H Q _ => ∃ l rs rows h g p hv qv, vs = [.ref l, .ref h, .int g, .ref p] ∧ H l = some (.lst ((rs : List Addr).map V.ref)) ∧ Rw H rs rows ∧ (∀ row ∈ rows, row.length ≤ 60) ∧ H h = some (.dK hv) ∧ H p = some (.dK qv) ∧ (∀ row ∈ rows, ∀ s ∈ row, Has hv s ∧ Has qv s) ∧ Q (.bl ((nbs rows).all (kp1 hv qv g))) H
set_option maxHeartbeats 4000000 in
theorem ok_lkeeps (T : Tx K mg a) : Cal P w K mg base CX0 1 "_law_keeps" ["_law_rows_here", "_law_halves", "_law_gap", "_law_places_here"] [] spLKeeps := T.d__law_keeps.cal fun f fd F => by
  refine F.ok sc__law_keeps (fun vs H Q E h => ?_) (fun cdv A outer s H vs Q E hr h => ?_)
  · obtain ⟨l, rs, rows, h, g, p, hv, qv, rfl, _⟩ := h
    rfl
  · obtain ⟨l, rs, rows, h, g, p, hv, qv, rfl, hl, hrw, hm, hh, hp, has, k⟩ := h
    have hlen := hrw.len
    refine ⟨_, (pss_cons (ps_for PassesOwn.never rfl (pi_list (pv 0)) (pg_name (i := 4) sc__law_keeps.nd rfl (by first | exact Or.inl rfl | exact Or.inr rfl)) (pss_one (ps_for PassesOwn.never rfl (pi_range2 rfl T.n_range (pa_cons pe_int (pa_cons (pe_callB call_len_seq rfl T.n_len bt_len (pa_cons (pv 4) pa_nil)) pa_nil))) (pg_name (i := 5) sc__law_keeps.nd rfl (by first | exact Or.inl rfl | exact Or.inr rfl)) (pss_cons (ps_set (i := 6) sc__law_keeps.nd rfl (by first | exact Or.inl rfl | exact Or.inr rfl) (pe_ix ix_list (pv 4) (pe_op op_sub (pv 5) pe_int) (fun _ _ => rfl)))
      (pss_cons (ps_set (i := 7) sc__law_keeps.nd rfl (by first | exact Or.inl rfl | exact Or.inr rfl) (pe_ix ix_list (pv 4) (pv 5) (fun _ _ => rfl)))
      (pss_cons (ps_set (i := 8) sc__law_keeps.nd rfl (by first | exact Or.inl rfl | exact Or.inr rfl) (pe_op op_add (pe_op op_add (pe_dget (hu_of hr) (pv 1) (pv 6) (fun _ _ => rfl)) (pe_dget (hu_of hr) (pv 1) (pv 7) (fun _ _ => rfl))) (pv 2)))
      (pss_one (ps_if (pt_cmpR op_lt (pe_op op_sub (pe_dget (hu_of hr) (pv 3) (pv 7) (fun _ _ => rfl)) (pe_dget (hu_of hr) (pv 3) (pv 6) (fun _ _ => rfl))) (pv 8) (nomark _)) (pss_one (ps_ret pe_bl)) pss_nil))))))))
      (pss_one (ps_ret pe_bl))), ?_⟩
    refine ⟨_, rfl, l, rfl, ⟨_, SqL.of hl⟩, for_list (K := K) (a := l) (xs := rs.map V.ref) (fun i σ H' => ∃ v4 v5 v6 v7 v8, σ = [some (.ref l), some (.ref h), some (.int g), some (.ref p), v4, v5, v6, v7, v8] ∧ H' = H ∧ (nbs (rows.take i)).all (kp1 hv qv g) = true)
      ⟨none, none, none, none, none, rfl, rfl, rfl⟩ ?_ ?_ ?_⟩
    · rintro i σ H' _ ⟨_, _, _, _, _, rfl, rfl, _⟩
      exact SqL.of hl
    · rintro i x σ H' hx ⟨v4, v5, v6, v7, v8, rfl, rfl, all1⟩
      obtain ⟨r, hr', rfl⟩ := refs_at hx
      obtain ⟨row, hrow, hrr⟩ := hrw.at hr'
      have hasr := has row (List.mem_of_getElem? hrow)
      have krow := hm row (List.mem_of_getElem? hrow)
      dsimp only [gName]
      refine ⟨_, rfl, r, _, rfl, .inl (SqL.of hrr), _, _, rfl, ⟨by decide, by decide, by rw [List.length_map]; omega, by rw [List.length_map]; omega⟩, for_range (lo := 1) (n := (((row.map V.str).length : Int) - 1).toNat) (fun j σ G => ∃ v5 v6 v7 v8, σ = [some (.ref l), some (.ref h), some (.int g), some (.ref p), some (.ref r), v5, v6, v7, v8] ∧ G = H' ∧ ((nb row).take j).all (kp1 hv qv g) = true)
        ⟨v5, v6, v7, v8, rfl, rfl, rfl⟩ ?_ ?_⟩
      · rintro j σ G hj ⟨w5, w6, w7, w8, rfl, rfl, all2⟩
        rw [List.length_map] at hj
        obtain ⟨sl, hsl⟩ := get_of (l := row) (j := j) (by omega)
        obtain ⟨sr, hsr⟩ := get_of (l := row) (j := j + 1) (by omega)
        have e1 : atI (row.map V.str) (1 + (j : Int) - 1) = some (.str sl) := by
          rw [at_nat (by omega), show (1 + (j : Int) - 1).toNat = j by omega, List.getElem?_map, hsl]
          rfl
        have e2 : atI (row.map V.str) (1 + (j : Int)) = some (.str sr) := by
          rw [at_nat (by omega), show (1 + (j : Int)).toNat = j + 1 by omega, List.getElem?_map, hsr]
          rfl
        obtain ⟨a1, a2⟩ := hasr sl (List.mem_of_getElem? hsl)
        obtain ⟨a3, a4⟩ := hasr sr (List.mem_of_getElem? hsr)
        have hnb := nb_get hsl hsr
        dsimp only [gName]
        refine ⟨_, rfl, _, rfl, _, _, rfl, rfl, r, _, _, _, rfl, rfl, SqL.of hrr, e1, ?_⟩
        refine ⟨_, rfl, _, rfl, r, _, _, _, rfl, rfl, SqL.of hrr, e2, ?_⟩
        refine ⟨_, rfl, _, rfl, h, _, rfl, dget_k (k := Sum.inr sl) hh a1.gv, _, rfl, _, rfl, h, _, rfl, dget_k (k := Sum.inr sr) hh a3.gv, _, _, rfl, rfl, _, rfl, _, _, rfl, rfl, ?_⟩
        refine ⟨_, rfl, _, rfl, p, _, rfl, dget_k (k := Sum.inr sr) hp a4.gv, _, rfl, _, rfl, p, _, rfl, dget_k (k := Sum.inr sl) hp a2.gv, _, _, rfl, rfl, _, rfl, _, _, rfl, rfl, _, rfl, ?_⟩
        refine iteB (fun c1 => ?_) (fun c1 => ?_)
        · have c2 : gv qv sr - gv qv sl < gv hv sl + gv hv sr + g := of_decide_eq_true c1
          have no : (nbs rows).all (kp1 hv qv g) = false := by
            cases e : (nbs rows).all (kp1 hv qv g) with
            | false => rfl
            | true =>
              have hmem : (sl, sr) ∈ nbs rows := by
                unfold nbs
                exact List.mem_flatten.mpr ⟨nb row, List.mem_map.mpr ⟨row, List.mem_of_getElem? hrow, rfl⟩, List.mem_of_getElem? hnb⟩
              have := List.all_eq_true.mp e _ hmem
              unfold kp1 at this
              have := of_decide_eq_true this
              dsimp only at this
              omega
          rw [no] at k
          exact k
        · have c2 : ¬ gv qv sr - gv qv sl < gv hv sl + gv hv sr + g := of_decide_eq_false c1
          refine ⟨_, _, _, _, rfl, rfl, ?_⟩
          rw [take_snoc hnb, List.all_append, all2]
          have : kp1 hv qv g (sl, sr) = true := by
            unfold kp1
            exact decide_eq_true (by dsimp only; omega)
          simp [this]
      · rintro σ G ⟨w5, w6, w7, w8, rfl, rfl, all2⟩
        refine ⟨_, _, _, _, _, rfl, rfl, ?_⟩
        rw [nbs_snoc hrow, List.all_append, all1]
        rw [show (((row.map V.str).length : Int) - 1).toNat = (nb row).length by rw [List.length_map, nb_len]; omega, List.take_length] at all2
        rw [all2]
        rfl
    · rintro σ H' ⟨v4, v5, v6, v7, v8, rfl, rfl, all1⟩
      rw [List.length_map, hlen, List.take_length] at all1
      rw [all1] at k
      exact k
def spLCost (K : PySem.W.Frag) : Sp := fun vs H Q _ => ∃ l p ls qv, vs = [.ref l, .ref p] ∧ L3At K H l ls ∧ H p = some (.dK qv) ∧ (∀ q ∈ ls, Has qv q.1 ∧ Has qv q.2.1 ∧ 0 < q.2.2 ∧ q.2.2 < 2 ^ 64) ∧ Q (.int (costL qv ls)) H
set_option maxHeartbeats 4000000 in
theorem ok_lcost (T : Tx K mg a) : Cal P w K mg base CX0 1 "_law_cost" ["_law_lines_here", "_law_places_here"] [] (spLCost K) := T.d__law_cost.cal fun f fd F => by
  refine F.ok sc__law_cost (fun vs H Q E h => ?_) (fun cdv A outer s H vs Q E hr h => ?_)
  · obtain ⟨l, p, ls, qv, rfl, _⟩ := h
    rfl
  · obtain ⟨l, p, ls, qv, rfl, ⟨xs, hl, hds⟩, hp, has, k⟩ := h
    have hlx : ls.length = xs.length := by rw [← hds.length, List.length_map]
    refine ⟨_, (pss_cons (ps_set (i := 2) sc__law_cost.nd rfl (by first | exact Or.inl rfl | exact Or.inr rfl) pe_int)
      (pss_cons (ps_for PassesOwn.never rfl (pi_list (pv 0)) (pg_tup rfl (pgs_cons (pg_name (i := 3) sc__law_cost.nd rfl (by first | exact Or.inl rfl | exact Or.inr rfl)) (pgs_cons (pg_name (i := 4) sc__law_cost.nd rfl (by first | exact Or.inl rfl | exact Or.inr rfl)) (pgs_cons (pg_name (i := 5) sc__law_cost.nd rfl (by first | exact Or.inl rfl | exact Or.inr rfl)) pgs_nil)))) (pss_one (ps_set (i := 2) sc__law_cost.nd rfl (by first | exact Or.inl rfl | exact Or.inr rfl) (pe_op op_add (pv 2) (pe_op op_mul (pv 5) (pe_callB call_max2H rfl T.n_max bt_max (pa_cons (pe_op op_sub (pe_dget (hu_of hr) (pv 1) (pv 3) (fun _ _ => rfl)) (pe_dget (hu_of hr) (pv 1) (pv 4) (fun _ _ => rfl))) (pa_cons (pe_op op_sub (pe_dget (hu_of hr) (pv 1) (pv 4) (fun _ _ => rfl)) (pe_dget (hu_of hr) (pv 1) (pv 3) (fun _ _ => rfl))) pa_nil))))))))
      (pss_one (ps_ret (pv 2))))), ?_⟩
    refine ⟨_, rfl, l, rfl, ⟨_, SqL.of hl⟩, for_list (K := K) (a := l) (xs := xs) (fun i σ H' => ∃ v3 v4 v5, σ = [some (.ref l), some (.ref p), some (.int (costL qv (ls.take i))), v3, v4, v5] ∧ H' = H)
      ⟨none, none, none, rfl, rfl⟩ ?_ ?_ ?_⟩
    · rintro i σ H' _ ⟨_, _, _, rfl, rfl⟩
      exact SqL.of hl
    · rintro i x σ H' hx ⟨v3, v4, v5, rfl, rfl⟩
      obtain ⟨q, hq, dq⟩ := dts_get hds hx
      obtain ⟨t, rfl, ht⟩ := un_l3 dq
      obtain ⟨a1, a2, a3, a4⟩ := has q (List.mem_of_getElem? hq)
      refine ⟨t, _, rfl, ht, rfl, _, _, rfl, _, _, rfl, _, _, rfl, rfl, ?_⟩
      refine ⟨_, rfl, _, rfl, _, rfl, _, rfl, p, _, rfl, dget_k (k := Sum.inr q.1) hp a1.gv, _, rfl, _, rfl, p, _, rfl, dget_k (k := Sum.inr q.2.1) hp a2.gv, _, _, rfl, rfl, _, rfl, _, rfl, p, _, rfl, dget_k (k := Sum.inr q.2.1) hp a2.gv, _, rfl, _, rfl, p, _, rfl, dget_k (k := Sum.inr q.1) hp a1.gv, _, _, rfl, rfl, _, _, rfl, _, _, rfl, rfl, .inl ⟨by show -(2 ^ 64) < q.2.2; omega, a4⟩, _, _, rfl, rfl, ?_⟩
      refine ⟨some (.str q.1), some (.str q.2.1), some (.int q.2.2), ?_, rfl⟩
      have e : costL qv (ls.take (i + 1)) = costL qv (ls.take i) + q.2.2 * (if gv qv q.2.1 - gv qv q.1 > gv qv q.1 - gv qv q.2.1 then gv qv q.2.1 - gv qv q.1 else gv qv q.1 - gv qv q.2.1) := by
        have ef : far qv q = if gv qv q.2.1 - gv qv q.1 > gv qv q.1 - gv qv q.2.1 then gv qv q.2.1 - gv qv q.1 else gv qv q.1 - gv qv q.2.1 := by
          unfold far
          split <;> split <;> omega
        unfold costL
        rw [take_snoc hq, List.map_append, List.sum_append, ← ef]
        simp
      rw [e]
      rfl
    · rintro σ H' ⟨v3, v4, v5, rfl, rfl⟩
      rw [← hlx, List.take_length]
      exact ⟨_, rfl, k⟩
/-- the same places, moved by e -/
structure Mv (qv rv : Kvs) (e : Int) : Prop where
  at' : ∀ s, Has qv s → valV rv (Sum.inr s) = some (.int (gv qv s + e))
theorem Mv.has {qv rv : Kvs} {e : Int} (h : Mv qv rv e) {s : Str} (hs : Has qv s) : Has rv s := ⟨_, h.at' s hs⟩
theorem Mv.vl {qv rv : Kvs} {e : Int} (h : Mv qv rv e) {s : Str} (hs : Has qv s) : gv rv s = gv qv s + e := by
  unfold K62.gv
  rw [h.at' s hs]
  rfl
theorem Mv.cost {qv rv : Kvs} {e : Int} (h : Mv qv rv e) {ls : List L3} (hs : ∀ q ∈ ls, Has qv q.1 ∧ Has qv q.2.1) : costL rv ls = costL qv ls := by
  unfold costL
  congr 1
  refine List.map_congr_left fun q hq => ?_
  have : far rv q = far qv q := by
    unfold far
    rw [h.vl (hs q hq).1, h.vl (hs q hq).2]
    rw [show gv qv q.2.1 + e - (gv qv q.1 + e) = gv qv q.2.1 - gv qv q.1 by omega]
  rw [this]
theorem dget_frz {H : Hp} {d : Addr} {o : Obj} {kvs : Kvs} {k : Key} {v : V} (e : H d = some (.frz o (.dK kvs))) (h : valV kvs k = some v) : DGet H d (kV k) (some v) := .inl ⟨kvs, k, .inr ⟨o, e⟩, rfl, h.symm⟩
def spLaw (K : PySem.W.Frag) : Sp := fun vs H Q _ => ∃ (p : Addr) (ns : List Int), vs = [.ref p] ∧ SqL K H p (ns.map V.int) ∧ ns.length ≤ 63 ∧ ∀ H', Q (.bl true) H'
set_option maxHeartbeats 8000000 in
theorem ok_law (T : Tx K mg a) (f : Addr) (fd : FuncData) (F : FunD K "law" "law" s_law f fd) : FnOk P w K mg base CX0 5 f fd ["_law_script"] (spLaw K) := by
  have c__law_cell_at := ok_cell_at (P := P) (w := w) (base := base) T
  have c__law_rows := ok_rows (P := P) (w := w) (base := base) T
  have c__law_lines := ok_lines (P := P) (w := w) (base := base) T
  have c__law_places := ok_places (P := P) (w := w) (base := base) T
  have c__law_keeps := ok_lkeeps (P := P) (w := w) (base := base) T
  have c__law_cost := ok_lcost (P := P) (w := w) (base := base) T
  have c_keeps_gap := ok_keeps_gap (P := P) (w := w) (base := base) T
  have c_cost_of := ok_cost_of (P := P) (w := w) (base := base) T
  refine F.ok sc_law (fun vs H Q E h => ?_) (fun cdv A outer s H vs Q E hr h => ?_)
  · obtain ⟨p, ns, rfl, _⟩ := h
    rfl
  · obtain ⟨p, ns, rfl, hS, hlen, k⟩ := h
    refine ⟨_, (pss_cons (ps_asg (pe_cal c__law_rows (hr.mono (by decide)) rfl (pa_cons (pv 0) pa_nil)) (pg_tup rfl (pgs_cons (pg_name (i := 1) sc_law.nd rfl (by first | exact Or.inl rfl | exact Or.inr rfl)) (pgs_cons (pg_name (i := 2) sc_law.nd rfl (by first | exact Or.inl rfl | exact Or.inr rfl)) (pgs_cons (pg_name (i := 3) sc_law.nd rfl (by first | exact Or.inl rfl | exact Or.inr rfl)) pgs_nil)))))
      (pss_cons (ps_set (i := 4) sc_law.nd rfl (by first | exact Or.inl rfl | exact Or.inr rfl) (pe_cal c__law_lines (hr.mono (by decide)) rfl (pa_cons (pe_slice sl_list (pv 0) (po_some pe_int) (po_some pe_int)) (pa_cons (pv 1) pa_nil))))
      (pss_cons (ps_set (i := 5) sc_law.nd rfl (by first | exact Or.inl rfl | exact Or.inr rfl) (pe_op op_mod (pe_op op_fdiv (pe_cal c__law_cell_at (hr.mono (by decide)) rfl (pa_cons (pv 0) (pa_cons pe_int pa_nil))) pe_int) pe_int))
      (pss_cons (ps_set (i := 6) sc_law.nd rfl (by first | exact Or.inl rfl | exact Or.inr rfl) (pe_cal c__law_places (hr.mono (by decide)) rfl (pa_cons (pv 0) (pa_cons (pv 2) (pa_cons (pv 3) (pa_cons (pv 5) pa_nil))))))
      (pss_cons (ps_set (i := 7) sc_law.nd rfl (by first | exact Or.inl rfl | exact Or.inr rfl) (pe_callTy call_dictD rfl T.n_dict bt_dict (pa_cons (pv 6) pa_nil)))
      (pss_cons (ps_for PassesOwn.never rfl (pi_range1 rfl T.n_range (pa_cons pe_int pa_nil)) (pg_name (i := 8) sc_law.nd rfl (by first | exact Or.inl rfl | exact Or.inr rfl)) (pss_cons (ps_set (i := 9) sc_law.nd rfl (by first | exact Or.inl rfl | exact Or.inr rfl) (pe_cal c_keeps_gap (hr.mono (by decide)) rfl (pa_cons (pv 2) (pa_cons (pv 3) (pa_cons (pv 5) (pa_cons (pv 7) pa_nil))))))
      (pss_cons (ps_if (PW.pt (pw_or (pt_not (pt_val (pe_callB call_isinst rfl T.n_isinstance bt_isinstance (pa_cons (pv 9) (pa_cons (pe_gTy rfl T.n_bool bt_bool) pa_nil))))) (pw_or1 (pt_cmpR op_ne (pv 9) (pe_cal c__law_keeps (hr.mono (by decide)) rfl (pa_cons (pv 2) (pa_cons (pv 3) (pa_cons (pv 5) (pa_cons (pv 7) pa_nil))))) (nomark _))))) (pss_one (ps_ret pe_bl)) pss_nil)
      (pss_cons (ps_set (i := 10) sc_law.nd rfl (by first | exact Or.inl rfl | exact Or.inr rfl) (pe_cal c_cost_of (hr.mono (by decide)) rfl (pa_cons (pv 4) (pa_cons (pv 7) pa_nil))))
      (pss_cons (ps_if (PW.pt (pw_or (pt_not (pt_val (pe_callB call_isinst rfl T.n_isinstance bt_isinstance (pa_cons (pv 10) (pa_cons (pe_gTy rfl T.n_int bt_int) pa_nil))))) (pw_or (pt_val (pe_callB call_isinst rfl T.n_isinstance bt_isinstance (pa_cons (pv 10) (pa_cons (pe_gTy rfl T.n_bool bt_bool) pa_nil)))) (pw_or1 (pt_cmpR op_ne (pv 10) (pe_cal c__law_cost (hr.mono (by decide)) rfl (pa_cons (pv 4) (pa_cons (pv 6) pa_nil))) (nomark _)))))) (pss_one (ps_ret pe_bl)) pss_nil)
      (pss_cons (ps_thaw (ps_for PassesOwn.never rfl (pi_dict (pv 6)) (pg_name (i := 11) sc_law.nd rfl (by first | exact Or.inl rfl | exact Or.inr rfl)) (pss_one (ps_if (pt_cmpR op_ne (pe_dget (hu_of hr) (pv 7) (pv 11) (fun _ _ => rfl)) (pe_op op_add (pe_dget (hu_of hr) (pv 6) (pv 11) (fun _ _ => rfl)) (pe_op op_mul (pv 8) pe_int)) (nomark _)) (pss_one (ps_ret pe_bl)) pss_nil))))
      (pss_cons (ps_set (i := 7) sc_law.nd rfl (by first | exact Or.inl rfl | exact Or.inr rfl) pe_dnewK)
      (pss_one (ps_thaw (ps_for PassesOwn.never rfl (pi_dict (pv 6)) (pg_name (i := 11) sc_law.nd rfl (by first | exact Or.inl rfl | exact Or.inr rfl)) (pss_one (ps_dput (hu_of hr) (pv 7) (pv 11) (pe_op op_add (pe_dget (hu_of hr) (pv 6) (pv 11) (fun _ _ => rfl)) pe_int) rfl))))))))))))
      (pss_one (ps_ret pe_bl)))))))), ?_⟩
    refine ⟨_, rfl, p, ns, rfl, hS, fun t m l h rs mk rows hv H1 s1 ht hm hl hrw hh ok hmk => ?_⟩
    refine ⟨t, _, rfl, SqT.of ht, rfl, _, _, rfl, _, _, rfl, _, _, rfl, rfl, ?_⟩
    obtain ⟨ms, hms, hml⟩ := cut_ints ns (some 2) (some 14)
    refine ⟨_, rfl, _, rfl, _, rfl, p, _, rfl, s1.sqL hS, fun lc nlc => ?_⟩
    rw [hms]
    have s2 : Same H1 (upd H1 lc (.lst (ms.map V.int))) := Same.new nlc
    have h2 : upd H1 lc (.lst (ms.map V.int)) lc = some (.lst (ms.map V.int)) := upd_same
    generalize upd H1 lc (.lst (ms.map V.int)) = H2 at s2 h2 ⊢
    refine ⟨_, rfl, lc, m, mk, ms, rfl, SqL.of h2, by omega, s2 _ _ hm, fun g ls H3 s3 hls hok hkl => ?_⟩
    have u3 := s2.trans s3
    have t3 := s1.trans u3
    refine ⟨_, rfl, p, ns, 1, rfl, t3.sqL hS, by decide, fun c => ⟨_, _, rfl, rfl, ⟨by decide, by decide⟩, _, _, rfl, rfl, (by show (0 : Int) < 51; decide), ?_⟩⟩
    refine ⟨_, rfl, _, rfl, _, rfl, _, rfl, p, l, h, _, rs, rows, hv, ns, rfl, t3.sqL hS, u3 _ _ hl, hrw.same u3, u3 _ _ hh, ok.k, ok.n, ok.has, fun d qv H4 s4 hd als hqv kqv => ?_⟩
    have u4 := u3.trans s4
    have hl4 := u4 _ _ hl
    have hrw4 := hrw.same u4
    have hh4 := u4 _ _ hh
    obtain ⟨xs, hg, hds⟩ := hls
    have hg4 := s4 _ _ hg
    have hds4 := s4.dts hds
    have n60 : ∀ row ∈ rows, row.length ≤ 60 := fun row hr => by have := ok.n row hr; omega
    have has4 : ∀ row ∈ rows, ∀ s ∈ row, Has hv s ∧ Has qv s := fun row hr s hs => ⟨ok.has row hr s hs, hqv row hr s hs⟩
    have hasL : ∀ q ∈ ls, Has qv q.1 ∧ Has qv q.2.1 := fun q hq => by
      obtain ⟨m1, m2, _⟩ := hok q hq
      obtain ⟨r1, x1, y1⟩ := ok.all _ m1
      obtain ⟨r2, x2, y2⟩ := ok.all _ m2
      exact ⟨hqv r1 x1 _ y1, hqv r2 x2 _ y2⟩
    have hasC : ∀ q ∈ ls, Has qv q.1 ∧ Has qv q.2.1 ∧ 0 < q.2.2 ∧ q.2.2 < 2 ^ 64 := fun q hq => ⟨(hasL q hq).1, (hasL q hq).2, (hok q hq).2.2⟩
    clear s1 ht hm hl hrw hh hS s2 h2 u3 t3 u4 hg hds s3
    -- a copy
    refine ⟨_, rfl, d, qv, rfl, hd, fun e ne => ?_⟩
    have s5 : Same H4 (upd H4 e (.dK qv)) := Same.new ne
    have h5 : upd H4 e (.dK qv) e = some (.dK qv) := upd_same
    have mv0 : Mv qv qv 0 := ⟨fun s hs => by rw [hs.gv, Int.add_zero]⟩
    generalize upd H4 e (.dK qv) = H5 at s5 h5 ⊢
    refine ⟨_, rfl, by decide, by decide, for_range (lo := 0) (n := Int.toNat 2) (fun i σ H' => ∃ v8 v9 v10 v11, ∃ (e : Addr) (rv : Kvs) (sh : Int), σ = [some (.ref p), some (.ref m), some (.ref l), some (.ref h), some (.ref g), some (.int (c / 16 % 51)), some (.ref d), some (.ref e), v8, v9, v10, v11] ∧ Same H4 H' ∧ H' e = some (.dK rv) ∧ Mv qv rv sh ∧ (i < 2 → sh = 17 * i))
      ⟨none, none, none, none, e, qv, 0, rfl, s5, h5, mv0, fun _ => rfl⟩ ?_ ?_⟩
    · rintro i σ H' hi ⟨v8, v9, v10, v11, e, rv, sh, rfl, sm, he, mv, hsh⟩
      have hi2 : i < 2 := hi
      have hsh' := hsh hi2
      dsimp only [gName]
      have hasR : ∀ row ∈ rows, ∀ s ∈ row, Has hv s ∧ Has rv s := fun row hr s hs => ⟨(has4 row hr s hs).1, mv.has (has4 row hr s hs).2⟩
      refine ⟨_, rfl, _, rfl, _, rfl, _, rfl, l, rs, rows, h, _, e, hv, rv, rfl, sm _ _ hl4, hrw4.same sm, by have := ok.k; omega, n60, sm _ _ hh4, he, hasR, fun H6 s6 => ?_⟩
      have t6 := sm.trans s6
      refine ⟨_, rfl, _, _, _, _, _, rfl, rfl, .bl _, T.kb_bool_bool, true, rfl, ?_⟩
      refine iteB (fun c => by cases c) (fun _ => ?_)
      refine ⟨_, rfl, _, rfl, _, rfl, _, rfl, _, rfl, l, rs, rows, h, _, e, hv, rv, rfl, t6 _ _ hl4, hrw4.same t6, n60, t6 _ _ hh4, s6 _ _ he, hasR, rfl, _, rfl, ?_⟩
      refine iteOr (by simp) ?_
      have hasRL : ∀ q ∈ ls, Has rv q.1 ∧ Has rv q.2.1 ∧ 0 < q.2.2 ∧ q.2.2 < 2 ^ 64 := fun q hq => ⟨mv.has (hasL q hq).1, mv.has (hasL q hq).2, (hok q hq).2.2⟩
      refine ⟨_, rfl, _, rfl, g, e, ls, rv, rfl, ⟨xs, t6 _ _ hg4, t6.dts hds4⟩, s6 _ _ he, hasRL, by omega, fun H7 s7 => ?_⟩
      have t7 := t6.trans s7
      have he7 := s7 _ _ (s6 _ _ he)
      refine ⟨_, rfl, _, _, _, _, _, rfl, rfl, .int _, T.kb_int_int, true, rfl, ?_⟩
      refine iteB (fun c => by cases c) (fun _ => ?_)
      refine ⟨_, rfl, _, _, _, _, _, rfl, rfl, .int _, T.kb_int_bool, false, rfl, ?_⟩
      refine iteB (fun c => by cases c) (fun _ => ?_)
      refine ⟨_, rfl, _, rfl, _, rfl, g, d, ls, qv, rfl, ⟨xs, t7 _ _ hg4, t7.dts hds4⟩, t7 _ _ hd, hasC, rfl, _, rfl, ?_⟩
      refine iteOr (by rw [mv.cost hasL]; simp) ?_
      have hd7 := t7 _ _ hd
      -- what was handed in stays
      refine ⟨d, qv, hd7, _, rfl, d, qv, rfl, hd7, fun o => ?_⟩
      have ned : e ≠ d ∨ e = d := (Decidable.em (e = d)).symm
      refine for_keys (fun j σ G => ∃ v11, σ = [some (.ref p), some (.ref m), some (.ref l), some (.ref h), some (.ref g), some (.int (c / 16 % 51)), some (.ref d), some (.ref e), some (.int (0 + (i : Int))), some (.bl ((nbs rows).all (kp1 hv rv (c / 16 % 51)))), some (.int (costL rv ls)), v11] ∧ G = upd H7 d (.frz o (.dK qv)))
        ⟨v11, rfl, rfl⟩ ?_ ?_ ?_
      · rintro j σ G _ ⟨_, rfl, rfl⟩
        exact upd_same
      · rintro j kk x σ G hx ⟨w11, rfl, rfl⟩
        obtain ⟨s, es, hs⟩ := als (kk, x) (List.mem_of_getElem? hx)
        have es' : kk = Sum.inr s := es
        subst es'
        have g1 : DGet (upd H7 d (.frz o (.dK qv))) e (kV (Sum.inr s)) (some (.int (gv qv s + sh))) := by
          rcases ned with n | n
          · exact dget_k (by rw [upd_ne n]; exact he7) (mv.at' s hs)
          · subst n
            rw [hd7] at he7
            cases he7
            exact dget_frz upd_same (mv.at' s hs)
        dsimp only [gName]
        refine ⟨_, rfl, _, rfl, e, _, rfl, g1, _, rfl, _, rfl, d, _, rfl, dget_frz (k := Sum.inr s) upd_same hs.gv, _, rfl, _, _, rfl, rfl, .inr ⟨by decide, by decide⟩, _, _, rfl, rfl, rfl, _, rfl, ?_⟩
        refine iteOr (by
          have : gv qv s + sh = gv qv s + (0 + (i : Int)) * 17 := by omega
          rw [this]
          simp) ?_
        exact ⟨_, rfl, rfl⟩
      · rintro σ G ⟨w11, rfl, rfl⟩
        refine ⟨o, upd_same, ?_⟩
        have t8 : Same H4 (upd (upd H7 d (.frz o (.dK qv))) d (.dK qv)) := fun b u eb => by
          rw [upd_upd]
          by_cases hb : b = d
          · subst hb
            rw [hd] at eb
            cases eb
            exact upd_same
          · rw [upd_ne hb]
            exact t7 _ _ eb
        have hd8 : upd (upd H7 d (.frz o (.dK qv))) d (.dK qv) d = some (.dK qv) := upd_same
        generalize upd (upd H7 d (.frz o (.dK qv))) d (.dK qv) = H8 at t8 hd8 ⊢
        -- moved
        intro z nz
        have s9 : Same H8 (upd H8 z (.dK [])) := Same.new nz
        have h9 : upd H8 z (.dK []) z = some (.dK []) := upd_same
        have nzd : z ≠ d := (ne_of_none hd8 nz).symm
        have nz4 : H4 z = none := none_of t8 nz
        generalize upd H8 z (.dK []) = H9 at s9 h9 ⊢
        have hd9 := s9 _ _ hd8
        have t9 := t8.trans s9
        refine ⟨d, qv, hd9, _, rfl, d, qv, rfl, hd9, fun o2 => ?_⟩
        refine for_keys (fun j σ G => ∃ v11, ∃ rv2 : Kvs, σ = [some (.ref p), some (.ref m), some (.ref l), some (.ref h), some (.ref g), some (.int (c / 16 % 51)), some (.ref d), some (.ref z), some (.int (0 + (i : Int))), some (.bl ((nbs rows).all (kp1 hv rv (c / 16 % 51)))), some (.int (costL rv ls)), v11] ∧ (∀ b u, b ≠ d → H4 b = some u → G b = some u) ∧ G d = some (.frz o2 (.dK qv)) ∧ G z = some (.dK rv2) ∧ rv2.length ≤ j ∧ (∀ (j' : Nat) (s : Str) (x : V), j' < j → qv[j']? = some (Sum.inr s, x) → valV rv2 (Sum.inr s) = some (.int (gv qv s + 17))))
          ⟨_, [], rfl, fun b u hb eb => by rw [upd_ne hb]; exact t9 _ _ eb, upd_same, by rw [upd_ne nzd]; exact h9, Nat.le_refl _, fun j' _ _ hj' => absurd hj' (Nat.not_lt_zero _)⟩ ?_ ?_ ?_
        · rintro j σ G _ ⟨_, _, rfl, _, hG, _⟩
          exact hG
        · rintro j kk x σ G hx ⟨w12, rv2, rfl, tG, hG, hz, kz, hrv⟩
          have hj : j < qv.length := (List.getElem?_eq_some_iff.mp hx).1
          obtain ⟨s, es, hs⟩ := als (kk, x) (List.mem_of_getElem? hx)
          have es' : kk = Sum.inr s := es
          subst es'
          dsimp only [gName]
          refine ⟨_, rfl, _, rfl, d, _, rfl, dget_frz (k := Sum.inr s) hG hs.gv, _, _, rfl, rfl, _, rfl, _, rfl, z, _, rfl, DPut.k (k := Sum.inr s) hz (by rw [sizeLine_eq]; omega), ?_⟩
          refine ⟨_, putK rv2 (Sum.inr s) (.int (gv qv s + 17)), rfl, fun b u hb eb => ?_, by rw [upd_ne (Ne.symm nzd)]; exact hG, upd_same, by have := length_putK rv2 (Sum.inr s) (.int (gv qv s + 17)); omega, fun j' s' x' hj' hx' => ?_⟩
          · rw [upd_ne (ne_of_none eb nz4)]
            exact tG b u hb eb
          · rw [valV_put]
            by_cases z : s' = s
            · rw [if_pos (by rw [z]), z]
            · rw [if_neg (fun y => z (Sum.inr.inj y))]
              refine hrv j' s' x' ?_ hx'
              rcases Nat.lt_or_eq_of_le (Nat.le_of_lt_succ hj') with q | q
              · exact q
              · subst q
                rw [hx] at hx'
                cases hx'
                exact absurd rfl z
        · rintro σ G ⟨w12, rv2, rfl, tG, hG, hz, kz, hrv⟩
          refine ⟨o2, hG, ?_⟩
          refine ⟨_, _, _, _, z, rv2, 17, rfl, fun b u eb => ?_, by rw [upd_ne nzd]; exact hz, ⟨fun s hs => ?_⟩, fun h2 => ?_⟩
          · by_cases hb : b = d
            · subst hb
              rw [hd] at eb
              cases eb
              exact upd_same
            · rw [upd_ne hb]
              exact tG b u hb eb
          · obtain ⟨pr, hpr, ep⟩ := List.mem_map.mp (valV_in hs.gv)
            obtain ⟨j', hj'⟩ := List.mem_iff_getElem?.mp hpr
            obtain ⟨k1, x1⟩ := pr
            have ep' : k1 = Sum.inr s := ep
            subst ep'
            exact hrv j' s x1 (List.getElem?_eq_some_iff.mp hj').1 hj'
          · have : i = 0 := by omega
            subst this
            rfl
    · rintro σ H' ⟨v8, v9, v10, v11, e, rv, sh, rfl, sm, he, mv, hsh⟩
      exact k _
end
end K62
namespace K62
open PySem L2
set_option maxHeartbeats 4000000 in
theorem all_mk {l : PySem.W.OpenLaw} {w : World} {K : PySem.W.Frag} {h : Heap} {mg : Str → Option Value} {fa : Addr}
    {fapart : Addr} {odapart anapart : Option Addr} {slapart : Array (Option Value)} {ocapart kVapart dcapart pmapart cdapart ctapart : Value}
    {fneighbours : Addr} {odneighbours anneighbours : Option Addr} {slneighbours : Array (Option Value)} {ocneighbours kVneighbours dcneighbours pmneighbours cdneighbours ctneighbours : Value}
    {fkeeps_gap : Addr} {odkeeps_gap ankeeps_gap : Option Addr} {slkeeps_gap : Array (Option Value)} {ockeeps_gap kVkeeps_gap dckeeps_gap pmkeeps_gap cdkeeps_gap ctkeeps_gap : Value}
    {fcost_of : Addr} {odcost_of ancost_of : Option Addr} {slcost_of : Array (Option Value)} {occost_of kVcost_of dccost_of pmcost_of cdcost_of ctcost_of : Value}
    {f_law_cell_at : Addr} {od_law_cell_at an_law_cell_at : Option Addr} {sl_law_cell_at : Array (Option Value)} {oc_law_cell_at kV_law_cell_at dc_law_cell_at pm_law_cell_at cd_law_cell_at ct_law_cell_at : Value}
    {f_law_mixed : Addr} {od_law_mixed an_law_mixed : Option Addr} {sl_law_mixed : Array (Option Value)} {oc_law_mixed kV_law_mixed dc_law_mixed pm_law_mixed cd_law_mixed ct_law_mixed : Value}
    {f_law_rows : Addr} {od_law_rows an_law_rows : Option Addr} {sl_law_rows : Array (Option Value)} {oc_law_rows kV_law_rows dc_law_rows pm_law_rows cd_law_rows ct_law_rows : Value}
    {f_law_lines : Addr} {od_law_lines an_law_lines : Option Addr} {sl_law_lines : Array (Option Value)} {oc_law_lines kV_law_lines dc_law_lines pm_law_lines cd_law_lines ct_law_lines : Value}
    {f_law_places : Addr} {od_law_places an_law_places : Option Addr} {sl_law_places : Array (Option Value)} {oc_law_places kV_law_places dc_law_places pm_law_places cd_law_places ct_law_places : Value}
    {f_law_keeps : Addr} {od_law_keeps an_law_keeps : Option Addr} {sl_law_keeps : Array (Option Value)} {oc_law_keeps kV_law_keeps dc_law_keeps pm_law_keeps cd_law_keeps ct_law_keeps : Value}
    {f_law_cost : Addr} {od_law_cost an_law_cost : Option Addr} {sl_law_cost : Array (Option Value)} {oc_law_cost kV_law_cost dc_law_cost pm_law_cost cd_law_cost ct_law_cost : Value}
    {flaw : Addr} {odlaw anlaw : Option Addr} {sllaw : Array (Option Value)} {oclaw kVlaw dclaw pmlaw cdlaw ctlaw : Value}
    (X : K.In h) (G : h.Ns mainGlobals mg) (hfa : mg "law" = some (.ref fa))
    (aapart : PySem.W.nsIn K mainGlobals "apart" = some (some (.ref fapart)))
    (lapart : K.lookup fapart = some ⟨ocapart, odapart, .func (PySem.W.fnOf "apart" "apart" (defArgs s_apart) (defBody s_apart) (defScope s_apart) .none kVapart dcapart pmapart anapart cdapart ctapart), slapart⟩)
    (ccapart : PySem.W.codeIn K cdapart "apart" = true)
    (kapart : PySem.W.keepIn K (.ref fapart) = true)
    (aneighbours : PySem.W.nsIn K mainGlobals "neighbours" = some (some (.ref fneighbours)))
    (lneighbours : K.lookup fneighbours = some ⟨ocneighbours, odneighbours, .func (PySem.W.fnOf "neighbours" "neighbours" (defArgs s_neighbours) (defBody s_neighbours) (defScope s_neighbours) .none kVneighbours dcneighbours pmneighbours anneighbours cdneighbours ctneighbours), slneighbours⟩)
    (ccneighbours : PySem.W.codeIn K cdneighbours "neighbours" = true)
    (kneighbours : PySem.W.keepIn K (.ref fneighbours) = true)
    (akeeps_gap : PySem.W.nsIn K mainGlobals "keeps_gap" = some (some (.ref fkeeps_gap)))
    (lkeeps_gap : K.lookup fkeeps_gap = some ⟨ockeeps_gap, odkeeps_gap, .func (PySem.W.fnOf "keeps_gap" "keeps_gap" (defArgs s_keeps_gap) (defBody s_keeps_gap) (defScope s_keeps_gap) .none kVkeeps_gap dckeeps_gap pmkeeps_gap ankeeps_gap cdkeeps_gap ctkeeps_gap), slkeeps_gap⟩)
    (cckeeps_gap : PySem.W.codeIn K cdkeeps_gap "keeps_gap" = true)
    (kkeeps_gap : PySem.W.keepIn K (.ref fkeeps_gap) = true)
    (acost_of : PySem.W.nsIn K mainGlobals "cost_of" = some (some (.ref fcost_of)))
    (lcost_of : K.lookup fcost_of = some ⟨occost_of, odcost_of, .func (PySem.W.fnOf "cost_of" "cost_of" (defArgs s_cost_of) (defBody s_cost_of) (defScope s_cost_of) .none kVcost_of dccost_of pmcost_of ancost_of cdcost_of ctcost_of), slcost_of⟩)
    (cccost_of : PySem.W.codeIn K cdcost_of "cost_of" = true)
    (kcost_of : PySem.W.keepIn K (.ref fcost_of) = true)
    (a_law_cell_at : PySem.W.nsIn K mainGlobals "_law_cell_at" = some (some (.ref f_law_cell_at)))
    (l_law_cell_at : K.lookup f_law_cell_at = some ⟨oc_law_cell_at, od_law_cell_at, .func (PySem.W.fnOf "_law_cell_at" "_law_cell_at" (defArgs s__law_cell_at) (defBody s__law_cell_at) (defScope s__law_cell_at) .none kV_law_cell_at dc_law_cell_at pm_law_cell_at an_law_cell_at cd_law_cell_at ct_law_cell_at), sl_law_cell_at⟩)
    (cc_law_cell_at : PySem.W.codeIn K cd_law_cell_at "_law_cell_at" = true)
    (k_law_cell_at : PySem.W.keepIn K (.ref f_law_cell_at) = true)
    (a_law_mixed : PySem.W.nsIn K mainGlobals "_law_mixed" = some (some (.ref f_law_mixed)))
    (l_law_mixed : K.lookup f_law_mixed = some ⟨oc_law_mixed, od_law_mixed, .func (PySem.W.fnOf "_law_mixed" "_law_mixed" (defArgs s__law_mixed) (defBody s__law_mixed) (defScope s__law_mixed) .none kV_law_mixed dc_law_mixed pm_law_mixed an_law_mixed cd_law_mixed ct_law_mixed), sl_law_mixed⟩)
    (cc_law_mixed : PySem.W.codeIn K cd_law_mixed "_law_mixed" = true)
    (k_law_mixed : PySem.W.keepIn K (.ref f_law_mixed) = true)
    (a_law_rows : PySem.W.nsIn K mainGlobals "_law_rows" = some (some (.ref f_law_rows)))
    (l_law_rows : K.lookup f_law_rows = some ⟨oc_law_rows, od_law_rows, .func (PySem.W.fnOf "_law_rows" "_law_rows" (defArgs s__law_rows) (defBody s__law_rows) (defScope s__law_rows) .none kV_law_rows dc_law_rows pm_law_rows an_law_rows cd_law_rows ct_law_rows), sl_law_rows⟩)
    (cc_law_rows : PySem.W.codeIn K cd_law_rows "_law_rows" = true)
    (k_law_rows : PySem.W.keepIn K (.ref f_law_rows) = true)
    (a_law_lines : PySem.W.nsIn K mainGlobals "_law_lines" = some (some (.ref f_law_lines)))
    (l_law_lines : K.lookup f_law_lines = some ⟨oc_law_lines, od_law_lines, .func (PySem.W.fnOf "_law_lines" "_law_lines" (defArgs s__law_lines) (defBody s__law_lines) (defScope s__law_lines) .none kV_law_lines dc_law_lines pm_law_lines an_law_lines cd_law_lines ct_law_lines), sl_law_lines⟩)
    (cc_law_lines : PySem.W.codeIn K cd_law_lines "_law_lines" = true)
    (k_law_lines : PySem.W.keepIn K (.ref f_law_lines) = true)
    (a_law_places : PySem.W.nsIn K mainGlobals "_law_places" = some (some (.ref f_law_places)))
    (l_law_places : K.lookup f_law_places = some ⟨oc_law_places, od_law_places, .func (PySem.W.fnOf "_law_places" "_law_places" (defArgs s__law_places) (defBody s__law_places) (defScope s__law_places) .none kV_law_places dc_law_places pm_law_places an_law_places cd_law_places ct_law_places), sl_law_places⟩)
    (cc_law_places : PySem.W.codeIn K cd_law_places "_law_places" = true)
    (k_law_places : PySem.W.keepIn K (.ref f_law_places) = true)
    (a_law_keeps : PySem.W.nsIn K mainGlobals "_law_keeps" = some (some (.ref f_law_keeps)))
    (l_law_keeps : K.lookup f_law_keeps = some ⟨oc_law_keeps, od_law_keeps, .func (PySem.W.fnOf "_law_keeps" "_law_keeps" (defArgs s__law_keeps) (defBody s__law_keeps) (defScope s__law_keeps) .none kV_law_keeps dc_law_keeps pm_law_keeps an_law_keeps cd_law_keeps ct_law_keeps), sl_law_keeps⟩)
    (cc_law_keeps : PySem.W.codeIn K cd_law_keeps "_law_keeps" = true)
    (k_law_keeps : PySem.W.keepIn K (.ref f_law_keeps) = true)
    (a_law_cost : PySem.W.nsIn K mainGlobals "_law_cost" = some (some (.ref f_law_cost)))
    (l_law_cost : K.lookup f_law_cost = some ⟨oc_law_cost, od_law_cost, .func (PySem.W.fnOf "_law_cost" "_law_cost" (defArgs s__law_cost) (defBody s__law_cost) (defScope s__law_cost) .none kV_law_cost dc_law_cost pm_law_cost an_law_cost cd_law_cost ct_law_cost), sl_law_cost⟩)
    (cc_law_cost : PySem.W.codeIn K cd_law_cost "_law_cost" = true)
    (k_law_cost : PySem.W.keepIn K (.ref f_law_cost) = true)
    (alaw : PySem.W.nsIn K mainGlobals "law" = some (some (.ref flaw)))
    (llaw : K.lookup flaw = some ⟨oclaw, odlaw, .func (PySem.W.fnOf "law" "law" (defArgs s_law) (defBody s_law) (defScope s_law) .none kVlaw dclaw pmlaw anlaw cdlaw ctlaw), sllaw⟩)
    (cclaw : PySem.W.codeIn K cdlaw "law" = true)
    (klaw : PySem.W.keepIn K (.ref flaw) = true)
    (ekb_int_int : PySem.W.kitOne K (.type "int") (.type "int") = some true)
    (ekb_int_bool : PySem.W.kitOne K (.type "int") (.type "bool") = some false)
    (ekb_bool_bool : PySem.W.kitOne K (.type "bool") (.type "bool") = some true)
    (zabs : PySem.W.nsIn K mainGlobals "abs" = some none)
    (zall : PySem.W.nsIn K mainGlobals "all" = some none)
    (zbool : PySem.W.nsIn K mainGlobals "bool" = some none)
    (zdict : PySem.W.nsIn K mainGlobals "dict" = some none)
    (zenumerate : PySem.W.nsIn K mainGlobals "enumerate" = some none)
    (zint : PySem.W.nsIn K mainGlobals "int" = some none)
    (zisinstance : PySem.W.nsIn K mainGlobals "isinstance" = some none)
    (zlen : PySem.W.nsIn K mainGlobals "len" = some none)
    (zmax : PySem.W.nsIn K mainGlobals "max" = some none)
    (zrange : PySem.W.nsIn K mainGlobals "range" = some none)
    (zsum : PySem.W.nsIn K mainGlobals "sum" = some none)
    (zzip : PySem.W.nsIn K mainGlobals "zip" = some none) :
    ∃ fd : FuncData, (∀ (s : Shared) (v : Value), BindsTo s fd ⟨[v], []⟩ [("_law_script", v)]) ∧ ∀ base : Heap, K.In base → base.Ns mainGlobals mg → FnOk l.prog w K mg base CX0 5 fa fd ["_law_script"] (spLaw K) := by
  have e := hfa.symm.trans (PySem.W.mg_of X G alaw)
  cases e
  have T : Tx K mg ⟨()⟩ := ⟨⟨_, _, [], funD_mk lapart ccapart, PySem.W.mg_of X G aapart, kapart, (.all (len4 fun _ _ _ _ => rfl)), .nil⟩,
    ⟨_, _, [], funD_mk lneighbours ccneighbours, PySem.W.mg_of X G aneighbours, kneighbours, (.all (len1 fun _ => rfl)), .nil⟩,
    ⟨_, _, [], funD_mk lkeeps_gap cckeeps_gap, PySem.W.mg_of X G akeeps_gap, kkeeps_gap, (.all (len4 fun _ _ _ _ => rfl)), .nil⟩,
    ⟨_, _, [], funD_mk lcost_of cccost_of, PySem.W.mg_of X G acost_of, kcost_of, (.all (len2 fun _ _ => rfl)), .nil⟩,
    ⟨_, _, [], funD_mk l_law_cell_at cc_law_cell_at, PySem.W.mg_of X G a_law_cell_at, k_law_cell_at, (.all (len2 fun _ _ => rfl)), .nil⟩,
    ⟨_, _, [], funD_mk l_law_mixed cc_law_mixed, PySem.W.mg_of X G a_law_mixed, k_law_mixed, (.all (len2 fun _ _ => rfl)), .nil⟩,
    ⟨_, _, [], funD_mk l_law_rows cc_law_rows, PySem.W.mg_of X G a_law_rows, k_law_rows, (.all (len1 fun _ => rfl)), .nil⟩,
    ⟨_, _, [], funD_mk l_law_lines cc_law_lines, PySem.W.mg_of X G a_law_lines, k_law_lines, (.all (len2 fun _ _ => rfl)), .nil⟩,
    ⟨_, _, [], funD_mk l_law_places cc_law_places, PySem.W.mg_of X G a_law_places, k_law_places, (.all (len4 fun _ _ _ _ => rfl)), .nil⟩,
    ⟨_, _, [], funD_mk l_law_keeps cc_law_keeps, PySem.W.mg_of X G a_law_keeps, k_law_keeps, (.all (len4 fun _ _ _ _ => rfl)), .nil⟩,
    ⟨_, _, [], funD_mk l_law_cost cc_law_cost, PySem.W.mg_of X G a_law_cost, k_law_cost, (.all (len2 fun _ _ => rfl)), .nil⟩,
    ⟨_, _, [], funD_mk llaw cclaw, PySem.W.mg_of X G alaw, klaw, (.all (len1 fun _ => rfl)), .nil⟩,
    ekb_int_int,
    ekb_int_bool,
    ekb_bool_bool,
    PySem.W.mg_none_of X G zabs,
    PySem.W.mg_none_of X G zall,
    PySem.W.mg_none_of X G zbool,
    PySem.W.mg_none_of X G zdict,
    PySem.W.mg_none_of X G zenumerate,
    PySem.W.mg_none_of X G zint,
    PySem.W.mg_none_of X G zisinstance,
    PySem.W.mg_none_of X G zlen,
    PySem.W.mg_none_of X G zmax,
    PySem.W.mg_none_of X G zrange,
    PySem.W.mg_none_of X G zsum,
    PySem.W.mg_none_of X G zzip⟩
  exact ⟨_, fun s v => .of_eq rfl, fun base _ _ => ok_law T _ _ (funD_mk (st := s_law) llaw cclaw)⟩
theorem walk {l : PySem.W.OpenLaw} {q : Program} {loose : List Str} {XP : (Str → Option Value) → Heap → Prop} {YP : World → Heap → Prop} {d : DefRec} {K : Params → PySem.W.Frag} (hn : l.most = some 63) (hdf : d.params.defaults = [])
    (hY : ∀ (w : World) (h : Heap), YP w h → (K w.params).In h)
    (F : ∀ (w : World) (mg : Str → Option Value) (fa : Addr) (h : Heap), (K w.params).In h → h.Ns mainGlobals mg → mg d.name = some (.ref fa) →
      ∃ fd : FuncData, (∀ (s : Shared) (u : Value), BindsTo s fd ⟨[u], []⟩ [("_law_script", u)]) ∧ ∀ base : Heap, (K w.params).In base → base.Ns mainGlobals mg → FnOk l.prog w (K w.params) mg base CX0 5 fa fd ["_law_script"] (spLaw (K w.params))) :
    PySem.W.WalkO q loose XP YP l.row.toRowW d [] (fun f vs => PySem.call f vs) :=
  L2.walk_of (n := 63) (k := 5) (x := "_law_script") (CX := fun _ => CX0) (sp := fun w => spLaw (K w.params)) hn (by decide) hdf ⟨by decide, by decide⟩ hY F (fun _ _ a ns hl _ hS => ⟨a, ns, rfl, hS, hl, fun _ => rfl⟩) fun _ _ _ _ _ z => z
end K62
open PySem PySem.W PyProof.Rows
set_option maxRecDepth 100000 in
set_option maxHeartbeats 0 in
theorem PySem.Challenge.cw_layerdraw_k62_gaps_and_costs_holds : PySem.Challenge.rw_layerdraw_k62_gaps_and_costs.Holds := by
  w_on; o_law; k_head; (case hw => w_witness2)
  k_fill
  refine K62.walk (l := PySem.Challenge.rw_layerdraw_k62_gaps_and_costs) rfl rfl (fun w h Y => PySem.W.kIn_of Y) ?F
  case F =>
    intro w mg fa h KX G hmg
    refine' K62.all_mk KX G hmg ?aapart ?lapart ?ccapart ?kapart ?aneighbours ?lneighbours ?ccneighbours ?kneighbours ?akeeps_gap ?lkeeps_gap ?cckeeps_gap ?kkeeps_gap ?acost_of ?lcost_of ?cccost_of ?kcost_of ?a_law_cell_at ?l_law_cell_at ?cc_law_cell_at ?k_law_cell_at ?a_law_mixed ?l_law_mixed ?cc_law_mixed ?k_law_mixed ?a_law_rows ?l_law_rows ?cc_law_rows ?k_law_rows ?a_law_lines ?l_law_lines ?cc_law_lines ?k_law_lines ?a_law_places ?l_law_places ?cc_law_places ?k_law_places ?a_law_keeps ?l_law_keeps ?cc_law_keeps ?k_law_keeps ?a_law_cost ?l_law_cost ?cc_law_cost ?k_law_cost ?alaw ?llaw ?cclaw ?klaw ?ekb_int_int ?ekb_int_bool ?ekb_bool_bool ?zabs ?zall ?zbool ?zdict ?zenumerate ?zint ?zisinstance ?zlen ?zmax ?zrange ?zsum ?zzip
    (case aapart => first | k_is | kit_is | kernel_rfl | rfl)
    (case lapart => first | k_is | kit_is | kernel_rfl | rfl)
    (case ccapart => first | k_is | kit_is | kernel_rfl | rfl)
    (case kapart => first | k_is | kit_is | kernel_rfl | rfl)
    (case aneighbours => first | k_is | kit_is | kernel_rfl | rfl)
    (case lneighbours => first | k_is | kit_is | kernel_rfl | rfl)
    (case ccneighbours => first | k_is | kit_is | kernel_rfl | rfl)
    (case kneighbours => first | k_is | kit_is | kernel_rfl | rfl)
    (case akeeps_gap => first | k_is | kit_is | kernel_rfl | rfl)
    (case lkeeps_gap => first | k_is | kit_is | kernel_rfl | rfl)
    (case cckeeps_gap => first | k_is | kit_is | kernel_rfl | rfl)
    (case kkeeps_gap => first | k_is | kit_is | kernel_rfl | rfl)
    (case acost_of => first | k_is | kit_is | kernel_rfl | rfl)
    (case lcost_of => first | k_is | kit_is | kernel_rfl | rfl)
    (case cccost_of => first | k_is | kit_is | kernel_rfl | rfl)
    (case kcost_of => first | k_is | kit_is | kernel_rfl | rfl)
    (case a_law_cell_at => first | k_is | kit_is | kernel_rfl | rfl)
    (case l_law_cell_at => first | k_is | kit_is | kernel_rfl | rfl)
    (case cc_law_cell_at => first | k_is | kit_is | kernel_rfl | rfl)
    (case k_law_cell_at => first | k_is | kit_is | kernel_rfl | rfl)
    (case a_law_mixed => first | k_is | kit_is | kernel_rfl | rfl)
    (case l_law_mixed => first | k_is | kit_is | kernel_rfl | rfl)
    (case cc_law_mixed => first | k_is | kit_is | kernel_rfl | rfl)
    (case k_law_mixed => first | k_is | kit_is | kernel_rfl | rfl)
    (case a_law_rows => first | k_is | kit_is | kernel_rfl | rfl)
    (case l_law_rows => first | k_is | kit_is | kernel_rfl | rfl)
    (case cc_law_rows => first | k_is | kit_is | kernel_rfl | rfl)
    (case k_law_rows => first | k_is | kit_is | kernel_rfl | rfl)
    (case a_law_lines => first | k_is | kit_is | kernel_rfl | rfl)
    (case l_law_lines => first | k_is | kit_is | kernel_rfl | rfl)
    (case cc_law_lines => first | k_is | kit_is | kernel_rfl | rfl)
    (case k_law_lines => first | k_is | kit_is | kernel_rfl | rfl)
    (case a_law_places => first | k_is | kit_is | kernel_rfl | rfl)
    (case l_law_places => first | k_is | kit_is | kernel_rfl | rfl)
    (case cc_law_places => first | k_is | kit_is | kernel_rfl | rfl)
    (case k_law_places => first | k_is | kit_is | kernel_rfl | rfl)
    (case a_law_keeps => first | k_is | kit_is | kernel_rfl | rfl)
    (case l_law_keeps => first | k_is | kit_is | kernel_rfl | rfl)
    (case cc_law_keeps => first | k_is | kit_is | kernel_rfl | rfl)
    (case k_law_keeps => first | k_is | kit_is | kernel_rfl | rfl)
    (case a_law_cost => first | k_is | kit_is | kernel_rfl | rfl)
    (case l_law_cost => first | k_is | kit_is | kernel_rfl | rfl)
    (case cc_law_cost => first | k_is | kit_is | kernel_rfl | rfl)
    (case k_law_cost => first | k_is | kit_is | kernel_rfl | rfl)
    (case alaw => first | k_is | kit_is | kernel_rfl | rfl)
    (case llaw => first | k_is | kit_is | kernel_rfl | rfl)
    (case cclaw => first | k_is | kit_is | kernel_rfl | rfl)
    (case klaw => first | k_is | kit_is | kernel_rfl | rfl)
    (case ekb_int_int => first | k_is | kit_is | kernel_rfl | rfl)
    (case ekb_int_bool => first | k_is | kit_is | kernel_rfl | rfl)
    (case ekb_bool_bool => first | k_is | kit_is | kernel_rfl | rfl)
    (case zabs => first | k_is | kit_is | kernel_rfl | rfl)
    (case zall => first | k_is | kit_is | kernel_rfl | rfl)
    (case zbool => first | k_is | kit_is | kernel_rfl | rfl)
    (case zdict => first | k_is | kit_is | kernel_rfl | rfl)
    (case zenumerate => first | k_is | kit_is | kernel_rfl | rfl)
    (case zint => first | k_is | kit_is | kernel_rfl | rfl)
    (case zisinstance => first | k_is | kit_is | kernel_rfl | rfl)
    (case zlen => first | k_is | kit_is | kernel_rfl | rfl)
    (case zmax => first | k_is | kit_is | kernel_rfl | rfl)
    (case zrange => first | k_is | kit_is | kernel_rfl | rfl)
    (case zsum => first | k_is | kit_is | kernel_rfl | rfl)
    (case zzip => first | k_is | kit_is | kernel_rfl | rfl)

